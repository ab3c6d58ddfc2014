import PyProof.Rows.All
import Wide.All
import OpenK.AllK
import Wide.FinOn
import Lean
import PyProof.EqAt
import PyProof.EqKinds
import PyProof.TupleCall

import PySem.SetOps
import PySem.SetTable
import PyProof.SetKind
import PyProof.DictKinds
import PyProof.Rows.SortRunsK
import PyProof.Rows.SortStr
import PyProof.SetRoads
import KE.KDictList
import PySem.Challenge.RW_earlyscribe_k15_all_written
set_option maxHeartbeats 4000000
set_option genSizeOf false
set_option genSizeOfSpec false
set_option maxRecDepth 100000
set_option Elab.async false
set_option linter.all false
set_option maxRecDepth 100000
/-! tokens only grow. -/
namespace L2
open PySem PySem.Spec PyProof.Rows
theorem setGen_toks (s : Shared) (g : Nat) (x : GenState) : (s.setGen g x).toks = s.toks := rfl
theorem runs_toks {M : Model} {Γ : PySem.Ctx} {p : Pos} {t : Sem Fin} {fs : List Frame} {s s' : Shared} {e : End} (h : Runs M Γ p t fs s e s') : s.toks ≤ s'.toks := by
  induction h <;> first | exact Nat.le_refl _ | assumption | (simp only [setGen_toks] at *; omega) | (dsimp only at *; omega) | omega
theorem wp_toksN {α : Type} {M : Model} {Γ : PySem.Ctx} {Q : α → Pos → Shared → Prop} {E : Value → Pos → Shared → Prop} (n : Nat) (t : Sem α) (p : Pos) (s : Shared) (hn : n ≤ s.toks)
    (h : Sem.wp M Γ t (fun a p s' => n ≤ s'.toks → Q a p s') (fun e p s' => n ≤ s'.toks → E e p s') p s) : Sem.wp M Γ t Q E p s := by
  induction t generalizing p s with
  | pure x => exact h hn
  | raise v => exact h hn
  | unsupported | finish | yield | fork | await | register => exact h
  | rule _ k ih | «at» _ k ih | alloc _ k ih | loadIfAlive _ k ih | point _ k ih | ask k ih | os _ _ k ih | handled _ k ih | newGen _ k ih | stack k ih | thread k ih => exact ih _ _ _ hn h
  | fresh k ih => exact ih _ _ _ (Nat.le_succ_of_le hn) h
  | load a _ k ih | genState a k ih => obtain ⟨o, ho, h⟩ := h; exact ⟨o, ho, ih _ _ _ hn h⟩
  | update a _ f k ih | choose _ _ k ih => obtain ⟨ha, h⟩ := h; exact ⟨ha, ih _ _ _ hn h⟩
  | call c hh g l k ih =>
    obtain ⟨r, s1, hr, h⟩ := h
    exact ⟨r, s1, hr, ih r _ _ (Nat.le_trans hn (runs_toks hr)) h⟩
  | resume g r l k ih =>
    obtain ⟨res, s1, hw, h⟩ := h
    refine ⟨res, s1, hw, ih _ _ _ (Nat.le_trans hn ?_) h⟩
    unfold Wakes at hw
    split at hw
    · exact hw.elim
    · split at hw
      · obtain ⟨e1, s2, h1, _, _, rfl⟩ := hw
        have := runs_toks h1
        simpa [setGen_toks] using this
      · rw [hw.2]; exact Nat.le_refl _
      · rw [hw.2]; exact Nat.le_refl _
    · obtain ⟨e1, s2, h1, _, _, rfl⟩ := hw
      have := runs_toks h1
      simpa [setGen_toks] using this
    · rw [hw.2]; exact Nat.le_refl _
    · rw [hw.2]; exact Nat.le_refl _
theorem wpTk {α : Type} {M : Model} {A : Around} {t : Sem α} {Q : α → Shared → Prop} {E : Value → Shared → Prop} {s : Shared} (h0 : 0 < s.toks)
    (h : wpAny M A t (fun a s' => 0 < s'.toks → Q a s') (fun e s' => 0 < s'.toks → E e s') s) : wpAny M A t Q E s := fun Γ p hΓ =>
  wp_toksN 1 t p s h0 (h Γ p hΓ)
theorem codeTk {M : Model} {A : Around} {c : Code} {R : Result → Shared → Prop} {s : Shared} (h0 : 0 < s.toks) (h : codeAny M A c (fun r s' => 0 < s'.toks → R r s') s) : codeAny M A c R s := fun Γ p e b =>
  let ⟨r, s', hr, q⟩ := h Γ p e b
  ⟨r, s', hr, q (Nat.lt_of_lt_of_le h0 (runs_toks hr))⟩
theorem post_vs {s : Shared} {c : Prop} [Decidable c] {y z : Str} {t : Tok} {Q : Value → Shared → Prop} (ht : t ≠ 0) (h0 : 0 < s.toks)
    (h : (if c then y else z).length ≤ sizeLine ∧ ∀ u k, u ≠ 0 → 0 < k → Q (.str (if c then y else z) u) { s with toks := k }) : (if c then Made.val (.str y t) else Made.str z).post Q s := by
  obtain ⟨h1, h2⟩ := h
  split
  · rename_i e; rw [if_pos e] at h2; exact h2 t s.toks ht h0
  · rename_i e; rw [if_neg e] at h1 h2; exact ⟨h1, h2 s.toks (s.toks + 1) (Nat.ne_of_gt h0) (Nat.succ_pos _)⟩
end L2

set_option Elab.async false
set_option linter.all false
set_option maxRecDepth 100000
/-! the law's call where tokens stand above nought. -/
namespace L2
open PySem PySem.W PySem.Spec PyProof.Rows
section
variable {r : OpenRow} {q : Program} {loose : List Str} {Xt : Shared → Bool} {XP : (Str → Option Value) → Heap → Prop} {α : Type} {Yf : Shared → α} {Ya : World → α} {YP : World → Heap → Prop} {d : DefRec} {kwd : List (Str × Expr)} {N : Nat}
abbrev WalkT (q : Program) (loose : List Str) (XP : (Str → Option Value) → Heap → Prop) (YP : World → Heap → Prop) (r : RowW) (d : DefRec) (kwd : List (Str × Expr)) : Prop :=
  ∀ (w : World) (t u : Shared) (mg mb : Str → Option Value), 0 < u.toks → Ground q loose r.records XP w t mg mb u.heap → YP w u.heap → ∀ (b : Addr) (ob : Obj) (p1 p2 p3 p4 p5 : Value), u.heap.get? b = some ob →
    ob.data = .func { Calls.docDef d.name d.params d.body d.scope p1 p2 p3 with defaults := p4, kwdefaults := p5 } → u.heap.CodeRec p2 d.name → Dflts mg u.heap d.params kwd p4 p5 → mg d.name = some (.ref b) → u.gens = #[] →
    ∀ (xs : List WData) (vs : List Value) (bs : List Addr), r.claim.pre xs = true → WData.layableAll xs = true → ReadsAllW r.records (classAt t.heap) u.heap vs xs bs → WellAll w.params u.heap vs xs → (∀ c ∈ bs, (c == sysModules) = false) →
      wpAny (model r.prog w) callerA (PySem.call (.ref b) vs) (fun x z => GoodWG r.claim (classAt t.heap) (ExcName.means t.heap) xs u (.ok (.ret x)) z)
        (fun x z => GoodWG r.claim (classAt t.heap) (ExcName.means t.heap) xs u (.error x) z) u
theorem holds_tk (left : LeftO r.prog q loose Xt Yf Ya N) (tk : ∀ w s, Yf s = Ya w → 0 < s.toks)
    (hY : ∀ w s, Yf s = Ya w → YP w s.heap) (hYk : ∀ w h h', YP w h → (∀ b o, h.get? b = some o → h'.get? b = some o) → YP w h')
    (hX : ∀ s, Xt s = true → XP (s.heap.nsMap mainGlobals) s.heap) (hXk : ∀ mg h h', XP mg h → (∀ b o, h.get? b = some o → h'.get? b = some o) → XP mg h')
    (hdef : defOf q r.name = some (d, kwd)) (hp : r.prog.theDef r.name = some (d.params, d.body, d.scope)) (hk : kwWritten? d.params.kwonlyargs d.params.kw_defaults = some kwd)
    (hRf : ∀ s, Xt s = true → RecFacts r.records s.heap) (hwr : (!r.writes || r.records.isEmpty) = true)
    (k1 : r.wellSaid = true) (ok : (chainsOk q && opensWell r.prog && (frees r.toRowW && r.within.isEmpty)) = true) (hb : r.prog.bare) (hw : r.toRowW.promised)
    (call : WalkT q loose XP YP r.toRowW d kwd) : r.Holds := by
  obtain ⟨c1, c2⟩ := Bool.and_eq_true_iff.mp ok
  obtain ⟨c3, c4⟩ := Bool.and_eq_true_iff.mp c1
  obtain ⟨c5, c6⟩ := Bool.and_eq_true_iff.mp c2
  obtain ⟨f1, f2, f3, f4, f5⟩ := frees_parts c5
  refine ⟨k1, hw, ⟨hb, c4, by show r.toRowW.makers.map _ = []; rw [f5]; rfl⟩, hw.witness, fun w => ⟨(left.behind hX c3 w).1, fun z hz => ?_⟩⟩
  obtain ⟨t, t1, t2, u, uT, uS, ug, un, G1, uy⟩ := (left.behind (XP := fun m h => XP m h ∧ RecFacts r.records h) (fun s hs => ⟨hX s hs, hRf s hs⟩) c3 w).2 z hz
  have G2 : Ground q loose [] XP w u (u.heap.nsMap mainGlobals) (u.heap.nsMap builtinsNs) u.heap :=
    ⟨G1.T, G1.B, G1.D, G1.TE, G1.TD, G1.W, G1.X.1, G1.cls, G1.has, G1.apart, G1.once, G1.K⟩
  refine ⟨t, t1, t2, u, uT, fun n hn => ?_, G1.X.2.1, G1.X.2.2.1, ?_⟩
  · obtain rfl : n = r.name := by split at hn <;> simp_all
    exact pinned_of_view un G2 hdef hp hk
  have ge : u.gens = #[] := Array.eq_empty_of_size_eq_zero (beq_iff_eq.mp ug)
  have G3 : Ground q loose r.records XP w u _ _ u.heap := G1.X.2.ground G2
  refine ClaimW.callFrom_of_specG (c := r.toRowW.claim) uS ge fun xs hpre hlay od hod => ?_
  obtain ⟨⟨vs, v⟩, la⟩ := Option.isSome_iff_exists.mp (layAllW_isSome (P := w.params) (ord := od) G3.has xs r.toRowW.args u (pre_splitW hpre).1)
  have kp := layAllW_keeps _ _ _ la
  have rest := layAllW_rest _ _ _ la
  obtain ⟨bs, b1, b2, b3⟩ := reads_layAllW hod _ _ _ la hlay v.heap (fun _ _ e => e)
  have L : Laid r.records w u v xs vs bs := ⟨⟨od, hod, la⟩, b1, b2, b3, kp, rest.1.trans ge, rest.2.2.1⟩
  have G4 := G3.keeps hXk kp
  obtain ⟨a, o, pm, cd, doc, dV, kV, h1, h2, h3, h4, h5⟩ := G4.fn hdef
  have h := call w u v _ _ (Nat.lt_of_lt_of_le (tk w u uy) (layAllW_grows _ _ _ la).toks) G4 (hYk _ _ _ (hY w u uy) kp) a o pm cd doc dV kV h2 h3 h4 h5 (defOf_name hdef ▸ h1) L.gens xs vs bs hpre hlay L.reads L.well (L.low G3.low)
  have i1 := ident_freeW f2 f3 f4
  have i2 : r.toRowW.claim.within = [] := List.isEmpty_iff.mp c6
  refine ⟨vs, v, la, wpAny_bind (wpAny_nsGet G4.T.g (by
    rw [h1]
    refine wpAny_bind (wpAny_mono h (fun x z g => wpAny_pure ⟨_, rfl, ?_⟩) fun x z g => ?_)
    all_goals
      have y := g.laid (c := r.toRowW.claim) f1 i2 i1 L
      exact ⟨y.1, y.2.1, y.2.2, fun e => ⟨namesKept_of uT un _ kp g.2.1.old, noTable hwr e⟩⟩))⟩
end
end L2

set_option Elab.async false
set_option linter.all false
set_option maxRecDepth 100000
/-! THE HAND LAYER, for ints, bools, texts, own classes, LISTS and tuples (index, slices, in, append, pop ..), calls, loops. Paste it whole ahead of your own text; what your proof does not reach may be deleted. -/
namespace L2
open PySem PySem.Spec PyProof.Rows

noncomputable abbrev Key := Sum Int Str
noncomputable def keyIs : Key → Value → Bool
  | .inl k, v => Value.isInt k v
  | .inr x, v => Value.isStrOf x v
noncomputable def keyH (w : World) : Key → Int
  | .inl k => hashInt k
  | .inr x => hashStr w x
theorem keyIs_shape : ∀ {k : Key} {v : Value}, keyIs k v = true → (∃ i t, k = Sum.inl i ∧ v = Value.int i t) ∨ (∃ x t, k = Sum.inr x ∧ v = Value.str x t)
  | .inl i, v, h => by
    obtain ⟨t, e⟩ := Value.isInt_shape h
    exact .inl ⟨i, t, rfl, e⟩
  | .inr x, v, h => by
    obtain ⟨t, e⟩ := Value.isStrOf_shape h
    exact .inr ⟨x, t, rfl, e⟩
theorem keyIs_int (i : Int) (t : Tok) : keyIs (.inl i) (.int i t) = true := by simp [keyIs, Value.isInt]
theorem keyIs_str (x : Str) (t : Tok) : keyIs (.inr x) (.str x t) = true := by simp [keyIs, Value.isStrOf]
theorem key_ll (a b : Int) : decide ((Sum.inl a : Key) = Sum.inl b) = (a == b) := by
  grind
theorem key_rr (a b : Str) : decide ((Sum.inr a : Key) = Sum.inr b) = decide (a = b) := by
  simp_all
noncomputable def mixKind (prog : Program) (w : World) : PySem.KeyKind prog w Key where
  is := keyIs
  hash := keyH w
  inj := fun v a b ha hb => by
    rcases keyIs_shape ha with ⟨i, t, rfl, rfl⟩ | ⟨x, t, rfl, rfl⟩
    · rcases keyIs_shape hb with ⟨j, u, rfl, e⟩ | ⟨y, u, rfl, e⟩
      · simp_all
      simp_all
    · rcases keyIs_shape hb with ⟨j, u, rfl, e⟩ | ⟨y, u, rfl, e⟩
      · simp_all
      simp_all
  byValue := fun k v h => by
    rcases keyIs_shape h with ⟨i, t, rfl, rfl⟩ | ⟨x, t, rfl, rfl⟩ <;> rfl
  pyHash := fun hv h => by
    rcases keyIs_shape hv with ⟨i, t, rfl, rfl⟩ | ⟨x, t, rfl, rfl⟩
    · exact wpAny_pyHash_int h
    · exact wpAny_pyHash_str h
  eqBool := fun hu hv h => by
    rcases keyIs_shape hu with ⟨i, t, rfl, rfl⟩ | ⟨x, t, rfl, rfl⟩
    · rcases keyIs_shape hv with ⟨j, u, rfl, rfl⟩ | ⟨y, u, rfl, rfl⟩
      · rw [key_ll] at h; exact wpAny_eqBool_int h
      · exact SeqAt.EqAt.int_str i t y u _ _ _ _ h
    · rcases keyIs_shape hv with ⟨j, u, rfl, rfl⟩ | ⟨y, u, rfl, rfl⟩
      · exact SeqAt.EqAt.str_int x t j u _ _ _ _ h
      · rw [key_rr] at h; exact wpAny_eqBool_str h
  «strs» := fun k x t v h => by
    rcases keyIs_shape h with ⟨i, u, rfl, e⟩ | ⟨y, u, rfl, e⟩
    · simp_all
    · injection e with e1 _
      subst e1
      cases v <;> rfl

theorem mixKind_int (prog : Program) (w : World) (i : Int) (t : Tok) : (mixKind prog w).is (.inl i) (.int i t) = true := keyIs_int i t
theorem mixKind_str (prog : Program) (w : World) (x : Str) (t : Tok) : (mixKind prog w).is (.inr x) (.str x t) = true := keyIs_str x t
end L2

namespace L2
open PySem PySem.Spec PyProof.Rows

inductive V where
  | non | bl (b : Bool) | int (i : Int) | str (x : Str) | byt (b : Array UInt8) | flt (b : UInt64) | ref (a : Addr) | ty (n : String)
  deriving DecidableEq

noncomputable abbrev NZ := {t : Tok // t ≠ 0}
def RelV : V → Value → Prop
  | .non, u => u = Value.none
  | .bl b, u => u = Value.bool b
  | .int i, u => ∃ t, u = Value.int i t
  | .str x, u => ∃ t : NZ, u = Value.str x t.1
  | .byt b, u => ∃ t, u = Value.bytes b t
  | .flt b, u => ∃ t, u = Value.float b t
  | .ref a, u => u = Value.ref a
  | .ty n, u => u = Value.type n

abbrev Vals : List V → List Value → Prop := Paired RelV
theorem Vals.length {xs : List V} {us : List Value} (r : Vals xs us) : xs.length = us.length := Paired.length r
theorem Vals.get : ∀ {xs : List V} {us : List Value} {i : Nat} {x : V}, Vals xs us → xs[i]? = some x → ∃ u, us[i]? = some u ∧ RelV x u
  | _, _, _, _, .nil, e => by simp at e
  | _, _, 0, _, .cons r _, e => by simp_all
  | _, _, i + 1, x, .cons _ t, e => by
    obtain ⟨u, h1, h2⟩ := Vals.get t (by simpa using e)
    simp_all
theorem Vals.append : ∀ {xs ys : List V} {us ws : List Value}, Vals xs us → Vals ys ws → Vals (xs ++ ys) (us ++ ws)
  | _, _, _, _, .nil, s => s
  | _, _, _, _, .cons r t, s => .cons r (Vals.append t s)
theorem Vals.take : ∀ {xs : List V} {us : List Value} (n : Nat), Vals xs us → Vals (xs.take n) (us.take n)
  | _, _, 0, _ => .nil
  | _, _, _ + 1, .nil => .nil
  | _, _, n + 1, .cons r t => .cons r (Vals.take n t)
theorem Vals.drop : ∀ {xs : List V} {us : List Value} (n : Nat), Vals xs us → Vals (xs.drop n) (us.drop n)
  | _, _, 0, r => r
  | _, _, _ + 1, .nil => .nil
  | _, _, n + 1, .cons _ t => Vals.drop n t
def RelO : Option V → Option Value → Prop
  | some v, some u => RelV v u
  | none, none => True
  | _, _ => False
def KV {κ : Type} : List (κ × V) → List (κ × Value) → Prop := Paired fun (p : κ × V) (q : κ × Value) => p.1 = q.1 ∧ RelV p.2 q.2

noncomputable def kV : Key → V
  | .inl i => .int i
  | .inr x => .str x

inductive HO where
  /-- a list -/
  | lst (xs : List V)
  /-- a tuple (never changes) -/
  | tup (xs : List V)
  /-- a dict whose keys are ints and texts; one whose keys are tuples of ints and texts (the empty one is both) -/
  | dK (kvs : List (Key × V)) | dT (kvs : List (List Key × V))
  /-- a set of ints: its members, its size -/
  | set (S : Int → Bool) (n : Nat)
  /-- an instance of the class at C, its dict at dx, its attributes -/
  | ins (C dx : Addr) (fs : List (Str × V))
  /-- the dict of the instance at x -/
  | own (x : Addr)
  /-- the dict of an exception -/
  | xd (fs : List (Str × V))
  /-- a bound method, f of x -/
  | met (f x : Addr)
  /-- a range object lo, lo + 1, .. below hi -/
  | rng (lo hi : Int)
  /-- a thing that is known to the object (the script; a dict while a loop walks it): read, never written while it is so -/
  | frz (o : Obj) (u : HO)
  /-- a code object's table -/
  | tbl (ps : Array Value)
  /-- any other thing, by what is true of its one object (a def of one's own: SetO a S n := HO.ext fun h => ..) -/
  | ext (φ : Heap → Prop)

noncomputable abbrev Hp := Addr → Option HO
noncomputable def upd (H : Hp) (a : Addr) (o : HO) : Hp := fun b => if b = a then some o else H b
theorem upd_same {H : Hp} {a : Addr} {o : HO} : upd H a o a = some o := by unfold upd; simp_all
theorem upd_ne {H : Hp} {a b : Addr} {o : HO} (h : b ≠ a) : upd H a o b = H b := by unfold upd; rw [if_neg h]
theorem ne_of {H : Hp} {a b : Addr} {o u : HO} (h : H a = some o) (h' : H b = some u) (d : o ≠ u) : a ≠ b := by
  lia
theorem ne_of_none {H : Hp} {a b : Addr} {o : HO} (h : H a = some o) (h' : H b = none) : a ≠ b := by
  lia

section
variable (P : Program) (w : World)
def ObjOk (H : Hp) (h : Heap) (a : Addr) : HO → Prop
  | .lst xs => xs.length ≤ sizeLine ∧ ∃ (its : List Value) (n : Nat), Vals xs its ∧ h.get? a = some { cls := .type "list", data := .seq its.toArray n }
  | .tup xs => xs.length ≤ sizeLine ∧ ∃ its : List Value, Vals xs its ∧ IsTup h a its.toArray
  | .dK kvs => kvs.length ≤ sizeLine ∧ (a == sysModules) = false ∧ ∃ vs, KV kvs vs ∧ h.DictOf (mixKind P w) a vs
  | .dT kvs => kvs.length ≤ sizeLine ∧ (a == sysModules) = false ∧ ∃ xs : List (List Key × Addr × Value),
      Paired (fun (p : List Key × V) (q : List Key × Addr × Value) => p.1 = q.1 ∧ H q.2.1 = some (.tup (p.1.map kV)) ∧ RelV p.2 q.2.2) kvs xs ∧
      ∃ o es ep, h.get? a = some o ∧ o.ExactDict ∧ o.data = .dict es ep ∧ es.toList = xs.map (entryOfKey (tupleKind (mixKind P w))) ∧ (xs.map (·.1)).Nodup
  | .set S n => h.SetOf (intKind P w) a S n
  | .ins C dx fs => H dx = some (.own a) ∧ fs.length ≤ 1000 ∧ dx ≠ a ∧ h.get? a = some (PySem.W.instObj C dx) ∧
      ∃ mA, h.Ns1 dx mA ∧ (∀ f, RelO (fs.lookup f) (mA f)) ∧ PySem.Within mA (fs.map (·.1))
  | .own _ => ∃ o, h.get? a = some o
  | .xd fs => ∃ mA, h.Ns1 a mA ∧ ∀ f, RelO (fs.lookup f) (mA f)
  | .rng lo hi => ∃ t u v, h.get? a = some { cls := .type "range", data := .fields #[.int lo t, .int hi u, .int 1 v] }
  | .frz o u => h.get? a = some o ∧ ObjOk H h a u
  | .tbl ps => h.get? a = some { cls := .none, data := .fields ps }
  | .met f x => h.get? a = some (PySem.W.methodObj (.ref f) (.ref x))
  | .ext φ => φ h ∧ (∃ o, h.get? a = some o) ∧ ∀ h1 h2 : Heap, φ h1 → (∀ o, h1.get? a = some o → h2.get? a = some o) → φ h2
def HOk (H : Hp) (h : Heap) : Prop := ∀ a o, H a = some o → ObjOk P w H h a o
end

section
variable {P : Program} {w : World} {H H' : Hp} {h h' : Heap} {a : Addr} {o : HO}
theorem ObjOk.lt (x : ObjOk P w H h a o) : a < h.objs.size := by
  cases o with
  | lst xs => obtain ⟨_, _, _, _, e⟩ := x; exact Heap.lt_size e
  | tup xs => obtain ⟨_, _, _, p⟩ := x; exact p.lt
  | dK kvs => obtain ⟨_, _, _, _, o, _, _, e, _⟩ := x; exact Heap.lt_size e
  | dT kvs => obtain ⟨_, _, _, _, o, _, _, e, _⟩ := x; exact Heap.lt_size e
  | set S n => obtain ⟨o, _, _, _, e, _⟩ := x; exact Heap.lt_size e
  | ins C dx fs => obtain ⟨_, _, _, e, _⟩ := x; exact Heap.lt_size e
  | own y => obtain ⟨_, e⟩ := x; exact Heap.lt_size e
  | xd fs => obtain ⟨_, ⟨_, _, _, e, _⟩, _⟩ := x; exact Heap.lt_size e
  | rng lo hi => obtain ⟨_, _, _, e⟩ := x; exact Heap.lt_size e
  | frz ob u => obtain ⟨e, _⟩ := x; exact Heap.lt_size e
  | tbl ps => exact Heap.lt_size (x)
  | met f y => exact Heap.lt_size (x)
  | ext φ => obtain ⟨_, ⟨_, e⟩, _⟩ := x; exact Heap.lt_size e
theorem Paired.mapP {α β : Type} {F G : α → β → Prop} : ∀ {l₁ : List α} {l₂ : List β}, Paired F l₁ l₂ → (∀ a b, F a b → G a b) → Paired G l₁ l₂
  | _, _, .nil, _ => .nil
  | _, _, .cons r t, f => .cons (f _ _ r) (Paired.mapP t f)
theorem ObjOk.stay (x : ObjOk P w H h a o) (k : ∀ b u, (b = a ∨ H b = some (.own a)) → h.get? b = some u → h'.get? b = some u)
    (ho : ∀ b, H b = some (.own a) → H' b = some (.own a)) (ht : ∀ b xs, H b = some (.tup xs) → H' b = some (.tup xs)) : ObjOk P w H' h' a o := by
  induction o with
  | lst xs => obtain ⟨z, its, n, r, e⟩ := x; exact ⟨z, its, n, r, k _ _ (.inl rfl) e⟩
  | tup xs => obtain ⟨z, its, r, ob, e, c⟩ := x; exact ⟨z, its, r, ob, k _ _ (.inl rfl) e, c⟩
  | dK kvs => obtain ⟨z, y, vs, r, ob, es, ep, e, c⟩ := x; exact ⟨z, y, vs, r, ob, es, ep, k _ _ (.inl rfl) e, c⟩
  | dT kvs =>
    obtain ⟨z, y, xs, r, ob, es, ep, e, c⟩ := x
    exact ⟨z, y, xs, Paired.mapP r fun p q z => ⟨z.1, ht _ _ z.2.1, z.2.2⟩, ob, es, ep, k _ _ (.inl rfl) e, c⟩
  | set S n => obtain ⟨ob, es, ep, t, e, c⟩ := x; exact ⟨ob, es, ep, t, k _ _ (.inl rfl) e, c⟩
  | ins C dx fs =>
    obtain ⟨d, z, ne, e, mA, ⟨od, es, ep, e2, c⟩, r⟩ := x
    exact ⟨ho _ d, z, ne, k _ _ (.inl rfl) e, mA, ⟨od, es, ep, k _ _ (.inr d) e2, c⟩, r⟩
  | own y => obtain ⟨ob, e⟩ := x; exact ⟨ob, k _ _ (.inl rfl) e⟩
  | xd fs => obtain ⟨mA, ⟨od, es, ep, e, c⟩, r⟩ := x; exact ⟨mA, ⟨od, es, ep, k _ _ (.inl rfl) e, c⟩, r⟩
  | rng lo hi => obtain ⟨t, u, v, e⟩ := x; exact ⟨t, u, v, k _ _ (.inl rfl) e⟩
  | frz ob u ih => obtain ⟨e, q⟩ := x; exact ⟨k _ _ (.inl rfl) e, ih q⟩
  | tbl ps =>
    have e : h.get? a = some _ := x
    show h'.get? a = some _
    simp_all
  | met f y =>
    have e : h.get? a = some (PySem.W.methodObj _ _) := x
    show h'.get? a = some (PySem.W.methodObj _ _)
    simp_all
  | ext φ => obtain ⟨p, ⟨o, e⟩, st⟩ := x; exact ⟨st _ _ p fun o q => k _ _ (.inl rfl) q, ⟨o, k _ _ (.inl rfl) e⟩, st⟩
theorem HOk.lt (x : HOk P w H h) (e : H a = some o) : a < h.objs.size := (x a o e).lt
theorem HOk.fresh (x : HOk P w H h) (e : h.objs.size ≤ a) : H a = none := by
  cases q : H a with
  | none => rfl
  | some u => exact absurd (Nat.lt_of_lt_of_le (x.lt q) e) (Nat.lt_irrefl _)
theorem HOk.kept (x : HOk P w H h) (k : ∀ b u, h.get? b = some u → h'.get? b = some u) : HOk P w H h' := fun a o e =>
  (x a o e).stay (fun b u _ q => k b u q) (fun _ q => q) fun _ _ q => q
theorem HOk.laid (x : HOk P w H h) (k : ∀ b u, h.get? b = some u → h'.get? b = some u) (hp : h.objs.size ≤ a) (new : ObjOk P w (upd H a o) h' a o) : HOk P w (upd H a o) h' := fun b u e => by
  have hn := x.fresh hp
  by_cases hb : b = a
  · subst hb; rw [upd_same] at e; simp_all
  · rw [upd_ne hb] at e
    exact (x b u e).stay (fun c v _ q => k c v q) (fun c q => by rw [upd_ne (ne_of_none q hn)]; exact q) fun c xs q => by rw [upd_ne (ne_of_none q hn)]; exact q
end

def Rd (H : Hp) (a : Addr) (u : HO) : Prop := H a = some u ∨ ∃ o, H a = some (.frz o u)
theorem Rd.ok {P : Program} {w : World} {H : Hp} {h : Heap} {a : Addr} {u : HO} (r : Rd H a u) (x : HOk P w H h) : ObjOk P w H h a u := by
  rcases r with r | ⟨o, r⟩
  · exact x a u r
  · obtain ⟨_, q⟩ := x a _ r
    exact q
def Mut : Option HO → Prop
  | some (.lst _) => True
  | some (.dK _) => True
  | some (.dT _) => True
  | some (.set _ _) => True
  | some (.ins _ _ _) => True
  | some (.ext _) => True
  | _ => False
section
variable {P : Program} {w : World} {H : Hp} {h h' : Heap} {x e : Addr} {o' : HO}
theorem HOk.write (ok : HOk P w H h) (mu : Mut (H x)) (he : e = x ∨ H e = some (.own x)) (k : ∀ b u, b ≠ e → h.get? b = some u → h'.get? b = some u) (heo : ∃ u, h'.get? e = some u)
    (new : ObjOk P w (upd H x o') h' x o') : HOk P w (upd H x o') h' := fun b u q => by
  have nown : ∀ c y, H c = some (.own y) → c ≠ x := fun c y r z => by subst z; rw [r] at mu; exact mu
  have ntup : ∀ c xs, H c = some (.tup xs) → c ≠ x := fun c xs r z => by subst z; rw [r] at mu; exact mu
  by_cases hb : b = x
  · subst hb; rw [upd_same] at q; simp_all
  · rw [upd_ne hb] at q
    by_cases hbe : b = e
    · have q' : H b = some (.own x) := by
        lia
      rw [q] at q'; cases q'
      obtain ⟨v, hv⟩ := heo
      exact ⟨v, by simp_all⟩
    · refine (ok b u q).stay (fun c v hc r => k c v ?_ r) (fun c r => by rw [upd_ne (nown c b r)]; exact r) fun c xs r => by rw [upd_ne (ntup c xs r)]; exact r
      grind
end

/-! ### kept unless tracked; of the frames at fs (the callers') the slots may change (an exception that passes writes there); of the records at ex (iterators) nothing is said -/
structure Un (fs ex : List Addr) (H H' : Hp) (h h' : Heap) : Prop where
  keep : ∀ b o, h.get? b = some o → H b = none → b ∉ fs → b ∉ ex → h'.get? b = some o
  slot : ∀ b o, h.get? b = some o → H b = none → b ∈ fs → b ∉ ex → ∃ sl, h'.get? b = some { o with slots := sl }
  free : ∀ b o, h.get? b = some o → H b = none → b ∉ ex → H' b = none
  there : ∀ b o, h.get? b = some o → b ∉ ex → ∃ o', h'.get? b = some o'
  tups : ∀ b xs, H b = some (.tup xs) → H' b = some (.tup xs)
  frzs : ∀ b o u, H b = some (.frz o u) → H' b = some (.frz o u)
  tbls : ∀ b ps, H b = some (.tbl ps) → ∃ more, H' b = some (.tbl (ps ++ more))
section
variable {fs fs' ex ex' : List Addr} {H H1 H2 : Hp} {h h1 h2 h' : Heap} {a x e : Addr} {o : HO}
theorem Un.any (u : Un fs ex H H1 h h1) {b : Addr} {ob : Obj} (q : h.get? b = some ob) (n : H b = none) (hx : b ∉ ex) : ∃ sl, h1.get? b = some { ob with slots := sl } := by
  by_cases hb : b ∈ fs
  · exact u.slot b ob q n hb hx
  · exact ⟨ob.slots, u.keep b ob q n hb hx⟩
theorem Un.kept (k : ∀ b u, h.get? b = some u → h'.get? b = some u) : Un fs ex H H h h' :=
  ⟨fun b ob q _ _ _ => k b ob q, fun b ob q _ _ _ => ⟨ob.slots, k b ob q⟩, fun _ _ _ n _ => n, fun b ob q _ => ⟨ob, k b ob q⟩, fun _ _ q => q, fun _ _ _ q => q, fun _ ps q => ⟨#[], by rw [q]; simp⟩⟩
theorem Un.refl : Un fs ex H H h h := Un.kept fun _ _ q => q
theorem Un.laid (k : ∀ b u, h.get? b = some u → h'.get? b = some u) (hp : h.objs.size ≤ a) (hn : H a = none) : Un fs ex H (upd H a o) h h' where
  keep := fun b u q _ _ _ => k b u q
  slot := fun b u q _ _ _ => ⟨u.slots, k b u q⟩
  free := fun b u q n _ => by rw [upd_ne (Nat.ne_of_lt (Nat.lt_of_lt_of_le (Heap.lt_size q) hp))]; exact n
  there := fun b u q _ => ⟨u, k b u q⟩
  tups := fun b xs q => by rw [upd_ne (ne_of_none q hn)]; exact q
  frzs := fun b u xs q => by rw [upd_ne (ne_of_none q hn)]; exact q
  tbls := fun b ps q => ⟨#[], by rw [upd_ne (ne_of_none q hn), q]; simp⟩
theorem Un.write (mu : Mut (H x)) (he : e = x ∨ H e = some (.own x)) (k : ∀ b u, b ≠ e → h.get? b = some u → h'.get? b = some u) (heo : ∃ u, h'.get? e = some u) : Un fs ex H (upd H x o) h h' := by
  have hx : ∀ b, H b = none → b ≠ x := fun b n z => by subst z; rw [n] at mu; exact mu
  have hb : ∀ b, H b = none → b ≠ e := fun b n z => by
    simp_all
  have hm : ∀ b u, H b = some u → ¬ Mut (some u) → b ≠ x := fun b u q nm z => by simp_all
  refine ⟨fun b u q n _ _ => k b u (hb b n) q, fun b u q n _ _ => ⟨u.slots, k b u (hb b n) q⟩, fun b u q n _ => by rw [upd_ne (hx b n)]; exact n, fun b u q _ => ?_,
    fun b xs q => by rw [upd_ne (hm b _ q fun z => z)]; exact q, fun b u xs q => by rw [upd_ne (hm b _ q fun z => z)]; exact q, fun b ps q => ⟨#[], by rw [upd_ne (hm b _ q fun z => z), q]; simp⟩⟩
  grind
end

/-! ### the heap without what is tracked -/
noncomputable def trk (h : Heap) (H : Hp) : List Addr := (List.range h.objs.size).filter fun a => (H a).isSome
noncomputable def hidT (h : Heap) (H : Hp) : Heap := PySem.W.hideAll h (trk h H)
theorem hidT_size (h : Heap) (H : Hp) : (hidT h H).objs.size = h.objs.size := PySem.W.hideAll_size _ _
theorem hidT_get {h : Heap} {H : Hp} {b : Addr} {o : Obj} (e : h.get? b = some o) (n : H b = none) : (hidT h H).get? b = some o :=
  PySem.W.hideAll_get _ e fun hm => by
    have q  := (List.mem_filter.mp hm).2
    simp_all
theorem of_hidT {h : Heap} {H : Hp} {b : Addr} {o : Obj} (e : (hidT h H).get? b = some o) : h.get? b = some o ∧ H b = none := by
  have e'  := PySem.W.of_hideAll _ e
  refine ⟨e', ?_⟩
  cases q : H b with
  | none => rfl
  | some x =>
    have hm : b ∈ trk h H := List.mem_filter.mpr ⟨List.mem_range.mpr (Heap.lt_size e'), by simp [q]⟩
    have z : (hidT h H).get? b = none := PySem.W.hideAll_none _ hm
    simp_all

/-! ### OpenK's ledger, filled with every new object but one -/
end L2

namespace L2
open PySem PySem.Spec PyProof.Rows

structure Mod (K : PySem.W.Frag) (mg : Str → Option Value) (base : Heap) : Prop where
  kin : K.In base
  glob : base.Ns mainGlobals mg
  blt : ∃ mb, base.Ns builtinsNs mb ∧ ∀ x : Str, x ≠ "__name__" → mb x = bootBuiltins x
  nolimit : base.NoLimit

/-- the context: a def's body (or a comprehension's block) running. base: fixed through the whole law; s₀, H₀: the entry; outer: the frames whose slots others may change (a def's callers); stack: all frames that run;
   ex: iterators that were made ahead of the entry and are walked here (a comprehension's); fn: the names whose cells were made at the entry (a def: all; a comprehension's block: its own); calm: not within an except suite; pn: pins that every state bears; xe: what is wanted of an exception that leaves the code -/
structure Cx where
  prog : Program
  w : World
  K : PySem.W.Frag
  mg : Str → Option Value
  base : Heap
  A : Around
  N : List Str
  s₀ : Shared
  H₀ : Hp
  env : Env
  outer : List Env
  stack : List Env
  ex : List Addr
  fn : Str → Bool
  calm : Bool
  pn : List (Addr × Obj)
  xe : Value → Shared → Prop
noncomputable def frs (l : List Env) : List Addr := l.filterMap (·.frame)
noncomputable abbrev Cx.fs (X : Cx) : List Addr := frs X.outer

def Vis (sc : Scope) (x : Str) : Prop := sc.names.lookup x = some .local ∨ sc.names.lookup x = some .cell ∨ sc.names.lookup x = some .free
def Loc (sc : Scope) (x : Str) : Prop := sc.names.lookup x = some .local ∨ sc.names.lookup x = some .cell
def Look (env : Env) (h : Heap) (m : Str → Option Value) (x : Str) (u : Value) : Prop :=
  (env.kindOf x = some .local ∧ m x = some u) ∨ ((env.kindOf x = some .cell ∨ env.kindOf x = some .free) ∧ ∃ c, env.cells.lookup x = some c ∧ h.IsCell c (some u))

structure Cx.Ok (X : Cx) : Prop where
  mod : Mod X.K X.mg X.base
  kind : X.env.scope.kind = .function
  glob : X.env.globals = mainGlobals
  blt : X.env.builtins = builtinsNs
  above : X.s₀.heap.objs.size ≤ X.env.locals
  inj : ∀ x y c, X.env.cells.lookup x = some c → X.env.cells.lookup y = some c → x = y
  has : ∀ x, (X.env.kindOf x = some .cell ∨ X.env.kindOf x = some .free) → ∃ c, X.env.cells.lookup x = some c
  cab : ∀ x c, X.fn x = true → X.env.cells.lookup x = some c → X.s₀.heap.objs.size ≤ c
  hd : X.calm = true → X.A.handled = none
  frames : X.A.frames = some X.stack
  stk : X.stack = X.outer ∨ (X.stack = X.env :: X.outer ∧ X.env.frame = some X.env.locals)
  exf : ∀ b ∈ X.ex, b ≠ X.env.locals ∧ ∀ x c, X.env.cells.lookup x = some c → c ≠ b
  bs : ∀ b o, X.base.get? b = some o → X.s₀.heap.get? b = some o ∧ X.H₀ b = none
  bsz : X.base.objs.size ≤ X.s₀.heap.objs.size
  noex : ∀ b o, X.base.get? b = some o → b ∉ X.ex
  exfs : ∀ b ∈ X.ex, b ∉ X.fs
  funs : X.s₀.heap.FunFrames X.base X.outer
  frf : ∀ b ∈ X.fs, X.H₀ b = none

structure Inv (X : Cx) (pins : List (Addr × Obj)) (σ : List (Option V)) (H : Hp) (s : Shared) : Prop where
  ok : X.Ok
  os : s.os = X.s₀.os
  bare : AllBare s.gens
  base : Un X.fs X.ex X.H₀ H X.s₀.heap s.heap
  loc : ∃ m, s.heap.Ns X.env.locals m ∧ ∀ (i : Nat) (x : Str) (v : V), X.N[i]? = some x → σ[i]? = some (some v) → Vis X.env.scope x → ∃ u, RelV v u ∧ Look X.env s.heap m x u
  cell : ∀ x c, X.env.cells.lookup x = some c → ∃ v, s.heap.IsCell c v
  free : H X.env.locals = none
  freeC : ∀ x c, X.env.cells.lookup x = some c → H c = none
  pin : ∀ p ∈ X.pn ++ pins, s.heap.get? p.1 = some p.2 ∧ H p.1 = none ∧ p.1 ≠ X.env.locals ∧ p.1 ∉ X.fs ∧ ∀ v, p.2.data ≠ .cell v
  hok : HOk X.prog X.w H s.heap
  len : σ.length = X.N.length
  tk : 0 < s.toks

section
variable {X : Cx} {pins : List (Addr × Obj)} {σ : List (Option V)} {H H' : Hp} {s : Shared} {h' : Heap}

theorem Cx.Ok.nofr (ok : X.Ok) {b : Addr} {o : Obj} (e : X.base.get? b = some o) : b ∉ X.fs := fun hb => by
  have := (ok.funs.mem hb).1
  simp_all
theorem Inv.bs (I : Inv X pins σ H s) : ∀ b o, X.base.get? b = some o → s.heap.get? b = some o ∧ H b = none := fun b o e =>
  ⟨I.base.keep b o (I.ok.bs b o e).1 (I.ok.bs b o e).2 (I.ok.nofr e) (I.ok.noex b o e), I.base.free b o (I.ok.bs b o e).1 (I.ok.bs b o e).2 (I.ok.noex b o e)⟩
theorem Inv.bk (I : Inv X pins σ H s) : ∀ b o, X.base.get? b = some o → s.heap.get? b = some o := fun b o e => (I.bs b o e).1
theorem Inv.mod (I : Inv X pins σ H s) : Mod X.K X.mg X.base := I.ok.mod
theorem Inv.kIn (I : Inv X pins σ H s) : X.K.In s.heap := I.ok.mod.kin.keeps I.bk
theorem Inv.lt (I : Inv X pins σ H s) : X.env.locals < s.heap.objs.size := let ⟨_, hn, _⟩ := I.loc; hn.lt
theorem Inv.sz (I : Inv X pins σ H s) : X.s₀.heap.objs.size ≤ s.heap.objs.size := Nat.le_trans I.ok.above (Nat.le_of_lt I.lt)
theorem Inv.nofs (I : Inv X pins σ H s) {a : Addr} (h : s.heap.objs.size ≤ a) : a ∉ X.fs := fun hb => by
  obtain ⟨_, o, ho, _⟩ := I.ok.funs.mem hb
  exact absurd (Nat.lt_of_lt_of_le (Heap.lt_size ho) (Nat.le_trans I.sz h)) (Nat.lt_irrefl _)
theorem Inv.cne (I : Inv X pins σ H s) : ∀ x c, X.env.cells.lookup x = some c → c ≠ X.env.locals := fun x c e z => by
  obtain ⟨v, o, ho, hd⟩ := I.cell x c e
  obtain ⟨m, ⟨o', es, ep, ho', hd', _⟩, _⟩ := I.loc
  simp_all
theorem Inv.funs (I : Inv X pins σ H s) : s.heap.FunFrames X.base X.outer := by
  have all : ∀ (l : List Env), (∀ b ∈ frs l, b ∈ X.fs) → X.s₀.heap.FunFrames X.base l → s.heap.FunFrames X.base l := by
    intro l
    induction l with
    | nil => intro _ _; trivial
    | cons env r ih =>
      intro hs hl
      obtain ⟨hk, ⟨L, o, hf, hn, ho, hd⟩, hr⟩ := hl
      have hL  := hs L (by unfold frs; simp_all)
      obtain ⟨sl, e⟩ := I.base.slot L o ho (I.ok.frf L hL) hL fun z => I.ok.exfs L z hL
      exact ⟨hk, ⟨L, _, hf, hn, e, hd⟩, ih (fun b hb => hs b (by unfold frs; rw [List.filterMap_cons, hf]; exact List.mem_cons_of_mem _ hb)) hr⟩
  exact all _ (fun _ hb => hb) I.ok.funs

theorem Inv.stack (I : Inv X pins σ H s) : s.heap.FunFrames X.base X.stack := by
  rcases I.ok.stk with e | ⟨e, hf⟩
  · rw [e]; exact I.funs
  · rw [e]
    obtain ⟨m, hn, _⟩ := I.loc
    refine .cons (by rw [I.ok.kind]; decide) hf hn ?_ I.funs
    exact Heap.get?_none_of_le (Nat.le_trans I.ok.bsz I.ok.above)
theorem Inv.stkSub (I : Inv X pins σ H s) : ∀ b ∈ frs X.stack, b ∈ X.env.locals :: X.fs := fun b hb => by
  rcases I.ok.stk with e | ⟨e, hf⟩
  · simp_all
  · rw [e] at hb
    unfold frs at hb
    rw [List.filterMap_cons, hf] at hb
    exact hb
theorem Inv.stkFree (I : Inv X pins σ H s) : ∀ b ∈ frs X.stack, H b = none := fun b hb => by
  rcases List.mem_cons.mp (I.stkSub b hb) with e | hb
  · rw [e]; exact I.free
  · obtain ⟨_, o, ho, _⟩ := I.ok.funs.mem hb
    exact I.base.free b o ho (I.ok.frf b hb) fun z => I.ok.exfs b z hb

theorem Inv.step {g' : Array GenState} {t' : Nat} {d' : Drawn} {ch : List Addr} (I : Inv X pins σ H s)
    (hch : ∀ b ∈ ch, (b ∈ X.ex ∨ X.s₀.heap.objs.size ≤ b) ∧ b ≠ X.env.locals ∧ (∀ x c, X.env.cells.lookup x = some c → c ≠ b) ∧ ∀ p ∈ X.pn ++ pins, p.1 ≠ b)
    (keep : ∀ b o, b ≠ X.env.locals → b ∉ X.fs → b ∉ ch → s.heap.get? b = some o → H b = none → h'.get? b = some o)
    (slot : ∀ b o, b ≠ X.env.locals → b ∈ X.fs → b ∉ ch → s.heap.get? b = some o → H b = none → ∃ sl, h'.get? b = some { o with slots := sl }) (free : ∀ b o, b ∉ ch → s.heap.get? b = some o → H b = none → H' b = none)
    (there : ∀ b o, b ∉ ch → s.heap.get? b = some o → ∃ o', h'.get? b = some o')
    (tups : ∀ b xs, H b = some (.tup xs) → H' b = some (.tup xs)) (frzs : ∀ b o u, H b = some (.frz o u) → H' b = some (.frz o u)) (tbls : ∀ b ps, H b = some (.tbl ps) → ∃ more, H' b = some (.tbl (ps ++ more)))
    (ns : ∀ m, s.heap.Ns X.env.locals m → h'.Ns X.env.locals m) (hok : HOk X.prog X.w H' h') (hg : AllBare g') (h0 : 0 < t' := by first | assumption | exact Nat.succ_pos _ | exact Inv.tk ‹_› | omega) :
    Inv X pins σ H' { s with heap := h', gens := g', drawn := d', toks := t' } := by
  have neL : ∀ b o, X.s₀.heap.get? b = some o → b ≠ X.env.locals := fun b o e => Nat.ne_of_lt (Nat.lt_of_lt_of_le (Heap.lt_size e) I.ok.above)
  have neC : ∀ b o, X.s₀.heap.get? b = some o → b ∉ X.ex → b ∉ ch := fun b o e hx hb => by
    rcases (hch b hb).1 with z | z
    · exact hx z
    · exact absurd (Nat.lt_of_lt_of_le (Heap.lt_size e) z) (Nat.lt_irrefl _)
  have cellK : ∀ x c, X.env.cells.lookup x = some c → ∀ v, s.heap.IsCell c v → h'.IsCell c v := fun x c e v ⟨o, ho, hd⟩ => by
    have nch  := fun z => (hch c z).2.2.1 x c e rfl
    by_cases hc : c ∈ X.fs
    · obtain ⟨sl, q⟩ := slot c o (I.cne x c e) hc nch ho (I.freeC x c e)
      exact ⟨_, q, hd⟩
    · exact ⟨o, keep c o (I.cne x c e) hc nch ho (I.freeC x c e), hd⟩
  refine ⟨I.ok, I.os, hg, ⟨fun b o e n hb hx => ?_, fun b o e n hb hx => ?_, fun b o e n hx => ?_, fun b o e hx => ?_, fun b xs e => tups b xs (I.base.tups b xs e), fun b o xs e => frzs b o xs (I.base.frzs b o xs e), fun b ps e => ?_⟩, ?_, fun x c e => ?_, ?_, fun x c e => ?_, fun p hp => ?_, hok, I.len, h0⟩
  · exact keep b o (neL b o e) hb (neC b o e hx) (I.base.keep b o e n hb hx) (I.base.free b o e n hx)
  · obtain ⟨sl, e1⟩ := I.base.slot b o e n hb hx
    obtain ⟨sl', e2⟩ := slot b _ (neL b o e) hb (neC b o e hx) e1 (I.base.free b o e n hx)
    grind
  · obtain ⟨o', e1⟩ := I.base.there b o e hx
    exact free b o' (neC b o e hx) e1 (I.base.free b o e n hx)
  · obtain ⟨o', e1⟩ := I.base.there b o e hx
    exact there b o' (neC b o e hx) e1
  · obtain ⟨m1, e1⟩ := I.base.tbls b ps e
    grind
  · obtain ⟨m, hn, hl⟩ := I.loc
    refine ⟨m, ns m hn, fun i x v e1 e2 e3 => ?_⟩
    obtain ⟨u, r, l⟩ := hl i x v e1 e2 e3
    refine ⟨u, r, ?_⟩
    rcases l with l | ⟨k, c, e, z⟩
    · exact .inl l
    · exact .inr ⟨k, c, e, cellK x c e _ z⟩
  · obtain ⟨v, z⟩ := I.cell x c e
    grind
  · obtain ⟨m, ⟨o, _, _, ho, _⟩, _⟩ := I.loc
    exact free _ o (fun z => (hch _ z).2.1 rfl) ho I.free
  · obtain ⟨v, o, ho, hd⟩ := I.cell x c e
    exact free c o (fun z => (hch c z).2.2.1 x c e rfl) ho (I.freeC x c e)
  · obtain ⟨e, n, ne, nf, d⟩ := I.pin p hp
    grind
theorem Inv.un {t' : Nat} (I : Inv X pins σ H s) (u : Un X.fs [] H H' s.heap h') (hok : HOk X.prog X.w H' h') (h0 : 0 < t' := by first | assumption | exact Nat.succ_pos _ | exact Inv.tk ‹_› | omega) : Inv X pins σ H' { s with heap := h', toks := t' } := by
  obtain ⟨m, ⟨o, es, ep, ho, r⟩, _⟩ := id I.loc
  obtain ⟨sl, hL⟩ := u.any ho I.free (by simp)
  exact I.step (ch := []) (fun _ z => nomatch z) (fun b o _ hb _ e n => u.keep b o e n hb (by simp)) (fun b o _ hb _ e n => u.slot b o e n hb (by simp)) (fun b o _ e n => u.free b o e n (by simp)) (fun b o _ e => u.there b o e (by simp)) u.tups u.frzs u.tbls (fun m' hm => by
    obtain ⟨o', es', ep', ho', r'⟩ := hm
    rw [ho] at ho'; cases ho'
    exact ⟨_, es', ep', hL, r'⟩) hok I.bare
theorem Inv.call {g' : Array GenState} {t' : Nat} {d' : Drawn} {ch : List Addr} (I : Inv X pins σ H s) (u : Un (frs X.stack) ch H H' s.heap h') (hok : HOk X.prog X.w H' h') (hg : AllBare g')
    (hch : ∀ b ∈ ch, (b ∈ X.ex ∨ X.s₀.heap.objs.size ≤ b) ∧ b ≠ X.env.locals ∧ (∀ x c, X.env.cells.lookup x = some c → c ≠ b) ∧ ∀ p ∈ X.pn ++ pins, p.1 ≠ b) (h0 : 0 < t' := by first | assumption | exact Nat.succ_pos _ | exact Inv.tk ‹_› | omega) :
    Inv X pins σ H' { s with heap := h', gens := g', drawn := d', toks := t' } := by
  obtain ⟨m, ⟨o, es, ep, ho, r⟩, _⟩ := id I.loc
  obtain ⟨sl, hL⟩ := u.any ho I.free fun z => (hch _ z).2.1 rfl
  exact I.step hch (fun b o hL hb hc e n => u.keep b o e n (fun z => (List.mem_cons.mp (I.stkSub b z)).elim hL hb) hc) (fun b o _ _ hc e n => u.any e n hc) (fun b o hc e n => u.free b o e n hc) (fun b o hc e => u.there b o e hc) u.tups u.frzs u.tbls (fun m' hm => by
    obtain ⟨o', es', ep', ho', r'⟩ := hm
    rw [ho] at ho'; cases ho'
    exact ⟨_, es', ep', hL, r'⟩) hok hg
theorem Inv.turned {t' : Nat} {it : Addr} (I : Inv X pins σ H s) (k : ∀ b o, b ≠ it → s.heap.get? b = some o → h'.get? b = some o) (hn : H it = none) (hL : it ≠ X.env.locals)
    (h1 : it ∈ X.ex ∨ X.s₀.heap.objs.size ≤ it) (h2 : ∀ x c, X.env.cells.lookup x = some c → c ≠ it) (h3 : ∀ p ∈ X.pn ++ pins, p.1 ≠ it) (h0 : 0 < t' := by first | assumption | exact Nat.succ_pos _ | exact Inv.tk ‹_› | omega) : Inv X pins σ H { s with heap := h', toks := t' } := by
  have nit : ∀ b u, H b = some u → b ≠ it := fun b u e z => by simp_all
  refine I.step (ch := [it]) (fun b hb => ?_) (fun b o _ _ hc e _ => k b o (fun z => hc (by simp [z])) e) (fun b o _ _ hc e _ => ⟨o.slots, k b o (fun z => hc (by simp [z])) e⟩) (fun _ _ _ _ n => n)
    (fun b o hc e => ⟨o, k b o (fun z => hc (by simp [z])) e⟩) (fun _ _ e => e) (fun _ _ _ e => e) (fun b ps e => ⟨#[], by rw [e]; simp⟩) (fun m hm => ?_) (fun b u e => ?_) I.bare
  · have e  := by simpa using hb
    subst e
    exact ⟨h1, hL, h2, h3⟩
  · obtain ⟨o, es, ep, ho, r⟩ := hm
    exact ⟨o, es, ep, k _ o (Ne.symm hL) ho, r⟩
  · refine (I.hok b u e).stay (fun c v hc q => k c v ?_ q) (fun _ q => q) fun _ _ q => q
    lia
theorem Inv.tok (I : Inv X pins σ H s) (t : Nat) (h0 : 0 < t := by first | assumption | exact Nat.succ_pos _ | exact Inv.tk ‹_› | omega) : Inv X pins σ H { s with toks := t } := I.un (h' := s.heap) (t' := t) Un.refl I.hok
theorem Inv.kept {t' : Nat} (I : Inv X pins σ H s) (k : ∀ b u, s.heap.get? b = some u → h'.get? b = some u) (h0 : 0 < t' := by first | assumption | exact Nat.succ_pos _ | exact Inv.tk ‹_› | omega) : Inv X pins σ H { s with heap := h', toks := t' } := I.un (Un.kept k) (I.hok.kept k)
theorem Inv.laid {a : Addr} {o : HO} {t' : Nat} (I : Inv X pins σ H s) (k : ∀ b u, s.heap.get? b = some u → h'.get? b = some u) (hp : s.heap.objs.size ≤ a) (new : ObjOk X.prog X.w (upd H a o) h' a o) (h0 : 0 < t' := by first | assumption | exact Nat.succ_pos _ | exact Inv.tk ‹_› | omega) :
    Inv X pins σ (upd H a o) { s with heap := h', toks := t' } := I.un (Un.laid k hp (I.hok.fresh hp)) (I.hok.laid k hp new)
theorem Inv.write {x e : Addr} {o : HO} {t' : Nat} (I : Inv X pins σ H s) (mu : Mut (H x)) (he : e = x ∨ H e = some (.own x)) (k : ∀ b u, b ≠ e → s.heap.get? b = some u → h'.get? b = some u) (heo : ∃ u, h'.get? e = some u)
    (new : ObjOk X.prog X.w (upd H x o) h' x o) (h0 : 0 < t' := by first | assumption | exact Nat.succ_pos _ | exact Inv.tk ‹_› | omega) : Inv X pins σ (upd H x o) { s with heap := h', toks := t' } := I.un (Un.write mu he k heo) (I.hok.write mu he k heo new)
theorem Inv.pins_of {pins' : List (Addr × Obj)} (I : Inv X pins σ H s) (h : ∀ p ∈ pins', s.heap.get? p.1 = some p.2 ∧ H p.1 = none ∧ p.1 ≠ X.env.locals ∧ p.1 ∉ X.fs ∧ ∀ v, p.2.data ≠ .cell v) : Inv X pins' σ H s :=
  ⟨I.ok, I.os, I.bare, I.base, I.loc, I.cell, I.free, I.freeC, fun p hp => (List.mem_append.mp hp).elim (fun z => I.pin p (List.mem_append_left _ z)) (h p), I.hok, I.len, I.tk⟩

theorem nodup_ix {N : List Str} (hN : N.Nodup) {i j : Nat} {x : Str} (a : N[i]? = some x) (b : N[j]? = some x) : i = j := by
  obtain ⟨h1, e1⟩ := List.getElem?_eq_some_iff.mp a
  obtain ⟨h2, e2⟩ := List.getElem?_eq_some_iff.mp b
  exact (List.getElem_inj hN).mp (e1.trans e2.symm)

theorem store_ok2 {M : Model} {A : Around} {E : Value → Shared → Prop} {i : Nat} {x : Str} {v : V} {u : Value} {Q : Unit → Shared → Prop} (I : Inv X pins σ H s) (hN : X.N.Nodup) (hi : X.N[i]? = some x) (hx : Loc X.env.scope x) (r : RelV v u)
    (h : ∀ s', Inv X pins (σ.set i (some v)) H s' → (∃ a, Heap.SameBut a s.heap s'.heap ∧ (a = X.env.locals ∨ X.env.cells.lookup x = some a)) → Q () s') (hf : X.fn x = true ∨ X.env.scope.names.lookup x = some .local := by first | exact .inl rfl | exact .inr rfl | assumption) : wpAny M A (storeName X.env x u) Q E s := by
  obtain ⟨m, hn, hl⟩ := id I.loc
  have hcls : (X.env.scope.kind == .class || (X.env.scope.kind == .module && X.env.locals != X.env.globals)) = false := by rw [I.ok.kind]; rfl
  have hiσ : i < σ.length := by rw [I.len]; grind
  have cne := I.cne
  have tracked : ∀ {a : Addr} {h' : Heap}, (∃ o, s.heap.get? a = some o ∧ H a = none) → Heap.SameBut a _ h' → HOk _ X.w H h' := fun {a h'} ha hs b ob e => by
    refine (I.hok b ob e).stay (fun c w' hc q => (hs.2 c ?_).trans q) (fun _ q => q) fun _ _ q => q
    lia
  rcases hx with hk | hk
  · refine wpAny_storeName_local hk hn (fun h' hn' hs => ?_) hcls
    obtain ⟨oL, _, _, hoL, _⟩ := id hn
    refine h _ ⟨I.ok, I.os, I.bare, ⟨fun b o e n hb hx => ?_, fun b o e n hb hx => ?_, I.base.free, fun b o e hx => ?_, I.base.tups, I.base.frzs, I.base.tbls⟩, ⟨_, hn', fun j y v' e1 e2 e3 => ?_⟩, fun y c e => ?_, I.free, I.freeC, fun p hp => ?_, tracked ⟨oL, hoL, I.free⟩ hs, by simpa using I.len, by first | exact I.tk | exact Nat.succ_pos _⟩ ⟨_, hs, .inl rfl⟩
    · exact (hs.2 b (Nat.ne_of_lt (Nat.lt_of_lt_of_le (Heap.lt_size e) I.ok.above))).trans (I.base.keep b o e n hb hx)
    · obtain ⟨sl, e1⟩ := I.base.slot b o e n hb hx
      exact ⟨sl, (hs.2 b (Nat.ne_of_lt (Nat.lt_of_lt_of_le (Heap.lt_size e) I.ok.above))).trans e1⟩
    · obtain ⟨o', e1⟩ := I.base.there b o e hx
      exact ⟨o', (hs.2 b (Nat.ne_of_lt (Nat.lt_of_lt_of_le (Heap.lt_size e) I.ok.above))).trans e1⟩
    · by_cases hj : j = i
      · subst hj
        rw [hi] at e1; cases e1
        rw [List.getElem?_set_self hiσ] at e2
        cases e2
        exact ⟨u, r, .inl ⟨hk, by simp⟩⟩
      · rw [List.getElem?_set_ne (Ne.symm hj)] at e2
        obtain ⟨u', r', q⟩ := hl j y v' e1 e2 e3
        refine ⟨u', r', ?_⟩
        rcases q with ⟨k, e⟩ | ⟨k, c, e, z⟩
        · refine .inl ⟨k, ?_⟩
          have : y ≠ x := fun e => hj (nodup_ix hN e1 (e ▸ hi))
          simp_all
        · exact .inr ⟨k, c, e, z.sameBut hs (cne y c e)⟩
    · obtain ⟨w', z⟩ := I.cell y c e
      exact ⟨w', z.sameBut hs (cne y c e)⟩
    · obtain ⟨e, n, ne, nf, d⟩ := I.pin p hp
      exact ⟨(hs.2 _ ne).trans e, n, ne, nf, d⟩
  · have hfn : X.fn x = true := by
      simp_all
    obtain ⟨c, hc⟩ := I.ok.has x (.inl hk)
    obtain ⟨w', z⟩ := I.cell x c hc
    refine wpAny_storeName_cell I.ok.kind hk hc z (fun h' hc' hs => ?_)
    obtain ⟨oc, hoc, hocd⟩ := id z
    refine h _ ⟨I.ok, I.os, I.bare, ⟨fun b o e n hb hx => ?_, fun b o e n hb hx => ?_, I.base.free, fun b o e hx => ?_, I.base.tups, I.base.frzs, I.base.tbls⟩, ⟨m, hn.sameBut hs (Ne.symm (cne x c hc)), fun j y v' e1 e2 e3 => ?_⟩, fun y c' e => ?_, I.free, I.freeC, fun p hp => ?_, tracked ⟨oc, hoc, I.freeC x c hc⟩ hs, by simpa using I.len, by first | exact I.tk | exact Nat.succ_pos _⟩ ⟨c, hs, .inr hc⟩
    · exact (hs.2 b (Nat.ne_of_lt (Nat.lt_of_lt_of_le (Heap.lt_size e) (I.ok.cab x c hfn hc)))).trans (I.base.keep b o e n hb hx)
    · obtain ⟨sl, e1⟩ := I.base.slot b o e n hb hx
      exact ⟨sl, (hs.2 b (Nat.ne_of_lt (Nat.lt_of_lt_of_le (Heap.lt_size e) (I.ok.cab x c hfn hc)))).trans e1⟩
    · obtain ⟨o', e1⟩ := I.base.there b o e hx
      exact ⟨o', (hs.2 b (Nat.ne_of_lt (Nat.lt_of_lt_of_le (Heap.lt_size e) (I.ok.cab x c hfn hc)))).trans e1⟩
    · by_cases hj : j = i
      · subst hj
        rw [hi] at e1; cases e1
        rw [List.getElem?_set_self hiσ] at e2
        cases e2
        exact ⟨u, r, .inr ⟨.inl hk, c, hc, hc'⟩⟩
      · rw [List.getElem?_set_ne (Ne.symm hj)] at e2
        obtain ⟨u', r', q⟩ := hl j y v' e1 e2 e3
        refine ⟨u', r', ?_⟩
        rcases q with q | ⟨k, c', e, z'⟩
        · exact .inl q
        · refine .inr ⟨k, c', e, z'.sameBut hs ?_⟩
          rintro rfl
          exact hj (nodup_ix hN e1 (I.ok.inj _ _ _ e hc ▸ hi))
    · by_cases hcc : c' = c
      · grind
      · obtain ⟨w2, z2⟩ := I.cell y c' e
        exact ⟨w2, z2.sameBut hs hcc⟩
    · obtain ⟨e, n, ne, nf, d⟩ := I.pin p hp
      refine ⟨(hs.2 _ ?_).trans e, n, ne, nf, d⟩
      grind
theorem store_ok {M : Model} {A : Around} {E : Value → Shared → Prop} {i : Nat} {x : Str} {v : V} {u : Value} {Q : Unit → Shared → Prop} (I : Inv X pins σ H s) (hN : X.N.Nodup) (hi : X.N[i]? = some x) (hx : Loc X.env.scope x) (r : RelV v u)
    (h : ∀ s', Inv X pins (σ.set i (some v)) H s' → Q () s') (hf : X.fn x = true ∨ X.env.scope.names.lookup x = some .local := by first | exact .inl rfl | exact .inr rfl | assumption) : wpAny M A (storeName X.env x u) Q E s :=
  store_ok2 I hN hi hx r (fun s' I' _ => h s' I') hf
theorem Inv.call' {s' : Shared} {ch : List Addr} (I : Inv X pins σ H s) (ho : s'.os = s.os) (u : Un (frs X.stack) ch H H' s.heap s'.heap) (hok : HOk X.prog X.w H' s'.heap) (hg : AllBare s'.gens)
    (hch : ∀ b ∈ ch, (b ∈ X.ex ∨ X.s₀.heap.objs.size ≤ b) ∧ b ≠ X.env.locals ∧ (∀ x c, X.env.cells.lookup x = some c → c ≠ b) ∧ ∀ p ∈ X.pn ++ pins, p.1 ≠ b) (h0 : 0 < s'.toks) : Inv X pins σ H' s' := by
  obtain ⟨h', g', d', t', o'⟩ := s'
  have e  := ho
  subst e
  exact I.call u hok hg hch
end

/-! ### the judgements -/
noncomputable abbrev XK := Value → Option Addr → Hp → Prop
noncomputable abbrev St := List (Option V)
noncomputable abbrev VK := V → Hp → Prop
noncomputable abbrev TE := St → Hp → VK → Prop
noncomputable abbrev TT := St → Hp → (Bool → Hp → Prop) → Prop
noncomputable abbrev TA := St → Hp → (List V → Hp → Prop) → Prop
structure Ends where
  nx : St → Hp → Prop
  rt : VK
  bk : St → Hp → Prop := fun _ _ => False
  ct : St → Hp → Prop := fun _ _ => False
noncomputable abbrev TS := Ends → St → Hp → Prop

def EP (X : Cx) (pins : List (Addr × Obj)) (σ : St) (Q : VK) (u : Value) (s' : Shared) : Prop := ∃ v H', Inv X pins σ H' s' ∧ RelV v u ∧ Q v H'
def TP (X : Cx) (pins : List (Addr × Obj)) (σ : St) (Q : Bool → Hp → Prop) (b : Bool) (s' : Shared) : Prop := ∃ H', Inv X pins σ H' s' ∧ Q b H'
def AP (X : Cx) (pins : List (Addr × Obj)) (σ : St) (Q : List V → Hp → Prop) (us : List Value) (s' : Shared) : Prop := ∃ vs H', Inv X pins σ H' s' ∧ Vals vs us ∧ Q vs H'
def SP (X : Cx) (pins : List (Addr × Obj)) (D : Ends) (f : Flow) (s' : Shared) : Prop :=
  match f with
  | .next => ∃ σ' H', Inv X pins σ' H' s' ∧ D.nx σ' H'
  | .brk => ∃ σ' H', Inv X pins σ' H' s' ∧ D.bk σ' H'
  | .cont => ∃ σ' H', Inv X pins σ' H' s' ∧ D.ct σ' H'
  | .ret u => ∃ v σ' H', Inv X pins σ' H' s' ∧ RelV v u ∧ D.rt v H'

def PE (X : Cx) (e : Expr) (t : TE) : Prop :=
  ∀ (pins : List (Addr × Obj)) (s : Shared) (σ : St) (H : Hp) (Q : VK), Inv X pins σ H s → t σ H Q → wpAny (model X.prog X.w) X.A (eval e X.env) (EP X pins σ Q) X.xe s
def PT (X : Cx) (e : Expr) (t : TT) : Prop :=
  ∀ (pins : List (Addr × Obj)) (s : Shared) (σ : St) (H : Hp) (Q : Bool → Hp → Prop), Inv X pins σ H s → t σ H Q → wpAny (model X.prog X.w) X.A (isTrue e X.env (eval e X.env)) (TP X pins σ Q) X.xe s
def PW (X : Cx) (e : Expr) (t : TT) : Prop :=
  ∀ (whole : Sem Value) (pins : List (Addr × Obj)) (s : Shared) (σ : St) (H : Hp) (Q : Bool → Hp → Prop), Inv X pins σ H s → t σ H Q → wpAny (model X.prog X.w) X.A (isTrue e X.env whole) (TP X pins σ Q) X.xe s
theorem PW.pt {X : Cx} {e : Expr} {t : TT} (h : PW X e t) : PT X e t := h _
def PA (X : Cx) (es : List Expr) (t : TA) : Prop :=
  ∀ (pos : Pos) (pins : List (Addr × Obj)) (s : Shared) (σ : St) (H : Hp) (Q : List V → Hp → Prop), Inv X pins σ H s → t σ H Q → wpAny (model X.prog X.w) X.A (spliced (backTo pos (starEach es X.env))) (AP X pins σ Q) X.xe s
def PS (X : Cx) (st : Stmt) (t : TS) : Prop :=
  ∀ (pins : List (Addr × Obj)) (s : Shared) (σ : St) (H : Hp) (D : Ends), Inv X pins σ H s → t D σ H → wpAny (model X.prog X.w) X.A (exec st X.env) (SP X pins D) X.xe s
def PSs (X : Cx) (st : List Stmt) (t : TS) : Prop :=
  ∀ (pins : List (Addr × Obj)) (s : Shared) (σ : St) (H : Hp) (D : Ends), Inv X pins σ H s → t D σ H → wpAny (model X.prog X.w) X.A (execs st X.env) (SP X pins D) X.xe s
theorem thn {α : Type} {t : Sem α} {Q Q' : α → Shared → Prop} {M : Model} {A : Around} {E : Value → Shared → Prop} {s : Shared} (h : wpAny M A t Q E s) (hQ : ∀ a s, Q a s → Q' a s) : wpAny M A t Q' E s := wpAny_mono h hQ fun _ _ x => x
end L2

namespace L2
open PySem PySem.Spec PyProof.Rows
section
variable {X : Cx}

/-! ### names and constants -/
def tVar (i : Nat) : TE := fun σ H Q => ∃ v, σ[i]? = some (some v) ∧ Q v H
def tC (v : V) : TE := fun _ H Q => Q v H
theorem pe_var {i : Nat} {x : Str} {pos : Pos} (hN : X.N[i]? = some x) (hv : Vis X.env.scope x) (hd : (x == ("__debug__" : Str)) = false := by decide) (hcd : (x == ("__classdict__" : Str)) = false := by decide) : PE X (.Name x pos) (tVar i) := by
  intro pins s σ H Q I h
  obtain ⟨v, e, h⟩ := h
  obtain ⟨m, hn, hl⟩ := I.loc
  obtain ⟨u, r, l⟩ := hl i x v hN e hv
  have fin : EP X pins σ Q u s := ⟨v, H, I, r, h⟩
  rcases l with ⟨hk, hm⟩ | ⟨hk, c, hc, hcell⟩
  · exact wpAny_Name (wpAny_loadName_local I.ok.kind hk hn hm fin) hd
  · rcases hk with hk | hk
    · exact wpAny_Name (wpAny_loadName_cell I.ok.kind hk hc hcell fin) hd
    · exact wpAny_Name (wpAny_loadName_free I.ok.kind hk hc hcell fin hcd) hd
theorem pe_int {i j pos} : PE X (.Constant (.int i) j pos) (tC (.int i)) := fun _ _ _ H _ I h => wpAny_Constant_int ⟨.int i, H, I.tok _, ⟨_, rfl⟩, h⟩
theorem pe_bl {b j pos} : PE X (.Constant (.bool b) j pos) (tC (.bl b)) := fun _ _ _ H _ I h => Constant_bool ⟨.bl b, H, I, rfl, h⟩
theorem pe_non {j pos} : PE X (.Constant .none j pos) (tC .non) := fun _ _ _ H _ I h => Constant_none ⟨.non, H, I, rfl, h⟩
theorem pe_str {x j pos} : PE X (.Constant (.str x) j pos) (tC (.str x)) := fun _ _ _ H _ I h => Calls.Constant_str ⟨.str x, H, I.tok _, ⟨⟨_, Nat.ne_of_gt I.tk⟩, rfl⟩, h⟩

def Gl (X : Cx) (x : Str) : Prop := X.env.kindOf x = some .globalImplicit
theorem ld_glob {E : Value → Shared → Prop} {pins : List (Addr × Obj)} {s : Shared} {σ : St} {H : Hp} {x : Str} {u : Value} {pos : Pos} {Q : Value → Shared → Prop} (I : Inv X pins σ H s) (hg : Gl X x) (hm : X.mg x = some u) (h : Q u s)
    (hd : (x == ("__debug__" : Str)) = false := by decide) : wpAny (model X.prog X.w) X.A (eval (.Name x pos) X.env) Q E s :=
  Calls.Name_function_global I.ok.kind hg (Calls.loadGlobal_global (by rw [I.ok.glob]; exact I.mod.glob.keeps I.bk) hm h) hd
theorem ld_blt {E : Value → Shared → Prop} {pins : List (Addr × Obj)} {s : Shared} {σ : St} {H : Hp} {x : Str} {u : Value} {pos : Pos} {Q : Value → Shared → Prop} (I : Inv X pins σ H s) (hg : Gl X x) (hm : X.mg x = none) (hv : bootBuiltins x = some u) (h : Q u s)
    (hn : x ≠ "__name__" := by decide) (hd : (x == ("__debug__" : Str)) = false := by decide) : wpAny (model X.prog X.w) X.A (eval (.Name x pos) X.env) Q E s := by
  obtain ⟨mb, h1, h2⟩ := I.mod.blt
  exact Calls.Name_function_global I.ok.kind hg (Calls.loadGlobal_builtin (by rw [I.ok.glob]; exact I.mod.glob.keeps I.bk) hm (by rw [I.ok.blt]; exact h1.keeps I.bk) ((h2 x hn).trans hv) h) hd
theorem pe_glob {x : Str} {v : V} {u : Value} {pos : Pos} (hg : Gl X x) (hm : X.mg x = some u) (r : RelV v u) (hd : (x == ("__debug__" : Str)) = false := by decide) : PE X (.Name x pos) (tC v) :=
  fun _ _ _ H _ I h => ld_glob I hg hm ⟨v, H, I, r, h⟩ hd
theorem pe_bltn {x : Str} {v : V} {u : Value} {pos : Pos} (hg : Gl X x) (hm : X.mg x = none) (hv : bootBuiltins x = some u) (r : RelV v u) (hn : x ≠ "__name__" := by decide) (hd : (x == ("__debug__" : Str)) = false := by decide) : PE X (.Name x pos) (tC v) :=
  fun _ _ _ H _ I h => ld_blt I hg hm hv ⟨v, H, I, r, h⟩ hn hd

/-! ### arithmetic -/
def t2I (ta tb : TE) (k : Int → Int → Hp → Prop) : St → Hp → Prop := fun σ H => ta σ H fun x H1 => tb σ H1 fun y H2 => ∃ i j, x = .int i ∧ y = .int j ∧ k i j H2
variable {a b : Expr} {ta tb : TE} {pos : Pos}
/-! ### comparisons -/
def PC (X : Cx) (op : CmpOp) (a b : Expr) (t : TE) : Prop :=
  ∀ (pins : List (Addr × Obj)) (s : Shared) (σ : St) (H : Hp) (Q : VK), Inv X pins σ H s → t σ H Q →
    wpAny (model X.prog X.w) X.A (eval a X.env) (fun v s₁ => wpAny (model X.prog X.w) X.A (eval b X.env) (fun u s₂ => wpAny (model X.prog X.w) X.A (compareOp op v u) (EP X pins σ Q) X.xe s₂) X.xe s₁) X.xe s
def tCmp (p : Int → Int → Bool) (ta tb : TE) : TE := fun σ H Q => t2I ta tb (fun i j H2 => Q (.bl (p i j)) H2) σ H
def tB (t : TE) : TT := fun σ H Q => t σ H fun x H1 => ∃ c, x = .bl c ∧ Q c H1
theorem pt_cmp {op : CmpOp} {t : TE} (h : PC X op a b t) (h1 : behindInMarks op b = false := by first | exact nobehind _ (by decide) (by decide) | rfl) : PT X (.Compare a [op] [b] pos) (tB t) := by
  intro pins s σ H Q I hw
  refine wpAny_isTrue_Compare1 (thn (h pins s σ H _ I hw) fun v s1 h1 => thn h1 fun u s2 h2 => thn h2 fun c s3 ⟨x, H1, I1, r1, q1⟩ => ?_) h1
  obtain ⟨d, rfl, q⟩ := q1
  cases r1
  exact wpAny_truthy_bool ⟨H1, I1, q⟩
theorem pt_val {e : Expr} {t : TE} (h : PE X e t) (he : ∀ whole, isTrue e X.env whole = (do let v ← whole; standAt e.pos; holding [v] (truthy v)) := by intro _; rfl) : PT X e (tB t) := by
  intro pins s σ H Q I hw
  refine isTrue_plain (thn (h pins s σ H _ I hw) fun v s1 ⟨x, H1, I1, r1, q1⟩ => ?_) (he _)
  obtain ⟨d, rfl, q⟩ := q1
  cases r1
  exact wpAny_truthy_bool ⟨H1, I1, q⟩

/-! ### and, or, not -/
variable {tA tB' : TT} {rest : List Expr}
def tAnd (t u : TT) : TT := fun σ H Q => t σ H fun c H1 => if c = true then u σ H1 Q else Q false H1
def tOr (t u : TT) : TT := fun σ H Q => t σ H fun c H1 => if c = true then Q true H1 else u σ H1 Q
def tNot (t : TT) : TT := fun σ H Q => t σ H fun c H1 => Q (!c) H1
theorem pw_and1 (ha : PT X a tA) : PW X (.BoolOp .And [a] pos) tA := by
  intro wh pins s σ H Q I h
  refine isTrue_and (thn (ha pins s σ H Q I h) fun c s1 e => ?_)
  cases c with
  | true => exact isTrue_and_nil e
  | false => exact e
theorem pw_or1 (ha : PT X a tA) : PW X (.BoolOp .Or [a] pos) tA := by
  intro wh pins s σ H Q I h
  refine isTrue_or (thn (ha pins s σ H Q I h) fun c s1 e => ?_)
  cases c with
  | false => exact isTrue_or_nil e
  | true => exact e
theorem pw_and (ha : PT X a tA) (hb : PW X (.BoolOp .And (b :: rest) pos) tB') : PW X (.BoolOp .And (a :: b :: rest) pos) (tAnd tA tB') := by
  intro wh pins s σ H Q I h
  refine isTrue_and (thn (ha pins s σ H _ I h) fun c s1 ⟨H1, I1, q1⟩ => ?_)
  cases c with
  | true => exact hb wh pins s1 σ H1 Q I1 q1
  | false => assumption
theorem pw_or (ha : PT X a tA) (hb : PW X (.BoolOp .Or (b :: rest) pos) tB') : PW X (.BoolOp .Or (a :: b :: rest) pos) (tOr tA tB') := by
  intro wh pins s σ H Q I h
  refine isTrue_or (thn (ha pins s σ H _ I h) fun c s1 ⟨H1, I1, q1⟩ => ?_)
  cases c with
  | true => assumption
  | false => exact hb wh pins s1 σ H1 Q I1 q1
theorem pt_not (ha : PT X a tA) : PT X (.UnaryOp .Not a pos) (tNot tA) := by
  intro pins s σ H Q I h
  exact isTrue_not (ha pins s σ H (fun c H1 => Q _ H1) I h)
def tAndV (ta tb : TE) : TE := fun σ H Q => ta σ H fun x H1 => ∃ c, x = .bl c ∧ if c = true then tb σ H1 Q else Q (.bl false) H1
def tNotV (ta : TE) : TE := fun σ H Q => ta σ H fun x H1 => ∃ c, x = .bl c ∧ Q (.bl (!c)) H1
theorem pe_one {op} {t : TE} (h : PE X a t) : PE X (.BoolOp op [a] pos) t := fun pins s σ H Q I hw => BoolOp_one (h pins s σ H Q I hw)
theorem pe_and (ha : PE X a ta) (hb : PE X (.BoolOp .And (b :: rest) pos) tb) : PE X (.BoolOp .And (a :: b :: rest) pos) (tAndV ta tb) := by
  intro pins s σ H Q I h
  refine BoolOp_and (thn (ha pins s σ H _ I h) fun v s1 ⟨x, H1, I1, r1, q1⟩ => ?_)
  obtain ⟨c, rfl, q1⟩ := q1
  cases r1
  refine wpAny_truthy_bool ?_
  cases c with
  | true => exact hb pins s1 σ H1 Q I1 q1
  | false => exact ⟨.bl false, H1, I1, rfl, q1⟩
theorem pe_not (ha : PE X a ta) : PE X (.UnaryOp .Not a pos) (tNotV ta) := by
  intro pins s σ H Q I h
  refine UnaryOp_ (thn (ha pins s σ H _ I h) fun v s1 ⟨x, H1, I1, r1, q1⟩ => ?_)
  obtain ⟨c, rfl, q1⟩ := q1
  cases r1
  exact not_of (wpAny_truthy_bool ⟨.bl _, H1, I1, rfl, q1⟩)
end
end L2

namespace L2
open PySem PySem.Spec PyProof.Rows

/-! ### a list, a tuple that is read: tracked, frozen, or an object of the module -/
def SqL (K : PySem.W.Frag) (H : Hp) (a : Addr) (xs : List V) : Prop :=
  Rd H a (.lst xs) ∨
    ∃ (o : Obj) (its : Array Value) (n : Nat), K.lookup a = some o ∧ o.cls = .type "list" ∧ o.dict = none ∧ o.data = .seq its n ∧ its.size ≤ sizeLine ∧ Vals xs its.toList
def SqT (K : PySem.W.Frag) (H : Hp) (a : Addr) (xs : List V) : Prop :=
  Rd H a (.tup xs) ∨
    ∃ (o : Obj) (its : Array Value) (n : Nat), K.lookup a = some o ∧ o.cls = .type "tuple" ∧ o.data = .seq its n ∧ its.size ≤ sizeLine ∧ Vals xs its.toList
noncomputable def absV : Value → Option V
  | .none => some .non
  | .bool b => some (.bl b)
  | .int i _ => some (.int i)
  | .str x _ => some (.str x)
  | .bytes b _ => some (.byt b)
  | .float b _ => some (.flt b)
  | .ref a => some (.ref a)
  | .type n => some (.ty n)
  | _ => none
theorem RelV.abs {x : V} {u : Value} (r : RelV x u) : absV u = some x := by
  cases x with
  | non => cases r; rfl
  | bl _ => cases r; rfl
  | int _ => obtain ⟨t, rfl⟩ := r; rfl
  | str _ => obtain ⟨t, rfl⟩ := r; rfl
  | byt _ => obtain ⟨t, rfl⟩ := r; rfl
  | flt _ => obtain ⟨t, rfl⟩ := r; rfl
  | ref _ => cases r; rfl
  | ty _ => cases r; rfl
theorem RelV.inj {x y : V} {u : Value} (r : RelV x u) (q : RelV y u) : x = y := Option.some.inj (r.abs.symm.trans q.abs)
theorem Vals.inj : ∀ {xs ys : List V} {us : List Value}, Vals xs us → Vals ys us → xs = ys
  | _, _, _, .nil, .nil => rfl
  | _, _, _, .cons r t, .cons r' t' => by rw [r.inj r', Vals.inj t t']
section
variable {X : Cx} {pins : List (Addr × Obj)} {σ : St} {H : Hp} {s : Shared} {a : Addr} {xs ys : List V}
theorem SqL.of {K : PySem.W.Frag} (h : H a = some (.lst xs)) : SqL K H a xs := .inl (.inl h)
theorem SqT.of {K : PySem.W.Frag} (h : H a = some (.tup xs)) : SqT K H a xs := .inl (.inl h)
theorem Inv.list (I : Inv X pins σ H s) (h : SqL X.K H a xs) : ∃ its : List Value, Vals xs its ∧ PlainL s.heap a its.toArray ∧ xs.length ≤ sizeLine := by
  rcases h with h | ⟨o, its, n, hk, hc, hd, hs, hz, r⟩
  · obtain ⟨z, its, n, r, e⟩ := h.ok I.hok
    exact ⟨its, r, ⟨_, n, e, rfl, rfl, rfl⟩, z⟩
  · refine ⟨its.toList, r, ⟨o, n, I.kIn a o hk, hc, hd, by assumption⟩, ?_⟩
    have e := r.length
    grind
theorem Inv.tuple (I : Inv X pins σ H s) (h : SqT X.K H a xs) : ∃ its : List Value, Vals xs its ∧ IsTup s.heap a its.toArray ∧ xs.length ≤ sizeLine := by
  rcases h with h | ⟨o, its, n, hk, hc, hs, hz, r⟩
  · obtain ⟨z, its, r, p⟩ := h.ok I.hok
    exact ⟨its, r, p, z⟩
  · refine ⟨its.toList, r, ⟨o, I.kIn a o hk, hc, n, by assumption⟩, ?_⟩
    have e := r.length
    grind
theorem Inv.list_inj (I : Inv X pins σ H s) (h : SqL X.K H a xs) (h' : SqL X.K H a ys) : xs = ys := by
  obtain ⟨its, r, ⟨o, n, e, _, _, d⟩, _⟩ := I.list h
  obtain ⟨its', r', ⟨o', n', e', _, _, d'⟩, _⟩ := I.list h'
  rw [e] at e'; cases e'
  rw [d] at d'
  injection d' with d1 _
  have  := by simpa using congrArg Array.toList d1
  subst this
  exact r.inj r'
theorem Inv.tuple_inj (I : Inv X pins σ H s) (h : SqT X.K H a xs) (h' : SqT X.K H a ys) : xs = ys := by
  obtain ⟨its, r, ⟨o, e, _, n, d⟩, _⟩ := I.tuple h
  obtain ⟨its', r', ⟨o', e', _, n', d'⟩, _⟩ := I.tuple h'
  rw [e] at e'; cases e'
  rw [d] at d'
  injection d' with d1 _
  have  := by simpa using congrArg Array.toList d1
  subst this
  exact r.inj r'
end

/-! ### another wish about exceptions -/
noncomputable abbrev Cx.wish (X : Cx) (E : Value → Shared → Prop) : Cx := { X with xe := E }
noncomputable abbrev Cx.nox (X : Cx) : Cx := X.wish fun _ _ => False
theorem Cx.Ok.wish {X : Cx} (ok : X.Ok) (E : Value → Shared → Prop) : (X.wish E).Ok :=
  ⟨ok.mod, ok.kind, ok.glob, ok.blt, ok.above, ok.inj, ok.has, ok.cab, ok.hd, ok.frames, ok.stk, ok.exf, ok.bs, ok.bsz, ok.noex, ok.exfs, ok.funs, ok.frf⟩
theorem Cx.Ok.unwish {X : Cx} {E : Value → Shared → Prop} (ok : (X.wish E).Ok) : X.Ok :=
  ⟨ok.mod, ok.kind, ok.glob, ok.blt, ok.above, ok.inj, ok.has, ok.cab, ok.hd, ok.frames, ok.stk, ok.exf, ok.bs, ok.bsz, ok.noex, ok.exfs, ok.funs, ok.frf⟩
section
variable {X : Cx} {pins : List (Addr × Obj)} {σ : St} {H : Hp} {s : Shared} {E : Value → Shared → Prop}
theorem Inv.wish (I : Inv X pins σ H s) (E : Value → Shared → Prop) : Inv (X.wish E) pins σ H s := ⟨I.ok.wish E, I.os, I.bare, I.base, I.loc, I.cell, I.free, I.freeC, I.pin, I.hok, I.len, I.tk⟩
theorem Inv.unwish (I : Inv (X.wish E) pins σ H s) : Inv X pins σ H s := ⟨I.ok.unwish, I.os, I.bare, I.base, I.loc, I.cell, I.free, I.freeC, I.pin, I.hok, I.len, I.tk⟩
theorem SP.unwish {D : Ends} {f : Flow} {s' : Shared} (h : SP (X.wish E) pins D f s') : SP X pins D f s' := by
  cases f with
  | next => obtain ⟨σ', H', I, q⟩ := h; exact ⟨σ', H', I.unwish, q⟩
  | brk => obtain ⟨σ', H', I, q⟩ := h; exact ⟨σ', H', I.unwish, q⟩
  | cont => obtain ⟨σ', H', I, q⟩ := h; exact ⟨σ', H', I.unwish, q⟩
  | ret u => obtain ⟨v, σ', H', I, r, q⟩ := h; exact ⟨v, σ', H', I.unwish, r, q⟩
theorem PSs.nox {st : List Stmt} {t : TS} (h : PSs X.nox st t) : PSs X st t := fun pins s σ H D I hw =>
  wpAny_mono (h pins s σ H D (I.wish _) hw) (fun _ _ q => q.unwish) fun _ _ z => False.elim z
end

/-! ### blocks and small statements -/
section
variable {X : Cx} {st : Stmt} {rest : List Stmt} {t u : TS} {e : Expr} {te : TE} {pos : Pos}
def tNext : TS := fun D σ H => D.nx σ H
def tSeq (t u : TS) : TS := fun D σ H => t { D with nx := u D } σ H
theorem pss_nil : PSs X [] tNext := fun _ _ σ H _ I h => wpAny_execs_nil ⟨σ, H, I, h⟩
theorem pss_cons (h1 : PS X st t) (h2 : PSs X rest u) : PSs X (st :: rest) (tSeq t u) := by
  intro pins s σ H D I h
  refine wpAny_execs_cons (thn (h1 pins s σ H _ I h) fun f s1 q => ?_)
  cases f with
  | next =>
    obtain ⟨σ', H', I', q⟩ := q
    exact h2 pins s1 σ' H' D I' q
  | ret v => exact q
  | brk => exact q
  | cont => exact q
theorem pss_one (h1 : PS X st t) : PSs X [st] t := by
  intro pins s σ H D I h
  refine wpAny_execs_cons (thn (h1 pins s σ H D I h) fun f s1 q => ?_)
  cases f with
  | next => exact wpAny_execs_nil q
  | ret v => exact q
  | brk => exact q
  | cont => exact q
theorem Inv.quiet {pins : List (Addr × Obj)} {σ : St} {H : Hp} {s : Shared} (I : Inv X pins σ H s) : interactive X.env = false := by simp [interactive, I.ok.kind]
def tDrop (te : TE) : TS := fun D σ H => te σ H fun _ H1 => D.nx σ H1
theorem ps_expr (he : PE X e te) (hs : swapsWith e none pos.line X.env = pure false := by rfl) : PS X (.Expr e pos) (tDrop te) := by
  intro pins s σ H D I h
  exact wpAny_Expr_any (thn (he pins s σ H _ I h) fun v s1 ⟨x, H1, I1, r1, q1⟩ => ⟨σ, H1, I1, q1⟩) I.quiet hs
def tRet (te : TE) : TS := fun D σ H => te σ H D.rt
theorem ps_ret (he : PE X e te) : PS X (.Return (some e) pos) (tRet te) := by
  intro pins s σ H D I h
  exact wpAny_Return_some (thn (he pins s σ H _ I h) fun v s1 ⟨x, H1, I1, r1, q1⟩ => ⟨x, σ, H1, I1, r1, q1⟩)
def tIfS (c : TT) (t u : TS) : TS := fun D σ H => c σ H fun b H1 => if b = true then t D σ H1 else u D σ H1
theorem ps_if {c : Expr} {a b : List Stmt} {tc : TT} (hc : PT X c tc) (ha : PSs X a t) (hb : PSs X b u) : PS X (.If c a b pos) (tIfS tc t u) := by
  intro pins s σ H D I h
  refine wpAny_If (thn (hc pins s σ H _ I h) fun d s1 ⟨H1, I1, q1⟩ => ?_)
  cases d with
  | true => exact ha pins s1 σ H1 D I1 q1
  | false => exact hb pins s1 σ H1 D I1 q1
end

/-! ### targets -/
noncomputable abbrev TG := V → St → Hp → (St → Hp → Prop) → Prop
noncomputable abbrev TGs := List V → St → Hp → (St → Hp → Prop) → Prop
def PG (X : Cx) (target : Expr) (t : TG) : Prop :=
  ∀ (pins : List (Addr × Obj)) (s : Shared) (σ : St) (H : Hp) (v : V) (u : Value) (Q : St → Hp → Prop), Inv X pins σ H s → RelV v u → t v σ H Q →
    wpAny (model X.prog X.w) X.A (assign target X.env u) (fun _ s' => ∃ σ' H', Inv X pins σ' H' s' ∧ Q σ' H') X.xe s
def PGs (X : Cx) (ts : List Expr) (t : TGs) : Prop :=
  ∀ (pins : List (Addr × Obj)) (s : Shared) (σ : St) (H : Hp) (vs : List V) (us : List Value) (Q : St → Hp → Prop), Inv X pins σ H s → Vals vs us → t vs σ H Q →
    wpAny (model X.prog X.w) X.A (assignInOrder ((assignEach ts X.env).map (·.2)) us) (fun _ s' => ∃ σ' H', Inv X pins σ' H' s' ∧ Q σ' H') X.xe s
section
variable {X : Cx} {pos : Pos}
def gName (i : Nat) : TG := fun v σ H Q => Q (σ.set i (some v)) H
theorem pg_name {i : Nat} {x : Str} (hN : X.N.Nodup) (hi : X.N[i]? = some x) (hx : Loc X.env.scope x) (hf : X.fn x = true ∨ X.env.scope.names.lookup x = some .local := by first | exact .inl rfl | exact .inr rfl | assumption) : PG X (.Name x pos) (gName i) := by
  intro pins s σ H v u Q I r h
  exact wpAny_assign_Name (store_ok I hN hi hx r (fun s' I' => ⟨_, H, I', h⟩) hf)
noncomputable def gNil : TGs := fun vs σ H Q => vs = [] ∧ Q σ H
noncomputable def gCons (t : TG) (u : TGs) : TGs := fun vs σ H Q => ∃ v r, vs = v :: r ∧ t v σ H fun σ' H' => u r σ' H' Q
theorem pgs_nil : PGs X [] gNil := by
  intro pins s σ H vs us Q I r h
  obtain ⟨e, h⟩ := h
  exact assignInOrder_nil ⟨σ, H, I, h⟩
theorem pgs_cons {e : Expr} {es : List Expr} {t : TG} {u : TGs} (h1 : PG X e t) (h2 : PGs X es u)
    (hs : (assignEach (e :: es) X.env).map (·.2) = assign e X.env :: (assignEach es X.env).map (·.2) := by rfl) : PGs X (e :: es) (gCons t u) := by
  intro pins s σ H vs us Q I r h
  obtain ⟨v, vr, e1, h⟩ := h
  subst e1
  cases r with
  | cons r rr =>
    rw [hs]
    refine assignInOrder_cons (thn (h1 pins s σ H _ _ _ I r h) fun _ s1 ⟨σ1, H1, I1, q1⟩ => ?_)
    exact h2 pins s1 σ1 H1 _ _ Q I1 rr q1
def gTup (K : PySem.W.Frag) (n : Nat) (t : TGs) : TG := fun v σ H Q => ∃ a xs, v = .ref a ∧ SqT K H a xs ∧ xs.length = n ∧ t xs σ H Q
theorem pg_tup {es : List Expr} {k : Nat} {t : TGs} {n : Nat} (hc : X.calm = true) (h : PGs X es t)
    (hn : (assignEach es X.env).length = n := by rfl) (hst : (assignEach es X.env).findIdx? (·.1) = none := by rfl) : PG X (.Tuple es k pos) (gTup X.K n t) := by
  intro pins s σ H v u Q I r hw
  obtain ⟨a, xs, e1, hq, hl, hw⟩ := hw
  subst e1
  cases r
  obtain ⟨its, rv, ht, hz⟩ := I.tuple hq
  refine assign_Tuple_tuple (I.ok.hd hc) ht (by simp [hn, ← hl, rv.length]) hst fun h' hx => ?_
  have I1 : Inv X pins σ H _ := I.kept (t' := s.toks) fun b o e => hx b o (Nat.ne_of_lt (Heap.lt_size e)) e
  exact h pins _ σ H xs _ Q I1 (by simp_all) hw
def tAsg (te : TE) (g : TG) : TS := fun D σ H => te σ H fun x H1 => g x σ H1 D.nx
theorem ps_set {i : Nat} {x : Str} {e : Expr} {te : TE} {pos' : Pos} (hN : X.N.Nodup) (hi : X.N[i]? = some x) (hx : Loc X.env.scope x) (he : PE X e te) (hs : swapsWith e (some (.Name x pos')) pos.line X.env = pure false := by rfl) (hf : X.fn x = true ∨ X.env.scope.names.lookup x = some .local := by first | exact .inl rfl | exact .inr rfl | assumption) :
    PS X (.Assign [.Name x pos'] e pos) (tAsg te (gName i)) := by
  intro pins s σ H D I h
  refine wpAny_Assign_Name (thn (he pins s σ H _ I h) fun v s1 ⟨y, H1, I1, r1, q1⟩ => ?_) hs
  exact store_ok I1 hN hi hx r1 (fun s2 I2 => ⟨_, H1, I2, q1⟩) hf
end

/-! ### while -/
section
variable {X : Cx} {pos : Pos}
end

/-! ### what a loop or a comprehension walks -/
structure It where
  go : Nat → Hp → Prop
  yld : Nat → Hp → V → Hp → Prop
  stop : Nat → Hp → Prop
def FpOk (X : Cx) (pins : List (Addr × Obj)) (H : Hp) (b : Addr) : Prop :=
  H b = none ∧ b ≠ X.env.locals ∧ b ∉ X.fs ∧ (b ∈ X.ex ∨ X.s₀.heap.objs.size ≤ b) ∧ (∀ x c, X.env.cells.lookup x = some c → c ≠ b) ∧ ∀ p ∈ X.pn ++ pins, p.1 ≠ b
theorem Inv.fpOk {X : Cx} {pins : List (Addr × Obj)} {σ : St} {H H' : Hp} {s : Shared} {b : Addr} (I : Inv X pins σ H s) (hb : s.heap.objs.size ≤ b) (hn : H' b = none) : FpOk X pins H' b := by
  refine ⟨hn, Nat.ne_of_gt (Nat.lt_of_lt_of_le I.lt hb), I.nofs hb, .inr (Nat.le_trans I.sz hb), fun x c e z => ?_, fun p hp z => ?_⟩
  · obtain ⟨v, q⟩ := I.cell x c e
    exact absurd (Nat.lt_of_lt_of_le q.lt (by simp_all)) (Nat.lt_irrefl _)
  · exact absurd (Nat.lt_of_lt_of_le (Heap.lt_size (I.pin p hp).1) (by simp_all)) (Nat.lt_irrefl _)
structure Turn (P : Program) (w : World) (K : PySem.W.Frag) (tg : Expr) (J : It) (fp : List Addr) (it : Addr) (tn : Nat → Heap → Prop) : Prop where
  mem : it ∈ fp
  obj : ∀ i h, tn i h → ∀ b ∈ fp, ∃ o, h.get? b = some o ∧ ∀ v, o.data ≠ .cell v
  keep : ∀ i h h', tn i h → (∀ b ∈ fp, ∀ o, h.get? b = some o → h'.get? b = some o) → tn i h'
  item : ∀ (X : Cx), X.prog = P → X.w = w → X.K = K → X.calm = true → ∀ (i : Nat) (pins : List (Addr × Obj)) (s : Shared) (σ : St) (H : Hp) (E : Value → Shared → Prop), Inv X pins σ H s → (∀ b ∈ fp, FpOk X pins H b) → tn i s.heap → J.go i H →
    wpAny (model P w) X.A (pyNext (.ref it)) (fun r s1 => ∃ u, r = some u ∧
      wpAny (model P w) X.A (letOwnedTupleGo tg (.ref it) u) (fun _ s2 => ∃ x H', Inv X pins σ H' s2 ∧ RelV x u ∧ J.yld i H x H' ∧ tn (i + 1) s2.heap ∧ ∀ b ∈ fp, H' b = none) E s1) E s
  done : ∀ (X : Cx), X.prog = P → X.w = w → X.K = K → X.calm = true → ∀ (i : Nat) (pins : List (Addr × Obj)) (s : Shared) (σ : St) (H : Hp) (E : Value → Shared → Prop), Inv X pins σ H s → (∀ b ∈ fp, FpOk X pins H b) → tn i s.heap → J.stop i H →
    wpAny (model P w) X.A (pyNext (.ref it)) (fun r s1 => r = none ∧ Inv X pins σ H s1) E s
  self : ∀ (A : Around) (i : Nat) (s : Shared) (Q : Value → Shared → Prop) (E : Value → Shared → Prop), tn i s.heap → Q (.ref it) s → wpAny (model P w) A (pyIter (.ref it)) Q E s
noncomputable abbrev TI := St → Hp → (It → Hp → Prop) → Prop
def PIE (X : Cx) (pins : List (Addr × Obj)) (σ : St) (tg : Expr) (R : It → Hp → Prop) (itv : Value) (s2 : Shared) : Prop :=
  ∃ (it : Addr) (fp : List Addr) (tn : Nat → Heap → Prop) (J : It) (H' : Hp), itv = .ref it ∧ Inv X pins σ H' s2 ∧ Turn X.prog X.w X.K tg J fp it tn ∧ tn 0 s2.heap ∧ (∀ b ∈ fp, FpOk X pins H' b) ∧ R J H'
def PI (X : Cx) (tg iter : Expr) (wi : TI) : Prop :=
  ∀ (pins : List (Addr × Obj)) (s : Shared) (σ : St) (H : Hp) (R : It → Hp → Prop), Inv X pins σ H s → wi σ H R →
    wpAny (model X.prog X.w) X.A (eval iter X.env) (fun v s1 => wpAny (model X.prog X.w) X.A (pyIter v) (PIE X pins σ tg R) X.xe s1) X.xe s

theorem go_of {M : Model} {A : Around} {E : Value → Shared → Prop} {s : Shared} {tg : Expr} {it : Addr} {u : Value} {o : Obj} {n : String} {vs : Array Value} {Q : Unit → Shared → Prop} (ho : s.heap.get? it = some o) (hc : o.cls = .type n) (hd : o.data = .fields vs)
    (hn : ["enumerate", "zip", "dict_itemiterator", "dict_reverseitemiterator", "odict_iterator", "itertools.zip_longest", "itertools.pairwise"].contains n = false) (hQ : Q () s) : wpAny M A (letOwnedTupleGo tg (.ref it) u) Q E s := by
  cases tg <;> first
    | exact wpAny_pure hQ
    | (cases u <;> first
        | exact wpAny_pure hQ
        | (refine wpAny_bind (wpAny_load ho ?_)
           rw [hc, hd]
           show wpAny M A (if (["enumerate", "zip", "dict_itemiterator", "dict_reverseitemiterator", "odict_iterator", "itertools.zip_longest", "itertools.pairwise"].contains n && vs[0]? == some _) = true then _ else _) Q E s
           rw [if_neg (by grind)]
           exact wpAny_pure hQ))

noncomputable def Itl (K : PySem.W.Frag) (a : Addr) : It :=
  ⟨fun i H => ∃ xs x, SqL K H a xs ∧ xs[i]? = some x, fun i H x H' => H' = H ∧ ∀ xs, SqL K H a xs → xs[i]? = some x, fun i H => ∃ xs, SqL K H a xs ∧ xs.length ≤ i⟩
noncomputable def Itr (lo : Int) (n : Nat) : It := ⟨fun i _ => i < n, fun i H x H' => H' = H ∧ x = .int (lo + i), fun i _ => n ≤ i⟩
theorem turn_list {P : Program} {w : World} {K : PySem.W.Frag} {tg : Expr} (a it : Addr) : Turn P w K tg (Itl K a) [it] it (fun i h => h.IsListIter it a i) where
  mem := by simp
  obj := fun i h st b hb => by
    obtain ⟨o, e, c, d⟩ := st
    simp_all
  keep := fun i h h' st k => st.at fun o e => k it (by simp) o e
  item := by
    intro X hP hw hK hc i pins s σ H E I hf st hg
    subst hP hw hK
    obtain ⟨xs, x, hq, hx⟩ := hg
    obtain ⟨its, rv, p, hz⟩ := I.list hq
    obtain ⟨u, hu, ru⟩ := rv.get hx
    obtain ⟨f0, f1, f2, f3, f4, f5⟩ := hf it (by simp)
    refine wpAny_pyNext_list_item st p.isList (by simpa using hu) fun h' st' sb => ?_
    have I1 : Inv X pins σ H _ := I.turned (t' := s.toks) (fun b o hb e => (sb.2 b hb).trans e) f0 f1 f3 f4 f5
    obtain ⟨o, e, c, d⟩ := id st'
    exact ⟨u, rfl, go_of e c d (by decide) ⟨x, H, I1, ru, ⟨rfl, fun ys hy => by rw [I.list_inj hy hq]; exact hx⟩, st', fun b hb => (hf b hb).1⟩⟩
  done := by
    intro X hP hw hK hc i pins s σ H E I hf st hg
    subst hP hw hK
    obtain ⟨xs, hq, hx⟩ := hg
    obtain ⟨its, rv, p, hz⟩ := I.list hq
    obtain ⟨f0, f1, f2, f3, f4, f5⟩ := hf it (by simp)
    have hl := rv.length
    exact wpAny_pyNext_list_end (I.ok.hd hc) st p.isList (by simp; omega) fun h' eb => ⟨rfl, I.turned (fun b o hb e => eb b o hb e) f0 f1 f3 f4 f5⟩
  self := fun _ _ _ _ _ st h => wpAny_pyIter_listiter st h
theorem turn_range {P : Program} {w : World} {K : PySem.W.Frag} {tg : Expr} (it : Addr) (lo : Int) (n : Nat) : Turn P w K tg (Itr lo n) [it] it (fun i h => IsRangeIter h it (lo + (i : Nat) * 1) ((n : Int) - (i : Nat)) 1) where
  mem := by simp
  obj := fun i h st b hb => by
    simp_all
  keep := fun i h h' st k => k it (by simp) _ st
  item := by
    intro X hP hw hK hc i pins s σ H E I hf st hg
    subst hP hw hK
    obtain ⟨f0, f1, f2, f3, f4, f5⟩ := hf it (by simp)
    have W := Walks.range (prog := X.prog) (w := X.w) (I.ok.hd hc) it lo 1 n
    refine wpTk I.tk (W.item i s _ _ hg st fun v h' tk hv st' kk h0 => ?_)
    obtain ⟨t, rfl⟩ := hv
    have I1 : Inv X pins σ H { s with heap := h', toks := tk } := I.turned (fun b o hb e => kk b o (by simp_all) e) f0 f1 f3 f4 f5
    refine ⟨_, rfl, go_of st' rfl rfl (by decide) ⟨.int _, H, I1, ⟨t, ?_⟩, ⟨rfl, rfl⟩, st', fun b hb => (hf b hb).1⟩⟩
    simp_all
  done := by
    intro X hP hw hK hc i pins s σ H E I hf st hg
    obtain ⟨f0, f1, f2, f3, f4, f5⟩ := hf it (by simp)
    exact wpAny_pyNext_range_end (I.ok.hd hc) st (by have : n ≤ i := hg; omega) fun h' eb => ⟨rfl, I.turned (fun b o hb e => eb b o hb e) f0 f1 f3 f4 f5⟩
  self := fun _ _ _ _ _ st h => wpAny_pyIter_rangeiter st h
end L2

namespace L2
open PySem PySem.Spec PyProof.Rows
section
variable {X : Cx} {tg : Expr}
noncomputable def iList (K : PySem.W.Frag) (tl : TE) : TI := fun σ H R => tl σ H fun x H1 => ∃ a, x = .ref a ∧ (∃ xs, SqL K H1 a xs) ∧ R (Itl K a) H1
theorem pi_list {l : Expr} {tl : TE} (hl : PE X l tl) : PI X tg l (iList X.K tl) := by
  intro pins s σ H R I h
  refine thn (hl pins s σ H _ I h) fun v s1 ⟨x, H1, I1, r1, q1⟩ => ?_
  obtain ⟨a, e, ⟨xs, hq⟩, q⟩ := q1
  subst e
  cases r1
  obtain ⟨its, rv, p, hz⟩ := I1.list hq
  refine wpAny_pyIter_list p.isList ?_
  refine ⟨s1.heap.objs.size, [s1.heap.objs.size], _, _, H1, rfl, I1.kept fun b o e => Heap.get?_push_of_some _ e, turn_list a _, ⟨_, Heap.get?_push_size _ rfl, rfl, rfl⟩, fun b hb => ?_, q⟩
  have e  := by simpa using hb
  subst e
  exact I1.fpOk (Nat.le_refl _) (I1.hok.fresh (Nat.le_refl _))
theorem range_it {pins : List (Addr × Obj)} {σ : St} {H : Hp} {s : Shared} {R : It → Hp → Prop} {E : Value → Shared → Prop} {lo hi : Int} {t u v : Tok} {tk : Nat} (I : Inv X pins σ H s) (h1 : -(2 ^ 62) ≤ lo) (h2 : lo < 2 ^ 62) (h3 : -(2 ^ 62) ≤ hi) (h4 : hi < 2 ^ 62)
    (q : R (Itr lo (hi - lo).toNat) H) (h0 : 0 < tk := by first | assumption | exact Nat.succ_pos _ | exact Inv.tk ‹_› | omega) : wpAny (model X.prog X.w) X.A (pyIter (.ref s.heap.objs.size)) (PIE X pins σ tg R) E { s with heap := s.heap.push { cls := .type "range", data := .fields #[.int lo t, .int hi u, .int 1 v] }, toks := tk } := by
  refine wpAny_pyIter_range (IsRange.new ..) (small_one h1 h2 h3 h4) ?_
  have I1 : Inv X pins σ H { s with heap := s.heap.push { cls := .type "range", data := .fields #[.int lo t, .int hi u, .int 1 v] }, toks := tk } := I.kept fun b o e => Heap.get?_push_of_some _ e
  refine ⟨(s.heap.push { cls := .type _, data := .fields _ }).objs.size, [(s.heap.push { cls := .type _, data := .fields _ }).objs.size], _, _, H, rfl,
    I1.kept fun b o e => Heap.get?_push_of_some _ e, turn_range _ lo _, ?_, fun b hb => ?_, q⟩
  · have e1 : lo + ((0 : Nat)) * 1 = lo := by simp
    have e2 : (((hi - lo).toNat) : Int) - ((0 : Nat)) = Builtin.Range.rangeSize lo hi 1 := by rw [rangeSize_one]; grind
    rw [e1, e2]
    exact Heap.get?_push_size _ rfl
  · have e : b = (s.heap.push { cls := .type "range", data := .fields #[.int lo t, .int hi u, .int 1 v] }).objs.size := by grind
    subst e
    exact I1.fpOk (Nat.le_refl _) (I1.hok.fresh (Nat.le_refl _))
noncomputable def iRng1 (ta : TA) : TI := fun σ H R => ta σ H fun vs H1 => ∃ j : Int, vs = [.int j] ∧ -(2 ^ 62) ≤ j ∧ j < 2 ^ 62 ∧ R (Itr 0 j.toNat) H1
noncomputable def iRng2 (ta : TA) : TI := fun σ H R => ta σ H fun vs H1 => ∃ i j : Int, vs = [.int i, .int j] ∧ (-(2 ^ 62) ≤ i ∧ i < 2 ^ 62 ∧ -(2 ^ 62) ≤ j ∧ j < 2 ^ 62) ∧ R (Itr i (j - i).toNat) H1
theorem pi_range1 {a : Expr} {ta : TA} {p pos : Pos} (hg : Gl X "range") (hm : X.mg "range" = none) (ha : PA X [a] ta) (hs : starEach [a] X.env = [(false, eval a X.env)] := by rfl) : PI X tg (.Call (.Name "range" p) [a] [] pos) (iRng1 ta) := by
  intro pins s σ H R I h
  refine Call_ (ld_blt I hg hm boot_range (PyProof.Rows.callWith_type1 (thn (ha pos pins s σ H _ I h) fun us s1 ⟨vs, H1, I1, r1, q1⟩ => ?_) hs rfl))
  obtain ⟨j, e, q1, q2, q⟩ := q1
  subst e
  cases r1 with
  | cons r rr =>
    cases rr
    obtain ⟨t, rfl⟩ := r
    exact call_range_1 (range_it I1 (by omega) (by omega) q1 q2 (by simpa using q))
theorem pi_range2 {a b : Expr} {ta : TA} {p pos : Pos} (hg : Gl X "range") (hm : X.mg "range" = none) (ha : PA X [a, b] ta) (hs : starEach [a, b] X.env = [(false, eval a X.env), (false, eval b X.env)] := by rfl) (hs2 : starEach [b] X.env = [(false, eval b X.env)] := by rfl) :
    PI X tg (.Call (.Name "range" p) [a, b] [] pos) (iRng2 ta) := by
  intro pins s σ H R I h
  refine Call_ (ld_blt I hg hm boot_range (PyProof.Rows.callWith_type1 (thn (ha pos pins s σ H _ I h) fun us s1 ⟨vs, H1, I1, r1, q1⟩ => ?_) (by rw [hs, hs2]) (by rw [hs2]; rfl)))
  obtain ⟨i, j, e, ⟨q1, q2, q3, q4⟩, q⟩ := q1
  subst e
  cases r1 with
  | cons r rr =>
    cases rr with
    | cons r' rr =>
      cases rr
      obtain ⟨t, rfl⟩ := r
      obtain ⟨t', rfl⟩ := r'
      exact call_range_2 (range_it I1 q1 q2 q3 q4 q)

/-! ### for -/
def tFor (wi : TI) (g : TG) (tb : TS) : TS := fun D σ H => wi σ H fun J H1 => ∃ W : Nat → Nat → St → Hp → Prop, (∃ m, W 0 m σ H1) ∧ ∀ i m σ H, W i m σ H →
  (J.stop i H ∧ D.nx σ H) ∨ (J.go i H ∧ ∃ N : St → Hp → Prop, (∀ σ' H', N σ' H' → ∃ m', m' < m ∧ W (i + 1) m' σ' H') ∧ ∀ x H', J.yld i H x H' → g x σ H' fun σ2 H2 => tb { D with nx := N, ct := N, bk := D.nx } σ2 H2)
noncomputable def pinsAt (fp : List Addr) (h : Heap) : List (Addr × Obj) := fp.filterMap fun b => (h.get? b).map fun o => (b, o)
theorem mem_pinsAt {fp : List Addr} {h : Heap} {b : Addr} {o : Obj} (hb : b ∈ fp) (e : h.get? b = some o) : (b, o) ∈ pinsAt fp h := List.mem_filterMap.mpr ⟨b, hb, by rw [e]; rfl⟩
theorem of_pinsAt {fp : List Addr} {h : Heap} {p : Addr × Obj} (hp : p ∈ pinsAt fp h) : p.1 ∈ fp ∧ h.get? p.1 = some p.2 := by
  obtain ⟨b, hb, e⟩ := List.mem_filterMap.mp hp
  cases q : h.get? b with
  | none => simp_all
  | some o =>
    grind
theorem Inv.pinned {pins : List (Addr × Obj)} {σ : St} {H : Hp} {s : Shared} {fp : List Addr} (I : Inv X pins σ H s) (hf : ∀ b ∈ fp, FpOk X pins H b) (ho : ∀ b ∈ fp, ∃ o, s.heap.get? b = some o ∧ ∀ v, o.data ≠ .cell v) : Inv X (pins ++ pinsAt fp s.heap) σ H s :=
  I.pins_of fun p hp => (List.mem_append.mp hp).elim (fun z => I.pin p (List.mem_append_right _ z)) fun z => by
    obtain ⟨hb, e⟩ := of_pinsAt z
    obtain ⟨f0, f1, f2, _⟩ := hf _ hb
    grind
theorem Inv.unpinned {pins pl : List (Addr × Obj)} {σ : St} {H : Hp} {s : Shared} (I : Inv X (pins ++ pl) σ H s) : Inv X pins σ H s := I.pins_of fun p hp => I.pin p (List.mem_append_right _ (List.mem_append_left _ hp))
theorem ps_for {iter : Expr} {body : List Stmt} {wi : TI} {g : TG} {tb : TS} {pos : Pos} (hp : PassesOwn (model X.prog X.w) X.A X.env X.xe) (hc : X.calm = true) (hi : PI X tg iter wi) (hg : PG X tg g) (hb : PSs X body tb)
    (hs : ∀ x, foldedSetIterable iter X.env x = pure x := by intro _; rfl) : PS X (.For tg iter body [] pos) (tFor wi g tb) := by
  intro pins s σ H D I h
  refine wpAny_For (thn (hi pins s σ H _ I h) fun v s1 h1 => thn h1 fun itv s2 h2 => ?_) hs
  obtain ⟨it, fp, tn, J, H2, e, I2, T, st2, f2, W, ⟨m0, w0⟩, turn⟩ := h2
  subst e
  -- what stays true of the iterator's objects through the loop
  have stat : ∀ {H' : Hp}, (∀ b ∈ fp, H' b = none) → ∀ b ∈ fp, FpOk X pins H' b := fun hn b hb => ⟨hn b hb, (f2 b hb).2⟩
  refine codeAny_forLoop_any (fun n s' => ∃ i σ' H', Inv X pins σ' H' s' ∧ tn i s'.heap ∧ (∀ b ∈ fp, H' b = none) ∧ W i n σ' H') ?_ m0 ⟨0, σ, H2, I2, st2, fun b hb => (f2 b hb).1, w0⟩
  rintro n s3 ⟨i, σ3, H3, I3, st3, fr3, w3⟩
  rcases turn i n σ3 H3 w3 with ⟨stop, qn⟩ | ⟨go, N, hN, step⟩
  · refine wpAny_passesOwn hp (thn (T.done X rfl rfl rfl hc i pins s3 σ3 H3 X.xe I3 (stat fr3) st3 stop) fun r s4 ⟨hr, I4⟩ => ?_)
    subst hr
    exact wpAny_execs_nil ⟨σ3, H3, I4, qn⟩
  · refine wpAny_passesOwn hp (thn (T.item X rfl rfl rfl hc i pins s3 σ3 H3 X.xe I3 (stat fr3) st3 go) fun r s4 ⟨u, hr, h4⟩ => ?_)
    subst hr
    refine wpAny_passesOwn hp (thn h4 fun _ s5 ⟨x, H5, I5, r5, y5, st5, fr5⟩ => ?_)
    have I5' := I5.pinned (stat fr5) (T.obj _ _ st5)
    refine wpAny_passesOwn hp (thn (hg _ s5 σ3 H5 x u _ I5' r5 (step x H5 y5)) fun _ s6 ⟨σ6, H6, I6, q6⟩ => ?_)
    refine wpAny_passesOwn hp (thn (hb _ s6 σ6 H6 _ I6 q6) fun f s7 q7 => ?_)
    have again : ∀ {σ7 : St} {H7 : Hp}, Inv X (pins ++ pinsAt fp _) σ7 H7 s7 → N σ7 H7 → ∃ m, m < n ∧ ∃ i σ' H', Inv X pins σ' H' s7 ∧ tn i _ ∧ (∀ b ∈ fp, H' b = none) ∧ W i m σ' H' := fun {σ7 H7} I7 n7 => by
      obtain ⟨m', hm, w7⟩ := hN σ7 H7 n7
      refine ⟨m', hm, i + 1, σ7, H7, I7.unpinned, T.keep _ _ _ st5 fun b hb o e => (I7.pin _ (List.mem_append_right _ (List.mem_append_right _ (mem_pinsAt hb e)))).1, fun b hb => ?_, w7⟩
      obtain ⟨o, e, d⟩ := T.obj _ _ st5 b hb
      exact (I7.pin _ (List.mem_append_right _ (List.mem_append_right _ (mem_pinsAt hb e)))).2.1
    cases f with
    | next => obtain ⟨σ7, H7, I7, n7⟩ := q7; exact again I7 n7
    | cont => obtain ⟨σ7, H7, I7, n7⟩ := q7; exact again I7 n7
    | brk => obtain ⟨σ7, H7, I7, q7⟩ := q7; exact ⟨σ7, H7, I7.unpinned, q7⟩
    | ret v => obtain ⟨x7, σ7, H7, I7, r7, q7⟩ := q7; exact ⟨x7, σ7, H7, I7.unpinned, r7, q7⟩
end

/-! ### the forms one uses -/
theorem for_list {K : PySem.W.Frag} {a : Addr} {xs : List V} {g : TG} {tb : TS} {D : Ends} {σ : St} {H : Hp} (Pv : Nat → St → Hp → Prop) (h0 : Pv 0 σ H) (hl : ∀ i σ H, i ≤ xs.length → Pv i σ H → SqL K H a xs)
    (hs : ∀ i x σ H, xs[i]? = some x → Pv i σ H → g x σ H fun σ2 H2 => tb { D with nx := Pv (i + 1), ct := Pv (i + 1), bk := D.nx } σ2 H2) (hd : ∀ σ H, Pv xs.length σ H → D.nx σ H) :
    ∃ W : Nat → Nat → St → Hp → Prop, (∃ m, W 0 m σ H) ∧ ∀ i m σ H, W i m σ H →
      ((Itl K a).stop i H ∧ D.nx σ H) ∨ ((Itl K a).go i H ∧ ∃ N : St → Hp → Prop, (∀ σ' H', N σ' H' → ∃ m', m' < m ∧ W (i + 1) m' σ' H') ∧ ∀ x H', (Itl K a).yld i H x H' → g x σ H' fun σ2 H2 => tb { D with nx := N, ct := N, bk := D.nx } σ2 H2) := by
  refine ⟨fun i m σ H => m = xs.length - i ∧ i ≤ xs.length ∧ Pv i σ H, ⟨xs.length, by simp, Nat.zero_le _, h0⟩, ?_⟩
  rintro i m σ H ⟨rfl, hi, p⟩
  have q := hl i σ H hi p
  by_cases hlt : i < xs.length
  · refine .inr ⟨⟨xs, xs[i], q, by simp [hlt]⟩, Pv _, fun σ' H' p' => ⟨xs.length - (i + 1), by omega, rfl, hlt, p'⟩, fun x H' y => ?_⟩
    obtain ⟨e, y⟩ := y
    grind
  · have e : i = xs.length := by omega
    subst e
    exact .inl ⟨⟨xs, q, Nat.le_refl _⟩, hd σ H p⟩
theorem for_range {lo : Int} {n : Nat} {g : TG} {tb : TS} {D : Ends} {σ : St} {H : Hp} (Pv : Nat → St → Hp → Prop) (h0 : Pv 0 σ H)
    (hs : ∀ i σ H, i < n → Pv i σ H → g (.int (lo + i)) σ H fun σ2 H2 => tb { D with nx := Pv (i + 1), ct := Pv (i + 1), bk := D.nx } σ2 H2) (hd : ∀ σ H, Pv n σ H → D.nx σ H) :
    ∃ W : Nat → Nat → St → Hp → Prop, (∃ m, W 0 m σ H) ∧ ∀ i m σ H, W i m σ H →
      ((Itr lo n).stop i H ∧ D.nx σ H) ∨ ((Itr lo n).go i H ∧ ∃ N : St → Hp → Prop, (∀ σ' H', N σ' H' → ∃ m', m' < m ∧ W (i + 1) m' σ' H') ∧ ∀ x H', (Itr lo n).yld i H x H' → g x σ H' fun σ2 H2 => tb { D with nx := N, ct := N, bk := D.nx } σ2 H2) := by
  refine ⟨fun i m σ H => m = n - i ∧ i ≤ n ∧ Pv i σ H, ⟨n, by simp, Nat.zero_le _, h0⟩, ?_⟩
  rintro i m σ H ⟨rfl, hi, p⟩
  by_cases hlt : i < n
  · refine .inr ⟨hlt, Pv _, fun σ' H' p' => ⟨n - (i + 1), by omega, rfl, hlt, p'⟩, fun x H' y => ?_⟩
    obtain ⟨e, y⟩ := y
    simp_all
  · have e : i = n := by omega
    subst e
    exact .inl ⟨Nat.le_refl _, hd σ H p⟩
end L2

namespace L2
open PySem PySem.Spec PyProof.Rows

noncomputable abbrev R2 := V → V → Hp → VK → Prop
def OpR (X : Cx) (f : Value → Value → Sem Value) (r : R2) : Prop :=
  ∀ (pins : List (Addr × Obj)) (s : Shared) (σ : St) (H : Hp) (x y : V) (v u : Value) (Q : VK), Inv X pins σ H s → RelV x v → RelV y u → r x y H Q →
    wpAny (model X.prog X.w) X.A (f v u) (EP X pins σ Q) X.xe s
def CallR (X : Cx) (f : Value) (r : List V → Hp → VK → Prop) : Prop :=
  ∀ (pins : List (Addr × Obj)) (s : Shared) (σ : St) (H : Hp) (xs : List V) (us : List Value) (Q : VK), Inv X pins σ H s → Vals xs us → r xs H Q →
    wpAny (model X.prog X.w) X.A (call f us) (EP X pins σ Q) X.xe s
def tOp (r : R2) (ta tb : TE) : TE := fun σ H Q => ta σ H fun x H1 => tb σ H1 fun y H2 => r x y H2 Q
def rI (C : Int → Int → Prop) (g : Int → Int → V) : R2 := fun x y H Q => ∃ i j, x = .int i ∧ y = .int j ∧ C i j ∧ Q (g i j) H
def rI0 (g : Int → Int → V) : R2 := fun x y H Q => ∃ i j, x = .int i ∧ y = .int j ∧ Q (g i j) H
section
variable {X : Cx} {a b c : Expr} {ta tb tc : TE} {pos : Pos}

theorem binT (ha : PE X a ta) (hb : PE X b tb) {pins : List (Addr × Obj)} {s : Shared} {σ : St} {H : Hp} {R : V → V → Hp → Prop} (I : Inv X pins σ H s)
    (h : ta σ H fun x H1 => tb σ H1 fun y H2 => R x y H2) {Q : Value → Shared → Prop} {f : Value → Value → Sem Value}
    (hf : ∀ v u s2 x y H2, Inv X pins σ H2 s2 → RelV x v → RelV y u → R x y H2 → wpAny (model X.prog X.w) X.A (f v u) Q X.xe s2) :
    wpAny (model X.prog X.w) X.A (eval a X.env) (fun v s₁ => wpAny (model X.prog X.w) X.A (eval b X.env) (fun u s₂ => wpAny (model X.prog X.w) X.A (f v u) Q X.xe s₂) X.xe s₁) X.xe s := by
  refine thn (ha pins s σ H _ I h) fun v s1 ⟨x, H1, I1, r1, q1⟩ => ?_
  refine thn (hb pins s1 σ H1 _ I1 q1) fun u s2 ⟨y, H2, I2, r2, q2⟩ => ?_
  exact hf v u s2 x y H2 I2 r1 r2 q2

theorem pe_op {op : Operator} {r : R2} (ho : OpR X (binaryOp op) r) (ha : PE X a ta) (hb : PE X b tb) : PE X (.BinOp a op b pos) (tOp r ta tb) := by
  intro pins s σ H Q I h
  exact wpAny_BinOp (binT ha hb I h fun v u s2 x y H2 I2 rx ry q => ho pins s2 σ H2 x y v u Q I2 rx ry q)
/-! ### ints -/
theorem opI {f : Value → Value → Sem Value} {C : Int → Int → Prop} {g : Int → Int → Int}
    (rule : ∀ (i j : Int) (t u : Tok) (s : Shared) (Q : Value → Shared → Prop) (E : Value → Shared → Prop), C i j → Q (.int (g i j) s.toks) { s with toks := s.toks + 1 } → wpAny (model X.prog X.w) X.A (f (.int i t) (.int j u)) Q E s) :
    OpR X f (rI C fun i j => .int (g i j)) := by
  intro pins s σ H x y v u Q I rx ry h
  obtain ⟨i, j, rfl, rfl, hc, q⟩ := h
  obtain ⟨t, rfl⟩ := rx
  obtain ⟨t', rfl⟩ := ry
  exact rule i j t t' s _ _ hc ⟨.int _, H, I.tok _, ⟨_, rfl⟩, q⟩
theorem opI0 {f : Value → Value → Sem Value} {g : Int → Int → Int}
    (rule : ∀ (i j : Int) (t u : Tok) (s : Shared) (Q : Value → Shared → Prop) (E : Value → Shared → Prop), Q (.int (g i j) s.toks) { s with toks := s.toks + 1 } → wpAny (model X.prog X.w) X.A (f (.int i t) (.int j u)) Q E s) :
    OpR X f (rI0 fun i j => .int (g i j)) := by
  intro pins s σ H x y v u Q I rx ry h
  obtain ⟨i, j, rfl, rfl, q⟩ := h
  obtain ⟨t, rfl⟩ := rx
  obtain ⟨t', rfl⟩ := ry
  exact rule i j t t' s _ _ ⟨.int _, H, I.tok _, ⟨_, rfl⟩, q⟩
theorem opB0 {f : Value → Value → Sem Value} {g : Int → Int → Bool}
    (rule : ∀ (i j : Int) (t u : Tok) (s : Shared) (Q : Value → Shared → Prop) (E : Value → Shared → Prop), Q (.bool (g i j)) s → wpAny (model X.prog X.w) X.A (f (.int i t) (.int j u)) Q E s) :
    OpR X f (rI0 fun i j => .bl (g i j)) := by
  intro pins s σ H x y v u Q I rx ry h
  obtain ⟨i, j, rfl, rfl, q⟩ := h
  obtain ⟨t, rfl⟩ := rx
  obtain ⟨t', rfl⟩ := ry
  exact rule i j t t' s _ _ ⟨.bl _, H, I, rfl, q⟩

def CDiv (i j : Int) : Prop := 0 < j ∧ j < 1073741824
def CMul (i j : Int) : Prop := (-(2 ^ 64) < i ∧ i < 2 ^ 64) ∨ (-(2 ^ 64) < j ∧ j < 2 ^ 64)
theorem CMul.ok {i j : Int} (h : CMul i j) : IntMulOk i j := by
  rcases h with ⟨h1, h2⟩ | ⟨h1, h2⟩
  · exact .of_left (intBits_le_64 h1 h2)
  · exact .of_right (intBits_le_64 h1 h2)
theorem op_add : OpR X (binaryOp .Add) (rI0 fun i j => .int (i + j)) := opI0 fun _ _ _ _ _ _ _ q => add_int q
theorem op_mul : OpR X (binaryOp .Mult) (rI CMul fun i j => .int (i * j)) := opI fun _ _ _ _ _ _ _ hc q => mul_int q hc.ok
theorem op_fdiv : OpR X (binaryOp .FloorDiv) (rI CDiv fun i j => .int (i / j)) := opI fun i j _ _ _ _ _ hc q => by
  have h1 : 0 < j := hc.1
  have h2  := hc.2
  exact floordiv_int (by omega) (by grind) (.inl (PyProof.noPylong_small (by omega)))
theorem op_mod : OpR X (binaryOp .Mod) (rI (fun _ j => 0 < j) fun i j => .int (i % j)) := opI fun i j _ _ _ _ _ hc q => by
  exact mod_int' (by omega) (by grind)
/-! ### bools among ints: n += (a < b) -/
end

/-! ### comparisons -/
noncomputable def scal : V → V → Bool
  | .non, .non => true | .non, .int _ => true | .int _, .non => true | .non, .bl _ => true | .bl _, .non => true | .non, .str _ => true | .str _, .non => true
  | .int _, .int _ => true | .bl _, .bl _ => true | .str _, .str _ => true | .byt _, .byt _ => true
  | .int _, .str _ => true | .str _, .int _ => true | .bl _, .str _ => true | .str _, .bl _ => true
  | _, _ => false
def rEq : R2 := fun x y H Q => scal x y = true ∧ Q (.bl (decide (x = y))) H
theorem dec_int {i j : Int} : decide (V.int i = V.int j) = (i == j) := by
  grind
theorem dec_bl {i j : Bool} : decide (V.bl i = V.bl j) = (i == j) := by
  grind
theorem dec_str {i j : Str} : decide (V.str i = V.str j) = (i == j) := by
  grind
theorem dec_byt {i j : Array UInt8} : decide (V.byt i = V.byt j) = (i.toList == j.toList) := by
  rw [Bool.eq_iff_iff]
  simp_all

section
variable {X : Cx} {a b c : Expr} {ta tb tc : TE} {pos : Pos}
theorem fin_bl {pins : List (Addr × Obj)} {σ : St} {H : Hp} {s : Shared} {Q : VK} {k k' : Bool} (I : Inv X pins σ H s) (q : Q (.bl k) H) (e : k = k') : EP X pins σ Q (.bool k') s := by
  subst e
  exact ⟨.bl k, H, I, rfl, q⟩
theorem op_eq : OpR X (compareOp .Eq) rEq := by
  intro pins s σ H x y v u Q I rx ry h
  obtain ⟨hs, q⟩ := h
  cases x with
  | non =>
    cases rx
    cases y with
    | non => cases ry; exact PySem.EqNone.eq_none_none (fin_bl I q (by simp))
    | bl j => cases ry; exact PySem.EqNone.eq_none_bool (fin_bl I q (by simp))
    | int j => obtain ⟨t', rfl⟩ := ry; exact PySem.EqNone.eq_none_int (fin_bl I q (by simp))
    | str j => obtain ⟨t', rfl⟩ := ry; exact PySem.EqNone.eq_none_str (fin_bl I q (by simp))
    | _ => exact absurd (hs) Bool.false_ne_true
  | bl i =>
    cases rx
    cases y with
    | non => cases ry; exact PySem.EqNone.eq_bool_none (fin_bl I q (by simp))
    | bl j => cases ry; exact eq_bool (fin_bl I q dec_bl)
    | str j => obtain ⟨t', rfl⟩ := ry; exact PySem.EqMixed.eq_bool_str (fin_bl I q (by simp))
    | _ => exact absurd (hs) Bool.false_ne_true
  | int i =>
    obtain ⟨t, rfl⟩ := rx
    cases y with
    | non => cases ry; exact PySem.EqNone.eq_int_none (fin_bl I q (by simp))
    | int j => obtain ⟨t', rfl⟩ := ry; exact eq_int (fin_bl I q dec_int)
    | str j => obtain ⟨t', rfl⟩ := ry; exact PySem.EqMixed.eq_int_str (fin_bl I q (by simp))
    | _ => exact absurd (hs) Bool.false_ne_true
  | str i =>
    obtain ⟨t, rfl⟩ := rx
    cases y with
    | non => cases ry; exact PySem.EqNone.eq_str_none (fin_bl I q (by simp))
    | bl j => cases ry; exact PySem.EqMixed.eq_str_bool (fin_bl I q (by simp))
    | int j => obtain ⟨t', rfl⟩ := ry; exact PySem.EqMixed.eq_str_int (fin_bl I q (by simp))
    | str j => obtain ⟨t', rfl⟩ := ry; exact eq_str (fin_bl I q dec_str)
    | _ => exact absurd (hs) Bool.false_ne_true
  | byt i =>
    obtain ⟨t, rfl⟩ := rx
    cases y with
    | byt j => obtain ⟨t', rfl⟩ := ry; exact PySem.W.eq_bytes (fin_bl I q dec_byt)
    | _ => exact absurd (hs) Bool.false_ne_true
  | _ => cases y <;> exact absurd (hs) Bool.false_ne_true
theorem op_lt : OpR X (compareOp .Lt) (rI0 fun i j => .bl (decide (i < j))) := opB0 fun _ _ _ _ _ _ _ q => lt_int q
theorem op_gt : OpR X (compareOp .Gt) (rI0 fun i j => .bl (decide (j < i))) := opB0 fun _ _ _ _ _ _ _ q => gt_int q
theorem op_isN : OpR X (compareOp .Is) (fun x y H Q => y = .non ∧ Q (.bl (decide (x = .non))) H) := by
  intro pins s σ H x y v u Q I rx ry h
  obtain ⟨rfl, q⟩ := h
  cases ry
  refine is_none_gen (fin_bl I q ?_)
  cases x <;> first
    | (cases rx; rfl)
    | (obtain ⟨t, rfl⟩ := rx; rfl)
theorem nomark (b : Expr) {op : CmpOp} (h : op ≠ .In := by decide) (h2 : op ≠ .NotIn := by decide) : behindInMarks op b = false := by
  have e1 : (op == CmpOp.In) = false := by simp_all
  have e2 : (op == CmpOp.NotIn) = false := by simp_all
  cases b <;> simp [behindInMarks, e1, e2]
theorem pe_cmpR {op : CmpOp} {r : R2} (ho : OpR X (compareOp op) r) (ha : PE X a ta) (hb : PE X b tb) (hm : behindInMarks op b = false) : PE X (.Compare a [op] [b] pos) (tOp r ta tb) := by
  intro pins s σ H Q I h
  exact wpAny_Compare1 (binT ha hb I h fun v u s2 x y H2 I2 rx ry q => ho pins s2 σ H2 x y v u Q I2 rx ry q) hm
def tTest (t : TE) : TT := fun σ H Q => t σ H fun x H' => ∃ k, x = .bl k ∧ Q k H'
theorem pt_cmpR {op : CmpOp} {r : R2} (ho : OpR X (compareOp op) r) (ha : PE X a ta) (hb : PE X b tb) (hm : behindInMarks op b = false) : PT X (.Compare a [op] [b] pos) (tTest (tOp r ta tb)) := by
  intro pins s σ H Q I h
  refine wpAny_isTrue_Compare1 (thn (ha pins s σ H _ I h) fun v s1 ⟨x, H1, I1, r1, q1⟩ => thn (hb pins s1 σ H1 _ I1 q1) fun u s2 ⟨y, H2, I2, r2, q2⟩ =>
    thn (ho pins s2 σ H2 x y v u _ I2 r1 r2 q2) fun c s3 ⟨z, H3, I3, r3, k, e, q3⟩ => ?_) hm
  subst e
  cases r3
  exact wpAny_truthy_bool ⟨H3, I3, q3⟩
/-! ### truth -/
theorem line63 : (sizeLine : Nat) < 2 ^ 63 := by decide
/-! ### strs and bytes -/
theorem add_post {pins : List (Addr × Obj)} {σ : St} {H : Hp} {s : Shared} {i j : Str} {Q : VK} (I : Inv X pins σ H s) (t u : NZ) (hz : i.length + j.length ≤ sizeLine) (q : Q (.str (i ++ j)) H) :
    (if i.length == 0 then Made.val (.str j u.1) else if j.length == 0 then Made.val (.str i t.1) else Made.str (i ++ j)).post (EP X pins σ Q) s := by
  split
  · rename_i h
    have e : i ++ j = j := by
      obtain ⟨a⟩ := i; obtain ⟨b⟩ := j
      have : a = #[] := Array.eq_empty_of_size_eq_zero (by simpa [Str.length] using h)
      subst this
      show (⟨#[] ++ b⟩ : Str) = _
      rw [Array.empty_append]
    exact ⟨.str _, H, I, ⟨u, rfl⟩, e ▸ q⟩
  · split
    · rename_i h
      have e : i ++ j = i := by
        obtain ⟨a⟩ := i; obtain ⟨b⟩ := j
        have : b = #[] := Array.eq_empty_of_size_eq_zero (by simpa [Str.length] using h)
        subst this
        show (⟨a ++ #[]⟩ : Str) = _
        rw [Array.append_empty]
      exact ⟨.str _, H, I, ⟨t, rfl⟩, e ▸ q⟩
    · refine ⟨?_, .str _, H, I.tok _, ⟨⟨_, Nat.ne_of_gt I.tk⟩, rfl⟩, q⟩
      obtain ⟨a⟩ := i; obtain ⟨b⟩ := j
      show (a ++ b).size ≤ _
      rw [Array.size_append]; exact hz
theorem op_add_str : OpR X (binaryOp .Add) (fun x y H Q => ∃ i j, x = .str i ∧ y = .str j ∧ i.length + j.length ≤ sizeLine ∧ Q (.str (i ++ j)) H) := by
  intro pins s σ H x y v u Q I rx ry h
  obtain ⟨i, j, rfl, rfl, hz, q⟩ := h
  obtain ⟨t, rfl⟩ := rx
  obtain ⟨t', rfl⟩ := ry
  exact PySem.P.add_str (add_post I t t' hz q)
/-! ### scalar builtins, by CallR -/
theorem vals1 {x : V} {us : List Value} (r : Vals [x] us) : ∃ u, us = [u] ∧ RelV x u := by
  cases r with
  | cons r1 r2 => cases r2; simp_all
theorem vals2 {x y : V} {us : List Value} (r : Vals [x, y] us) : ∃ u w', us = [u, w'] ∧ RelV x u ∧ RelV y w' := by
  cases r with
  | cons r1 r2 =>
    cases r2 with
    | cons r3 r4 => cases r4; exact ⟨_, _, rfl, r1, r3⟩
theorem call_max2 (hc : X.calm = true) : CallR X (.builtin "max") (fun xs H Q => ∃ i j, xs = [.int i, .int j] ∧ Q (.int (if j > i then j else i)) H) := by
  intro pins s σ H xs us Q I r h
  obtain ⟨i, j, rfl, q⟩ := h
  obtain ⟨u, w', rfl, ⟨t, rfl⟩, ⟨t', rfl⟩⟩ := vals2 r
  refine wpTk I.tk (max_two_ints (I.ok.hd hc) fun h' tk k h0 => ⟨_, H, I.kept k, ?_, q⟩)
  by_cases hj : j > i
  · rw [if_pos hj, if_pos hj]; exact ⟨_, rfl⟩
  · rw [if_neg hj, if_neg hj]; exact ⟨_, rfl⟩
theorem call_min2 (hc : X.calm = true) : CallR X (.builtin "min") (fun xs H Q => ∃ i j, xs = [.int i, .int j] ∧ Q (.int (if j < i then j else i)) H) := by
  intro pins s σ H xs us Q I r h
  obtain ⟨i, j, rfl, q⟩ := h
  obtain ⟨u, w', rfl, ⟨t, rfl⟩, ⟨t', rfl⟩⟩ := vals2 r
  refine wpTk I.tk (min_two_ints (I.ok.hd hc) fun h' tk k h0 => ⟨_, H, I.kept k, ?_, q⟩)
  by_cases hj : j < i
  · rw [if_pos hj, if_pos hj]; exact ⟨_, rfl⟩
  · rw [if_neg hj, if_neg hj]; exact ⟨_, rfl⟩
theorem call_int1 : CallR X (.type "int") (fun xs H Q => (∃ i, xs = [.int i] ∧ Q (.int i) H) ∨ ∃ k, xs = [.bl k] ∧ Q (.int (if k then 1 else 0)) H) := by
  intro pins s σ H xs us Q I r h
  rcases h with ⟨i, rfl, q⟩ | ⟨k, rfl, q⟩
  · obtain ⟨u, rfl, t, rfl⟩ := vals1 r
    exact call_int_int ⟨.int i, H, I, ⟨_, rfl⟩, q⟩
  · obtain ⟨u, rfl, r1⟩ := vals1 r
    cases r1
    exact call_int_bool ⟨.int _, H, I.tok _, ⟨_, rfl⟩, q⟩
end
end L2

namespace L2
open PySem PySem.Spec PyProof.Rows

/-! ### an instance, its attributes a map -/
section
variable {prog : Program} {w : World} {A : Around} {E : Value → Shared → Prop} {s : Shared} {K : PySem.W.Frag} {x dx C f : Addr} {mA : Str → Option Value} {name : Str} {v : Value}

end

/-! ### the attributes as a list of pairs -/
section
variable {P : Program} {w : World} {H H' : Hp} {h h' : Heap} {a C dx : Addr} {fs fs' : List (Str × V)}
end

/-! ### what of the text a class must have -/
structure Cls (K : PySem.W.Frag) (C : Addr) : Prop where
  pg : PySem.W.plainGet K C Str.empty = true
  hd : PySem.W.hasDictIn K C = true
  po : PySem.W.plainOver K C = true
  sa : PySem.W.findIn K (.ref C) "__setattr__" = some (some (.builtin "object.__setattr__"))
section
variable {X : Cx} {pins : List (Addr × Obj)} {σ : St} {H : Hp} {s : Shared} {a C dx : Addr} {fs : List (Str × V)} {f : Str} {v : V} {A : Around} {E : Value → Shared → Prop}

end

/-! ### readings and rules -/
section
variable {X : Cx} {o e value : Expr} {f : Str} {pos pos' tpos : Pos} {ta tv : TE}
end

/-! ### isinstance -/
section
variable {X : Cx} {pins : List (Addr × Obj)} {σ : St} {H : Hp} {s : Shared} {A : Around} {E : Value → Shared → Prop} {Q : Value → Shared → Prop} {c : Value} {b : Bool}
inductive TyOf (K : PySem.W.Frag) (H : Hp) : V → Value → Prop where
  | non : TyOf K H .non (.type "NoneType")
  | bl (x : Bool) : TyOf K H (.bl x) (.type "bool")
  | int (i : Int) : TyOf K H (.int i) (.type "int")
  | str (x : Str) : TyOf K H (.str x) (.type "str")
  | flt (x : UInt64) : TyOf K H (.flt x) (.type "float")
  | lst {a : Addr} {xs : List V} (e : H a = some (.lst xs)) : TyOf K H (.ref a) (.type "list")
  | frz {a : Addr} {o : Obj} {xs : List V} (e : H a = some (.frz o (.lst xs))) : TyOf K H (.ref a) (.type "list")
  | tup {a : Addr} {xs : List V} (e : H a = some (.tup xs)) : TyOf K H (.ref a) (.type "tuple")
  | dK {a : Addr} {kvs : List (Key × V)} (e : H a = some (.dK kvs)) : TyOf K H (.ref a) (.type "dict")
  | dT {a : Addr} {kvs : List (List Key × V)} (e : H a = some (.dT kvs)) : TyOf K H (.ref a) (.type "dict")
  | ins {a C dx : Addr} {fs : List (Str × V)} (e : H a = some (.ins C dx fs)) (cl : Cls K C) (ha : PySem.W.findIn K (.ref C) "__class__" = some (some (.builtin "object.__class__")))
      (hn : PySem.W.specialIn K (.builtin "object.__class__") "__get__" = some (some (.builtin "getset_descriptor.__get__"))) (htk : PySem.W.takesIn K (.builtin "object.__class__") = some true)
      (hm : PySem.W.mroIn K C (.type "object") = some true) : TyOf K H (.ref a) (.ref C)
end
end L2

namespace L2
open PySem PySem.Spec PyProof.Rows

/-! ### room -/
structure Room (k : Nat) (A : Around) : Prop where
  hd : A.handled = none
  dp : A.depth + 3 * k + 5 < recursionLimit
  un : A.units + 16 * k + 200 < cLine
theorem Room.mono {j k : Nat} {A : Around} (r : Room k A) (h : j ≤ k) : Room j A := ⟨r.hd, by have := r.dp; omega, by have := r.un; omega⟩
theorem Room.deeper {k : Nat} {A : Around} (r : Room (k + 1) A) (env : Env) : Room k (A.deeper env) :=
  ⟨r.hd, by have := r.dp; show A.depth + 1 + 3 * k + 5 < _; omega, by have := r.un; show A.units + 3 + 16 * k + 200 < _; omega⟩
theorem Room.depth {k : Nat} {A : Around} (r : Room k A) : A.depth < recursionLimit := by have := r.dp; omega
theorem Room.units {k : Nat} {A : Around} (r : Room k A) : A.units + 64 < cLine := by have := r.un; omega
/-! ### argument lists and displays -/
def tNil : TA := fun _ H Q => Q [] H
def tCons (ta : TE) (tr : TA) : TA := fun σ H Q => ta σ H fun x H1 => tr σ H1 fun xs H2 => Q (x :: xs) H2
section
variable {X : Cx} {e : Expr} {es : List Expr} {te : TE} {t : TA} {pos : Pos}
theorem pa_nil : PA X [] tNil := fun _ _ _ _ H Q I h => Calls.spliced_nil ⟨[], H, I, .nil, h⟩
theorem pa_cons (ha : PE X e te) (hr : PA X es t) (hs : starEach (e :: es) X.env = (false, eval e X.env) :: starEach es X.env := by rfl) : PA X (e :: es) (tCons te t) := by
  intro pos pins s σ H Q I h
  rw [hs]
  refine Calls.spliced_cons (thn (ha pins s σ H _ I h) fun u s1 ⟨x, H1, I1, r1, q1⟩ => ?_)
  exact thn (hr pos pins s1 σ H1 _ I1 q1) fun us s2 ⟨xs, H2, I2, r2, q2⟩ => ⟨x :: xs, H2, I2, .cons r1 r2, q2⟩

def tTup (t : TA) : TE := fun σ H Q => t σ H fun xs H1 => xs.length ≤ sizeLine ∧ ∀ p, H1 p = none → Q (.ref p) (upd H1 p (.tup xs))
def tLst (t : TA) : TE := fun σ H Q => t σ H fun xs H1 => xs.length ≤ sizeLine ∧ ∀ p, H1 p = none → Q (.ref p) (upd H1 p (.lst xs))
theorem pe_tup {x1} (h : PA X es t) : PE X (.Tuple es x1 pos) (tTup t) := by
  intro pins s σ H Q I hq
  refine wpAny_Tuple_spliced (thn (h pos pins s σ H _ I hq) fun us s1 ⟨xs, H1, I1, r, z, q⟩ => ⟨by rw [← r.length]; exact z, ?_⟩)
  have hf : H1 _ = none := I1.hok.fresh (Nat.le_refl _)
  refine ⟨.ref _, upd H1 _ _, I1.laid (fun b u e => Heap.get?_push_of_some _ e) (Nat.le_refl _) ?_, rfl, q _ hf⟩
  exact ⟨z, us, r, ⟨_, Heap.get?_push_size _ rfl, rfl, _, rfl⟩⟩
theorem pe_lst (h : PA X es t) : PE X (.List es pos) (tLst t) := by
  intro pins s σ H Q I hq
  refine wpAny_List_spliced (thn (h pos pins s σ H _ I hq) fun us s1 ⟨xs, H1, I1, r, z, q⟩ => ⟨by rw [← r.length]; exact z, ?_⟩)
  have hf : H1 _ = none := I1.hok.fresh (Nat.le_refl _)
  refine ⟨.ref _, upd H1 _ _, I1.laid (fun b u e => Heap.get?_push_of_some _ e) (Nat.le_refl _) ?_, rfl, q _ hf⟩
  exact ⟨z, us, 0, r, Heap.get?_push_size _ rfl⟩
end

/-! ### what a def promises -/
noncomputable abbrev Sp := List V → Hp → VK → XK → Prop
noncomputable abbrev CXT := List Env → Hp → Shared → XK → Value → Shared → Prop

structure Env0 (P : Program) (w : World) (K : PySem.W.Frag) (mg : Str → Option Value) (base : Heap) (A : Around) (outer : List Env) (s : Shared) (H : Hp) : Prop where
  frames : A.frames = some outer
  mod : Mod K mg base
  bs : ∀ b o, base.get? b = some o → s.heap.get? b = some o ∧ H b = none
  bsz : base.objs.size ≤ s.heap.objs.size
  funs : s.heap.FunFrames base outer
  frf : ∀ b ∈ frs outer, H b = none
  hok : HOk P w H s.heap
  bare : AllBare s.gens
  tk : 0 < s.toks
def CE (outer : List Env) (P : Program) (w : World) (H : Hp) (s : Shared) (Q : VK) (u : Value) (s' : Shared) : Prop :=
  ∃ v H', s'.os = s.os ∧ AllBare s'.gens ∧ Un (frs outer) [] H H' s.heap s'.heap ∧ HOk P w H' s'.heap ∧ RelV v u ∧ Q v H'
def CR (CX : CXT) (outer : List Env) (P : Program) (w : World) (H : Hp) (s : Shared) (Q : VK) (E : XK) (r : Result) (s' : Shared) : Prop :=
  match r with
  | .ok (.ret u) => CE outer P w H s Q u s'
  | .ok _ => False
  | .error e => CX outer H s E e s'
structure FnOk (P : Program) (w : World) (K : PySem.W.Frag) (mg : Str → Option Value) (base : Heap) (CX : CXT) (k : Nat) (f : Addr) (fd : FuncData) (ps : List Str) (sp : Sp) : Prop where
  len : ∀ vs H Q E, sp vs H Q E → vs.length = ps.length
  run : ∀ (A : Around) (outer : List Env) (s : Shared) (H : Hp) (args : Args) (us : List Value) (vs : List V) (Q : VK) (E : XK), Room k A → Env0 P w K mg base A outer s H → BindsTo s fd args (ps.zip us) → Vals vs us → sp vs H Q E →
    codeAny (model P w) A (.call (.ref f) args) (CR CX outer P w H s Q E) s
section
variable {X : Cx} {pins : List (Addr × Obj)} {σ : St} {H : Hp} {s s' : Shared}
theorem Inv.env0 (I : Inv X pins σ H s) : Env0 X.prog X.w X.K X.mg X.base X.A X.stack s H :=
  ⟨I.ok.frames, I.ok.mod, I.bs, Nat.le_trans I.ok.bsz I.sz, I.stack, I.stkFree, I.hok, I.bare, I.tk⟩
theorem Inv.after {Q : VK} {u : Value} (I : Inv X pins σ H s) (h0 : 0 < s'.toks) (h : CE X.stack X.prog X.w H s Q u s') : EP X pins σ Q u s' := by
  obtain ⟨v, H', os, bare, un, hok, r, q⟩ := h
  obtain ⟨hh, g, d, t, os'⟩ := s'
  obtain rfl : os' = s.os := os
  exact ⟨v, H', I.call un hok bare (fun b z => absurd z (by simp)), r, q⟩
end

/-! ### calls -/
def Binds (K : PySem.W.Frag) (fd : FuncData) (ps : List Str) (ds : List Value) : Prop :=
  ∀ (s : Shared) (us : List Value), K.In s.heap → (us ++ ds).length = ps.length → BindsTo s fd ⟨us, []⟩ (ps.zip (us ++ ds))
theorem Binds.all {K : PySem.W.Frag} {fd : FuncData} {ps : List Str} (h : ∀ us : List Value, us.length = ps.length → bindArgs fd ⟨us, []⟩ = pure (ps.zip us)) : Binds K fd ps [] := fun s us _ hl => by
  rw [List.append_nil] at hl ⊢
  exact .of_eq (h us hl)

def Passes (CX : CXT) (X : Cx) (E : XK) : Prop := ∀ (pins : List (Addr × Obj)) (σ : St) (H : Hp) (s : Shared) (e : Value) (s' : Shared), Inv X pins σ H s → CX X.stack H s E e s' → X.xe e s'

section
variable {X : Cx} {CX : CXT} {k : Nat} {f C : Addr} {fd : FuncData} {ps : List Str} {sp : Sp} {dvs : List V} {ds : List Value} {E : XK} {x m : Str} {p pos apos : Pos} {e o : Expr} {es : List Expr} {ta : TE} {t : TA}

theorem run_fn {pins : List (Addr × Obj)} {σ : St} {H : Hp} {s : Shared} {Q : VK} {us : List Value} {vs : List V} (F : FnOk X.prog X.w X.K X.mg X.base CX k f fd ps sp) (hr : Room k X.A) (hb : Binds X.K fd ps ds) (hd : Vals dvs ds) (hx : Passes CX X E)
    (I : Inv X pins σ H s) (r : Vals vs us) (h : sp (vs ++ dvs) H Q E) : wpAny (model X.prog X.w) X.A (call (.ref f) us) (EP X pins σ Q) X.xe s := by
  have r2 : Vals _ _ := r.append hd
  have hl : (us ++ ds).length = ps.length := by rw [← r2.length]; exact F.len _ _ _ _ h
  refine wpAny_call (codeTk I.tk (codeAny_mono (F.run X.A _ s H _ _ _ Q E hr I.env0 (hb s us I.kIn hl) r2 h) fun r s' hq h0 => ?_))
  cases r with
  | error e => exact hx pins σ H s e s' I hq
  | ok fl =>
    cases fl with
    | ret u => exact I.after h0 hq
    | next => assumption
    | brk => assumption
    | cont => assumption

structure Mk (K : PySem.W.Frag) (C f : Addr) : Prop where
  makes : PySem.W.makesIn K C = true
  init : PySem.W.findIn K (.ref C) "__init__" = some (some (.ref f))
  fn : PySem.W.isFn K (.ref f) = true
  kp : PySem.W.keepIn K (.ref C) = true

end

/-! ### keywords -/
section
variable {X : Cx} {CX : CXT} {k : Nat} {f C : Addr} {fd : FuncData} {ps ks : List Str} {sp : Sp} {E : XK} {x m : Str} {p pos apos kpos : Pos} {e o : Expr} {es : List Expr} {kws : List Keyword} {te ta : TE} {t tk : TA} {nm : Option Str}
variable {g : List Value → List Value → List Value} {gV : List V → List V → List V}
end

/-! ### a def's body keeps its promise -/
structure FnScope (N P : List Str) (sc : Scope) : Prop where
  kind : sc.kind = .function
  co : sc.isCoroutine = false
  gen : sc.isGenerator = false
  nd : N.Nodup
  pre : N.take P.length = P
  par : ∀ x ∈ P, sc.names.lookup x = some .local ∨ sc.names.lookup x = some .cell
  nofree : ∀ y ∈ sc.names, y.2 ≠ .free

theorem bindL_out {kindOf : Str → Option NameKind} {x : Str} : ∀ {binds : List (Str × Value)} {m : Str → Option Value}, (∀ v, (x, v) ∉ binds) → bindL kindOf binds m x = m x
  | [], _, _ => rfl
  | (n, v) :: r, m, h => by
    unfold bindL
    rw [bindL_out fun w hw => h w (List.mem_cons_of_mem _ hw)]
    split
    · grind
    · rfl
theorem bindC_out {kindOf : Str → Option NameKind} {x : Str} : ∀ {binds : List (Str × Value)} {m : Str → Option Value}, (∀ v, (x, v) ∉ binds) → bindC kindOf binds m x = m x
  | [], _, _ => rfl
  | (n, v) :: r, m, h => by
    unfold bindC
    rw [bindC_out fun w hw => h w (List.mem_cons_of_mem _ hw)]
    split
    · rfl
    grind
theorem bindL_get {kindOf : Str → Option NameKind} {x : Str} {v : Value} : ∀ {P : List Str} {vs : List Value} {i : Nat} {m : Str → Option Value}, P.Nodup → P[i]? = some x → vs[i]? = some v → kindOf x = some .local →
    bindL kindOf (P.zip vs) m x = some v
  | [], _, _, _, _, h, _, _ => by simp at h
  | _ :: _, [], _, _, _, _, h, _ => by simp at h
  | p :: P, w :: vs, 0, m, nd, h1, h2, hk => by
    simp at h1 h2; subst h1; subst h2
    show bindL _ ((p, w) :: P.zip vs) m p = _
    unfold bindL
    rw [bindL_out fun v hv => (List.nodup_cons.mp nd).1 (List.of_mem_zip hv).1, if_pos hk]
    simp
  | p :: P, w :: vs, i + 1, m, nd, h1, h2, hk => by
    show bindL _ ((p, w) :: P.zip vs) m x = _
    exact bindL_get (List.nodup_cons.mp nd).2 (by assumption) (by assumption) hk
theorem bindC_get {kindOf : Str → Option NameKind} {x : Str} {v : Value} : ∀ {P : List Str} {vs : List Value} {i : Nat} {m : Str → Option Value}, P.Nodup → P[i]? = some x → vs[i]? = some v → kindOf x ≠ some .local →
    bindC kindOf (P.zip vs) m x = some v
  | [], _, _, _, _, h, _, _ => by simp at h
  | _ :: _, [], _, _, _, _, h, _ => by simp at h
  | p :: P, w :: vs, 0, m, nd, h1, h2, hk => by
    simp at h1 h2; subst h1; subst h2
    show bindC _ ((p, w) :: P.zip vs) m p = _
    unfold bindC
    rw [bindC_out fun v hv => (List.nodup_cons.mp nd).1 (List.of_mem_zip hv).1, if_neg hk]
    simp
  | p :: P, w :: vs, i + 1, m, nd, h1, h2, hk => by
    show bindC _ ((p, w) :: P.zip vs) m x = _
    exact bindC_get (List.nodup_cons.mp nd).2 (by assumption) (by assumption) hk

noncomputable def start (N : List Str) (vs : List V) : St := vs.map some ++ List.replicate (N.length - vs.length) none

noncomputable def cxOf (CX : CXT) (P : Program) (w : World) (K : PySem.W.Frag) (mg : Str → Option Value) (base : Heap) (N : List Str) (qual : Str) (scope : Scope) (f : Addr) (cd : Value) (A : Around) (outer : List Env) (s : Shared) (H : Hp) (E : XK) : Cx where
  prog := P
  w := w
  K := K
  mg := mg
  base := base
  A := A.deeper (envOfC qual scope s.heap.objs.size f cd)
  N := N
  s₀ := s
  H₀ := H
  env := envOfC qual scope s.heap.objs.size f cd
  outer := outer
  stack := envOfC qual scope s.heap.objs.size f cd :: outer
  ex := []
  calm := true
  fn := fun _ => true
  pn := []
  xe := fun e s' => wpAny (model P w) (A.deeper (envOfC qual scope s.heap.objs.size f cd)) (leaving (envOfC qual scope s.heap.objs.size f cd) e) (fun _ s'' => CX outer H s E e s'') (fun e' s'' => CX outer H s E e' s'') s'

theorem cell_has {sc : Scope} {n : Nat} {x : Str} (h : sc.names.lookup x = some .cell) : ∃ c, (cellsFrom n sc.names []).lookup x = some c := by
  have q := PySem.W.cellsFrom_some _ n [] (.inl h)
  exact Option.isSome_iff_exists.mp q

theorem inv_start {CX : CXT} {P : Program} {w : World} {K : PySem.W.Frag} {mg : Str → Option Value} {base : Heap} {N ps : List Str} {qual : Str} {scope : Scope} {f : Addr} {cd : Value} {A : Around} {outer : List Env} {s s1 : Shared} {H : Hp} {E : XK} {us : List Value} {vs : List V}
    (S : FnScope N ps scope) (hd : A.handled = none) (e0 : Env0 P w K mg base A outer s H) (hl : vs.length = ps.length) (r : Vals vs us)
    (x : InCallC s s.heap.objs.size (bindL (envOfC qual scope s.heap.objs.size f cd).kindOf (ps.zip us) fun _ => none) (cellsFrom (s.heap.objs.size + 1) scope.names []) (bindC (envOfC qual scope s.heap.objs.size f cd).kindOf (ps.zip us) fun _ => none) s1) (h0 : 0 < s1.toks) :
    Inv (cxOf CX P w K mg base N qual scope f cd A outer s H E) [] (start N vs) H s1 := by
  have hpl  := by have := congrArg List.length S.pre; rw [List.length_take] at this; omega
  obtain ⟨h1, tk, rfl, hk⟩ := x.done
  have noA : ∀ b , b ∉ (cxOf CX P w K mg base N qual scope f cd A outer s H E).ex := fun b z => absurd (show b ∈ ([]) from z) (by simp)
  refine ⟨⟨e0.mod, S.kind, rfl, rfl, Nat.le_refl _, fun y z c h1 h2 => ?_, fun y hy => ?_, fun y c _ h => ?_, fun _ => hd, Around.frames_deeper e0.frames, .inr ⟨rfl, rfl⟩, fun b z => absurd z (noA b), e0.bs, e0.bsz, fun b _ _ => noA b, fun b z => absurd z (noA b), e0.funs, e0.frf⟩,
    rfl, e0.bare, Un.kept hk, ⟨_, x.toInCall.ns, fun i y v h1 h2 h3 => ?_⟩, fun y c h => ⟨_, x.cell y c h⟩, e0.hok.fresh (Nat.le_refl _), fun y c h => ?_, fun p hp => absurd (show p ∈ ([] : List _) from hp) (by simp), e0.hok.kept hk, ?_, h0⟩
  · exact name_of_addr x.apart (PySem.mem_of_lookup h1) (PySem.mem_of_lookup h2)
  · rcases hy with hy | hy
    · exact cell_has hy
    · exact absurd rfl (S.nofree _ (PySem.mem_of_lookup hy))
  · exact Nat.le_of_lt (x.above y c (PySem.mem_of_lookup h))
  · have hi : i < vs.length := by
      unfold start at h2
      grind
    have ha : vs[i]? = some v := by
      unfold start at h2
      grind
    obtain ⟨u, hu, rv⟩ := r.get ha
    have hp : ps[i]? = some y := by
      rw [← S.pre, List.getElem?_take_of_lt (by omega)]; exact h1
    have ndP : ps.Nodup := by rw [← S.pre]; exact S.nd.sublist (List.take_sublist _ _)
    refine ⟨u, rv, ?_⟩
    rcases S.par y (List.mem_of_getElem? hp) with k | k
    · exact .inl ⟨k, bindL_get ndP hp hu k⟩
    · obtain ⟨c, e⟩ := cell_has (n := s.heap.objs.size + 1) k
      refine .inr ⟨.inl k, c, e, ?_⟩
      have q := x.cell y c e
      rw [bindC_get ndP hp hu (by show scope.names.lookup y ≠ _; grind)] at q
      exact q
  · exact e0.hok.fresh (Nat.le_of_lt (x.above y c (PySem.mem_of_lookup h)))
  · unfold start
    show _ = N.length
    grind

theorem fn_of {CX : CXT} {P : Program} {w : World} {K : PySem.W.Frag} {mg : Str → Option Value} {base : Heap} {k : Nat} {f : Addr} {name qual : Str} {params : Arguments} {body : List Stmt} {scope : Scope} {dV kV doc pm cdv ct oc : Value} {an od : Option Addr}
    {osl : Array (Option Value)} {N ps : List Str} {sp : Sp} (lk : K.lookup f = some ⟨oc, od, .func (PySem.W.fnOf name qual params body scope dV kV doc pm an cdv ct), osl⟩) (hcd : PySem.W.codeIn K cdv qual = true) (S : FnScope N ps scope)
    (len : ∀ vs H Q E, sp vs H Q E → vs.length = ps.length)
    (hbody : ∀ (A : Around) (outer : List Env) (s : Shared) (H : Hp) (vs : List V) (Q : VK) (E : XK), Room k (A.deeper (envOfC qual scope s.heap.objs.size f cdv)) → sp vs H Q E →
      ∃ t, PSs (cxOf CX P w K mg base N qual scope f cdv A outer s H E) body t ∧ t { nx := fun _ H' => Q .non H', rt := Q } (start N vs) H) :
    FnOk P w K mg base CX (k + 1) f (PySem.W.fnOf name qual params body scope dV kV doc pm an cdv ct) ps sp := by
  refine ⟨len, fun A outer s H args us vs Q E hr e0 hb r hsp => ?_⟩
  have hl := len _ _ _ _ hsp
  have KX : K.In _ := e0.mod.kin.keeps fun b o e => (e0.bs b o e).1
  have lim  := e0.mod.nolimit.keeps fun b o e => (e0.bs b o e).1
  have hkind : ∀ y ∈ ps.zip us, scope.names.lookup y.1 = some _ ∨ (scope.names.lookup y.1 = some .cell ∧ ((cellsFrom (s.heap.objs.size + 1) _ []).lookup y.1).isSome = true) := fun ⟨n, v⟩ hy => by
    rcases S.par n (List.of_mem_zip hy).1 with q | q
    · exact .inl q
    · exact .inr ⟨q, PySem.W.cellsFrom_some _ _ _ (.inl q)⟩
  refine codeAny_call_function hr.depth (KX _ _ lk) rfl S.co S.gen rfl (PySem.W.codeRec_of KX hcd) (hb _ _ _ _ ?_)
  refine wpTk e0.tk (wpAny_newFunctionEnv_cells S.kind hkind fun env he s1 x h0 => ?_)
  subst he
  refine ⟨lim.keeps x.toInCall.keep, codeAny_func ?_⟩
  obtain ⟨t, ht, hq⟩ := hbody A outer s H vs Q E (hr.deeper _) hsp
  have I : Inv (cxOf CX P w K mg base N qual scope f cdv A outer s H E) [] _ H s1 := inv_start S hr.hd e0 hl r x h0
  refine wpAny_mono (ht [] s1 _ H _ I hq) (fun fl s' hs => ?_) fun e s' hs => hs
  have fin : ∀ {σ' : St} {H' : Hp} {v : V} {u : Value}, Inv (cxOf CX P w K mg base N qual scope f cdv A outer s H E) [] σ' H' s' → RelV v u → Q v H' → CE outer P w H s Q u s' :=
    fun {σ' H' v u} J rv q => ⟨v, H', J.os, J.bare, J.base, J.hok, rv, q⟩
  cases fl with
  | ret u =>
    obtain ⟨v, σ', H', J, rv, q⟩ := hs
    exact fin J rv q
  | next =>
    obtain ⟨σ', H', J, q⟩ := hs
    exact fin (v := V.non) J rfl q
  | brk =>
    obtain ⟨_, _, _, q⟩ := hs
    simp_all
  | cont =>
    obtain ⟨_, _, _, q⟩ := hs
    simp_all
end L2

namespace L2
open PySem PySem.Spec PyProof.Rows
section
variable {X : Cx} {x : Str} {p pos : Pos} {e : Expr} {es : List Expr} {t : TA} {id T : String} {r : List V → Hp → VK → Prop}

def tCB (r : List V → Hp → VK → Prop) (t : TA) : TE := fun σ H Q => t σ H fun vs H1 => r vs H1 Q
theorem pe_callB (hc : CallR X (.builtin id) r) (hg : Gl X x) (hm : X.mg x = none) (hv : bootBuiltins x = some (.builtin id)) (ha : PA X (e :: es) t) (hn : x ≠ "__name__" := by decide) (hdb : (x == ("__debug__" : Str)) = false := by decide)
    (he : starEach (e :: es) X.env = (false, eval e X.env) :: starEach es X.env := by rfl) (hpl : (backTo pos (starEach es X.env)).any (·.1) = false := by rfl) : PE X (.Call (.Name x p) (e :: es) [] pos) (tCB r t) := by
  intro pins s σ H Q I h
  refine wpAny_Call_Name_kw (ld_blt I hg hm hv ?_ hn hdb)
  exact PyProof.Rows.callWith_builtin1 (thn (ha pos pins s σ H _ I h) fun us s1 ⟨vs, H1, I1, r1, q1⟩ => hc pins s1 σ H1 vs us Q I1 r1 q1) he hpl
theorem pe_callTy (hc : CallR X (.type T) r) (hg : Gl X x) (hm : X.mg x = none) (hv : bootBuiltins x = some (.type T)) (ha : PA X (e :: es) t) (hn : x ≠ "__name__" := by decide) (hdb : (x == ("__debug__" : Str)) = false := by decide)
    (he : starEach (e :: es) X.env = (false, eval e X.env) :: starEach es X.env := by rfl) (hpl : (backTo pos (starEach es X.env)).any (·.1) = false := by rfl) : PE X (.Call (.Name x p) (e :: es) [] pos) (tCB r t) := by
  intro pins s σ H Q I h
  refine wpAny_Call_Name_kw (ld_blt I hg hm hv ?_ hn hdb)
  exact PyProof.Rows.callWith_type1 (thn (ha pos pins s σ H _ I h) fun us s1 ⟨vs, H1, I1, r1, q1⟩ => hc pins s1 σ H1 vs us Q I1 r1 q1) he hpl
end
end L2

namespace HT
open PySem PyProof.Rows

section
open PySem.SeqAt
open PySem.AutoSeq1 (wpAny_loadPart')
open PySem.MeetsSeq PySem.MeetsSeq2 PySem.MeetsSeq3

end

section
variable {prog : Program} {w : World} {A : Around} {E : Value → Shared → Prop} {s : Shared}

/-! ### t[a:b], not the whole -/
noncomputable def sIx (n d : Nat) : Option Int → Nat
  | none => d
  | some v => if v < 0 then (v + (n : Int)).toNat else min v.toNat n
theorem clip_eq (v : Int) (n d : Nat) : (if v < 0 then max (v + (n : Int)) 0 else min v (n : Int)) = ((sIx n d (some v) : Nat) : Int) := by
  show (if v < 0 then max (v + n) 0 else min v n) = (((if v < 0 then (v + n).toNat else min _ n) : Nat) : Int)
  grind
theorem adjust_gen (lo hi : Option Int) (n : Nat) : Builtin.Slice.sliceAdjust lo hi 1 (n : Int) = (((sIx n 0 lo : Nat) : Int), ((sIx n n hi : Nat) : Int)) := by
  refine Prod.ext ?_ ?_
  · cases lo with
    | none => rfl
    | some v => exact clip_eq v n 0
  · cases hi with
    | none => rfl
    | some v => exact clip_eq v n n
theorem places_gen (i j : Nat) : Builtin.Slice.slicePlaces (i : Int) (j : Int) 1 = j - i := by
  unfold Builtin.Slice.slicePlaces
  grind
theorem slicePart_ {v : Value} {o : Option Int} {Q : Option Int → Shared → Prop} (p : IsPart v o) (h : Q o s) : wpAny (model prog w) A (Builtin.Slice.slicePartIndex v) Q E s := by
  cases p with
  | none => exact slicePart_none h
  | int i t => exact slicePart_int h
theorem sliceApplied_gen {sl : Addr} {vl vu : Value} {lo hi : Option Int} {n : Nat} {Q : Int × Int × Nat → Shared → Prop} (hs : s.heap.IsSliceOf sl vl vu .none) (pl : IsPart vl lo) (pu : IsPart vu hi)
    (h : Q (((sIx n 0 lo : Nat) : Int), 1, sIx n n hi - sIx n 0 lo) s) : wpAny (model prog w) A (Builtin.Slice.sliceApplied (.ref sl) (pure (n : Int))) Q E s := by
  obtain ⟨os, hos, hcs, hds⟩ := id hs
  refine wpAny_bind (wpAny_bind (wpAny_field hos hds rfl (wpAny_bind (wpAny_field hos hds rfl (wpAny_bind (wpAny_field hos hds rfl (wpAny_pure ?_)))))))
  refine wpAny_bind (slicePart_none ?_)
  refine wpAny_bind (slicePart_ pl (wpAny_bind (slicePart_ pu (wpAny_bind (wpAny_pure ?_)))))
  show wpAny _ _ (match Builtin.Slice.sliceAdjust lo hi 1 n with | (lo, hi) => pure (lo, (1 : Int), Builtin.Slice.slicePlaces lo hi 1)) _ _ s
  rw [adjust_gen]
  show wpAny _ _ (pure (((sIx n 0 lo) : Int), 1, Builtin.Slice.slicePlaces ((sIx n 0 lo) : Int) ((sIx n n hi) : Int) 1)) _ _ s
  rw [places_gen]
  exact wpAny_pure h
theorem pick_gen (xs : Array Value) (i k : Nat) : ((List.range k).filterMap fun (m : Nat) => xs[((i : Int) + (m : Int) * 1).toNat]?).toArray = ((xs.toList.drop i).take k).toArray := by
  have e : (fun (m : Nat) => xs[(i + (m : Int) * 1).toNat]?) = fun m => xs[i + m]? := by
    funext m
    have : (i + (m : Int) * 1).toNat = i + m := by omega
    rw [this]
  have := pick_run xs i k
  have e2 : ((fun x => xs[x]?) ∘ fun x => i + x) = fun m => xs[i + m]? := rfl
  grind

theorem getItem_tuple_cut {t sl : Addr} {items : Array Value} {vl vu : Value} {lo hi : Option Int} {Q : Value → Shared → Prop} (ht : IsTup s.heap t items) (hs : s.heap.IsSliceOf sl vl vu .none) (pl : IsPart vl lo) (pu : IsPart vu hi)
    (hw : ¬ (sIx items.size 0 lo = 0 ∧ sIx items.size items.size hi = items.size))
    (h : Q (.ref s.heap.objs.size) { s with heap := s.heap.push { cls := .type "tuple", data := .seq ((items.toList.drop (sIx items.size 0 lo)).take (sIx items.size items.size hi - sIx items.size 0 lo)).toArray } })
    (hsz : items.size ≤ sizeLine) : wpAny (model prog w) A (getItem (.ref t) (.ref sl)) Q E s := by
  have htake  := by
    show ((items.toList.drop (sIx items.size 0 lo)).take (sIx items.size items.size hi - sIx items.size 0 lo)).toArray.size ≤ sizeLine
    grind
  obtain ⟨os, hos, hcs, hds⟩ := id hs
  have hTs : s.TypeIs (.ref sl) _ := ⟨os, hos, hcs⟩
  unfold getItem
  try with_reducible refine wpAny_holding ?_
  refine wpAny_bind (wpAny_sequenceKey ht.typeIs (by decide) ?_)
  refine wpAny_bind (wpAny_callSpecial?_slot (name := Str.ofString _) ht.typeIs PyProof.Rows.slot_tuple_getitem
    (wpAny_call_entry PyProof.Rows.slot_tuple_getitem ht.typeIs entry_tuple_getitem ?_ (args_tuple_getitem _ _)))
  show wpAny _ _ (Builtin.Tuple.tupleItemsOf _ >>= _) _ _ s
  refine wpAny_bind (tupleItemsOf_ ht ?_)
  refine wpAny_bind (wpAny_typeOf hTs ?_)
  refine wpAny_bind (sliceApplied_gen hs pl pu ?_)
  have hno : ¬ ((((sIx items.size 0 lo) : Int) == 0 && (1 : Int) == 1 && (sIx items.size items.size hi - sIx items.size 0 lo) == items.size) = true) := by
    grind
  show wpAny _ _ (if (((sIx _ 0 lo : Nat) : Int) == 0 && 1 == 1 && (sIx _ _ hi - sIx _ 0 lo) == items.size) = true then _ else _) _ _ s
  rw [if_neg hno, pick_gen]
  first
    | exact wpAny_bind (wpAny_newObj_type (wpAny_pure ⟨_, rfl, wpAny_pure h⟩) htake)
    | exact wpAny_bind (m := Builtin.Tuple.tupleExact _) (wpAny_newObj_type (wpAny_bind (wpAny_pure (wpAny_pure ⟨_, rfl, wpAny_pure h⟩))) htake)
    | exact wpAny_bind (wpAny_bind (m := Builtin.Tuple.tupleExact _) (wpAny_newObj_type (wpAny_pure (wpAny_pure ⟨_, rfl, wpAny_pure h⟩)) htake))
    | exact wpAny_bind (wpAny_bind (m := Builtin.Tuple.tupleExact _) (wpAny_newObj_type (wpAny_pure ⟨_, rfl, wpAny_pure h⟩) htake))
end
end HT

namespace L2
open PySem PySem.Spec PyProof.Rows

/-! ### the parts of a slice -/
noncomputable abbrev TO := St → Hp → (Option Int → Hp → Prop) → Prop
def PO (X : Cx) (e : Option Expr) (t : TO) : Prop :=
  ∀ (pins : List (Addr × Obj)) (s : Shared) (σ : St) (H : Hp) (Q : Option Int → Hp → Prop), Inv X pins σ H s → t σ H Q →
    wpAny (model X.prog X.w) X.A (evalPart e X.env) (fun u s' => ∃ o H', Inv X pins σ H' s' ∧ IsPart u o ∧ Q o H') X.xe s
noncomputable def tNoPart : TO := fun _ H Q => Q none H
noncomputable def tPart (t : TE) : TO := fun σ H Q => t σ H fun x H1 => ∃ i, x = .int i ∧ Q (some i) H1

section
variable {X : Cx} {e : Expr} {te : TE} {lo hi : Option Expr} {tl th : TO} {pos p2 : Pos}

theorem po_none : PO X none tNoPart := by
  intro pins s σ H Q I h
  exact wpAny_pure ⟨none, H, I, .none, h⟩
theorem po_some (h : PE X e te) : PO X (some e) (tPart te) := by
  intro pins s σ H Q I hw
  refine thn (h pins s σ H _ I hw) fun u s1 ⟨x, H1, I1, r1, q1⟩ => ?_
  obtain ⟨i, rfl, q⟩ := q1
  obtain ⟨t, rfl⟩ := r1
  exact ⟨some i, H1, I1, .int i t, q⟩

def SlR (X : Cx) (r : V → Option Int → Option Int → Hp → VK → Prop) : Prop :=
  ∀ (pins : List (Addr × Obj)) (s : Shared) (σ : St) (H : Hp) (x : V) (v vl vu : Value) (lo hi : Option Int) (sl : Addr) (Q : VK), Inv X pins σ H s → RelV x v → s.heap.IsSliceOf sl vl vu .none → IsPart vl lo → IsPart vu hi → r x lo hi H Q →
    ∃ T id, typeLookup (.type T) "__getitem__" = pure (some (.builtin id)) ∧ s.TypeIs v T ∧ wpAny (model X.prog X.w) X.A (getItem v (.ref sl)) (EP X pins σ Q) X.xe s
def tSl (r : V → Option Int → Option Int → Hp → VK → Prop) (te : TE) (tl th : TO) : TE := fun σ H Q => te σ H fun x H1 => tl σ H1 fun l H2 => th σ H2 fun u H3 => r x l u H3 Q
theorem pe_slice {r : V → Option Int → Option Int → Hp → VK → Prop} (hr : SlR X r) (he : PE X e te) (hl : PO X lo tl) (hu : PO X hi th) : PE X (.Subscript e (.Slice lo hi none p2) pos) (tSl r te tl th) := by
  intro pins s σ H Q I h
  refine Subscript_ (thn (he pins s σ H _ I h) fun v s1 ⟨x, H1, I1, r1, q1⟩ => ?_)
  refine wpAny_Slice (thn (hl pins s1 σ H1 _ I1 q1) fun vl s2 ⟨l, H2, I2, pl, q2⟩ => thn (hu pins s2 σ H2 _ I2 q2) fun vu s3 ⟨u, H3, I3, pu, q3⟩ => ?_)
  refine wpAny_pure ?_
  have I4 : Inv X pins σ H3 { s3 with heap := s3.heap.push { cls := .type "slice", data := .fields #[vl, vu, .none] } } := I3.kept fun b ob q => Heap.get?_push_of_some _ q
  obtain ⟨T, id, hT, ht, hg⟩ := hr pins { s3 with heap := s3.heap.push { cls := .type _, data := .fields _ } } σ H3 x v vl vu l u _ Q I4 r1 (Heap.IsSliceOf.new ..) pl pu q3
  exact tail_any (ops := [.ref _, v]) ht hT hg (by with_unfolding_all rfl)

noncomputable def cutV (xs : List V) (lo hi : Option Int) : List V := (xs.drop (HT.sIx xs.length 0 lo)).take (HT.sIx xs.length xs.length hi - HT.sIx xs.length 0 lo)
theorem cutV_length (xs : List V) (lo hi : Option Int) : (cutV xs lo hi).length ≤ xs.length := by
  unfold cutV
  grind
def rSlT (K : PySem.W.Frag) : V → Option Int → Option Int → Hp → VK → Prop := fun x lo hi H Q => ∃ a xs, x = .ref a ∧ SqT K H a xs ∧
  ¬ (HT.sIx xs.length 0 lo = 0 ∧ HT.sIx xs.length xs.length hi = xs.length) ∧ ∀ p, H p = none → Q (.ref p) (upd H p (.tup (cutV xs lo hi)))
theorem sl_tup : SlR X (rSlT X.K) := by
  intro pins s σ H x v vl vu lo hi sl Q I rx hs pl pu h
  obtain ⟨a, xs, rfl, hx, hw, q⟩ := h
  cases rx
  obtain ⟨its, r, ht, hz⟩ := I.tuple hx
  have hlen : its.toArray.size = xs.length := by exact r.length.symm
  refine ⟨"tuple", _, PyProof.Rows.slot_tuple_getitem.lookup, ht.typeIs, ?_⟩
  refine HT.getItem_tuple_cut ht hs pl pu (by rw [hlen]; exact hw) ?_ (by simp_all)
  rw [hlen]
  refine ⟨.ref _, _, I.laid (o := .tup _) (fun b ob q => Heap.get?_push_of_some _ q) (Nat.le_refl _) ?_, rfl, q _ (I.hok.fresh (Nat.le_refl _))⟩
  exact ⟨Nat.le_trans (cutV_length xs lo hi) hz, _, (r.drop (HT.sIx _ 0 lo)).take (HT.sIx _ _ hi - HT.sIx _ 0 lo), IsTup.new _ _⟩

/-! ### t < u, t + u -/
end
end L2

namespace L2
open PySem PySem.Spec PyProof.Rows

/-! ### places -/
noncomputable def ixN (n : Nat) (i : Int) : Option Nat := if 0 ≤ i then (if i < n then some i.toNat else none) else if -(n : Int) ≤ i then some (i + n).toNat else none
noncomputable def atI {α : Type} (xs : List α) (i : Int) : Option α := (ixN xs.length i).bind fun j => xs[j]?
theorem ixN_seq {n : Nat} {i : Int} {j : Nat} (h : ixN n i = some j) : seqIndex? i n = some j ∧ j < n ∧ -(n : Int) ≤ i ∧ i < n := by
  unfold ixN at h
  by_cases h0 : 0 ≤ i
  · rw [if_pos h0] at h
    by_cases h1 : i < n
    · rw [if_pos h1] at h
      have e  := Option.some.inj h
      exact ⟨by rw [seqIndex_of h0 h1, e], by omega, by omega, h1⟩
    simp_all
  · rw [if_neg h0] at h
    by_cases h1 : -n ≤ i
    · rw [if_pos h1] at h
      have e  := Option.some.inj h
      exact ⟨by rw [seqIndex_neg (by omega) h1, e], by omega, h1, by omega⟩
    simp_all
theorem atI_get {α : Type} {xs : List α} {i : Int} {v : α} (h : atI xs i = some v) : ∃ j, seqIndex? i xs.length = some j ∧ xs[j]? = some v ∧ j < xs.length ∧ -(xs.length : Int) ≤ i ∧ i < xs.length := by
  unfold atI at h
  cases e : ixN _ i with
  | none => rw [e] at h; cases h
  | some j =>
    rw [e] at h
    obtain ⟨h1, h2, h3, h4⟩ := ixN_seq e
    exact ⟨j, h1, h, h2, h3, h4⟩
theorem atI_nat {α : Type} {xs : List α} {j : Nat} {v : α} (h : xs[j]? = some v) : atI xs (j : Int) = some v := by
  have hj  := (List.getElem?_eq_some_iff.mp h).1
  have e : ixN xs.length j = some j := by
    unfold ixN
    simp_all
  unfold atI; rw [e]; exact h
/-! ### what may be subscripted -/
def PlainIx (b : Expr) : Prop := ∀ o i, subscripted b false o i = operate [o, i] (getItem o i)
def IxR (X : Cx) (r : R2) : Prop :=
  ∀ (value slice : Expr) (pins : List (Addr × Obj)) (s : Shared) (σ : St) (H : Hp) (x y : V) (v u : Value) (Q : VK), Inv X pins σ H s → RelV x v → RelV y u → r x y H Q →
    subscripted slice false v u = operate [v, u] (getItem v u) → wpAny (model X.prog X.w) X.A (subscriptTail value slice v u) (EP X pins σ Q) X.xe s
def MtR (X : Cx) (id : String) (r : V → List V → Hp → VK → Prop) : Prop :=
  ∀ (pins : List (Addr × Obj)) (s : Shared) (σ : St) (H : Hp) (x : V) (xs : List V) (v : Value) (us : List Value) (Q : VK), Inv X pins σ H s → RelV x v → Vals xs us → r x xs H Q →
    wpAny (model X.prog X.w) X.A (call (.builtin id) (v :: us)) (EP X pins σ Q) X.xe s
section
variable {X : Cx} {a b : Expr} {ta tb : TE} {pos : Pos}
theorem pe_ix {r : R2} (hr : IxR X r) (ha : PE X a ta) (hb : PE X b tb) (hs : PlainIx b) : PE X (.Subscript a b pos) (tOp r ta tb) := by
  intro pins s σ H Q I h
  exact Subscript_ (binT ha hb I h fun v u s2 x y H2 I2 rx ry q => hr a b pins s2 σ H2 x y v u Q I2 rx ry q (hs _ _))

def rIxL (K : PySem.W.Frag) : R2 := fun x y H Q => ∃ p xs i v, x = .ref p ∧ y = .int i ∧ SqL K H p xs ∧ atI xs i = some v ∧ Q v H
def rIxT (K : PySem.W.Frag) : R2 := fun x y H Q => ∃ p xs i v, x = .ref p ∧ y = .int i ∧ SqT K H p xs ∧ atI xs i = some v ∧ Q v H
def rIxS : R2 := fun x y H Q => ∃ z i c, x = .str z ∧ y = .int i ∧ z.length ≤ sizeLine ∧ atI z.cps.toList i = some c ∧ Q (.str ⟨#[c]⟩) H
theorem ix_list : IxR X (rIxL X.K) := by
  intro value slice pins s σ H x y v u Q I rx ry h hs
  obtain ⟨p, xs, i, z, rfl, rfl, hq, he, q⟩ := h
  cases rx
  obtain ⟨t, rfl⟩ := ry
  obtain ⟨its, r, pl, hz⟩ := I.list hq
  obtain ⟨j, h1, h2, h3, h4, h5⟩ := atI_get he
  obtain ⟨w, ew, rw'⟩ := r.get h2
  have hl := r.length
  have hn := line63
  have fin : EP X pins σ Q w s := ⟨z, H, I, rw', q⟩
  by_cases h0 : 0 ≤ i
  · have hj  := by
      rw [seqIndex_of h0 h5] at h1
      exact Option.some.inj h1
    exact item_listR pl.isList h0 (by omega) (by grind) fin hs
  · have hj : (i + its.toArray.size).toNat = j := by
      rw [seqIndex_neg (by omega) h4] at h1
      simp_all
    exact subscriptTail_builtinR pl.isList.typeIs slot_list_getitem.lookup
      (wpAny_getItem_list_neg pl.isList (by omega) (by simp_all) (by omega) (by grind) ⟨rfl, fin⟩) hs
theorem ix_tup : IxR X (rIxT X.K) := by
  intro value slice pins s σ H x y v u Q I rx ry h hs
  obtain ⟨p, xs, i, z, rfl, rfl, hq, he, q⟩ := h
  cases rx
  obtain ⟨t, rfl⟩ := ry
  obtain ⟨its, r, pl, hz⟩ := I.tuple hq
  obtain ⟨j, h1, h2, h3, h4, h5⟩ := atI_get he
  obtain ⟨w, ew, rw'⟩ := r.get h2
  have hl := r.length
  have hn := line63
  have fin : EP X pins σ Q w s := ⟨z, H, I, rw', q⟩
  exact subscriptTail_builtinR pl.typeIs slot_tuple_getitem.lookup
    (getItem_tuple pl (by omega) (by omega) (by rw [List.size_toArray, ← hl]; exact h1) (by grind) ⟨rfl, fin⟩) hs
theorem ix_str : IxR X rIxS := by
  intro value slice pins s σ H x y v u Q I rx ry h hs
  obtain ⟨z, i, c, rfl, rfl, hz, he, q⟩ := h
  obtain ⟨t, rfl⟩ := rx
  obtain ⟨t', rfl⟩ := ry
  obtain ⟨j, h1, h2, h3, h4, h5⟩ := atI_get he
  have hl : z.cps.toList.length = z.length := by simp [Str.length]
  rw [hl] at h1 h4 h5
  have hn := line63
  exact tail_any (typeIs_str s z t) slot_str_getitem.lookup (getItem_str (by
    grind) (by grind) ⟨.str _, H, I.tok _, ⟨⟨_, Nat.ne_of_gt I.tk⟩, rfl⟩, q⟩) hs
/-! ### xs[i] = v, any sign -/
/-! ### slices -/
/-! ### in, not in: flat items -/
/-! ### len, list(x), tuple(x) of any list or tuple that is read -/
theorem call_len_seq : CallR X (.builtin "len") (fun xs H Q => ∃ p ys, xs = [.ref p] ∧ (SqL X.K H p ys ∨ SqT X.K H p ys) ∧ Q (.int ys.length) H) := by
  intro pins s σ H xs us Q I r h
  obtain ⟨p, ys, rfl, hq, q⟩ := h
  obtain ⟨u, rfl, rx⟩ := vals1 r
  cases rx
  have hn := line63
  rcases hq with hq | hq
  · obtain ⟨its, r', pl, hz⟩ := I.list hq
    have hlen := r'.length
    exact Calls.call_len_list pl.isList (by grind) ⟨.int _, H, I.tok _, ⟨s.toks + 1, by simp_all⟩, q⟩
  · obtain ⟨its, r', pl, hz⟩ := I.tuple hq
    have hlen := r'.length
    exact len_tuple pl (by simp only [List.size_toArray] <;> omega) ⟨.int _, H, I.tok _, ⟨s.toks + 1, by simp_all⟩, q⟩
theorem call_len_str : CallR X (.builtin "len") (fun xs H Q => ∃ z, xs = [.str z] ∧ z.length ≤ sizeLine ∧ Q (.int z.length) H) := by
  intro pins s σ H xs us Q I r h
  obtain ⟨z, rfl, hz, q⟩ := h
  obtain ⟨u, rfl, t, rfl⟩ := vals1 r
  have hn := line63
  exact len_str (by omega) ⟨.int _, H, I.tok _, ⟨_, rfl⟩, q⟩
theorem CallR.or {f : Value} {r r' : List V → Hp → VK → Prop} (h : CallR X f r) (h' : CallR X f r') : CallR X f (fun xs H Q => r xs H Q ∨ r' xs H Q) := by
  intro pins s σ H xs us Q I rs q
  rcases q with q | q
  · exact h pins s σ H xs us Q I rs q
  · exact h' pins s σ H xs us Q I rs q
theorem call_list_of : CallR X (.type "list") (fun xs H Q => ∃ p ys, xs = [.ref p] ∧ (SqL X.K H p ys ∨ SqT X.K H p ys) ∧ ∀ l, H l = none → Q (.ref l) (upd H l (.lst ys))) := by
  intro pins s σ H xs us Q I r h
  obtain ⟨p, ys, rfl, hq, q⟩ := h
  obtain ⟨u, rfl, rx⟩ := vals1 r
  cases rx
  have fin : ∀ (its : List Value), Vals ys its → ys.length ≤ sizeLine → ∀ (h' : Heap) (c' : Nat), (∀ b o', s.heap.get? b = some o' → h'.get? b = some o') →
      h'.get? _ = some { cls := .type _, dict := none, data := .seq _ c', slots := #[] } → EP X pins σ Q (.ref _) _ := fun its r' hz h' c' kp e =>
    ⟨.ref _, _, I.laid (t' := s.toks) kp (Nat.le_refl _) (show ObjOk _ X.w _ h' _ (.lst ys) from ⟨hz, its, c', r', e⟩), rfl, q _ (I.hok.fresh (Nat.le_refl _))⟩
  rcases hq with hq | hq
  · obtain ⟨its, r', pl, hz⟩ := I.list hq
    have hlen := r'.length
    obtain ⟨o, ho, hc, n, hd⟩ := pl.isList
    exact call_list_seq p (.inl rfl) ho hc hd (fun h' c' kp e => fin its r' hz h' c' kp e) (by grind)
  · obtain ⟨its, r', pl, hz⟩ := I.tuple hq
    have hlen := r'.length
    obtain ⟨o, ho, hc, n, hd⟩ := pl
    exact call_list_seq p (.inr rfl) ho hc hd (fun h' c' kp e => fin its r' hz h' c' kp e) (by simp_all)
/-! ### the call of a builtin's method: o.m(..) -/
def tyV (K : PySem.W.Frag) (T : String) (x : V) (H : Hp) : Prop := match x with
  | .str _ => T = "str"
  | .int _ => T = "int"
  | .ref p => (T = "list" ∧ ∃ xs, SqL K H p xs) ∨ (T = "tuple" ∧ ∃ o, K.lookup p = some o ∧ o.cls = .type "tuple" ∧ o.dict = none) ∨
      (T = "dict" ∧ ((∃ kvs, H p = some (.dK kvs)) ∨ ∃ kvs, H p = some (.dT kvs))) ∨ (T = "set" ∧ ∃ S n, H p = some (.set S n))
  | _ => False
theorem tyV_is {pins : List (Addr × Obj)} {σ : St} {H : Hp} {s : Shared} {T : String} {x : V} {v : Value} (I : Inv X pins σ H s) (r : RelV x v) (ty : tyV X.K T x H) :
    s.TypeIs v T ∧ ∀ a, v = .ref a → ∃ ob, s.heap.get? a = some ob ∧ ob.dict = none := by
  cases x with
  | str z =>
    obtain ⟨t, rfl⟩ := r
    cases (ty)
    exact ⟨typeIs_str s z t, fun _ e => nomatch e⟩
  | int i =>
    obtain ⟨t, rfl⟩ := r
    cases (ty)
    exact ⟨typeIs_int s i t, fun _ e => nomatch e⟩
  | ref p =>
    cases r
    rcases ty with ⟨rfl, xs, hq⟩ | ⟨rfl, o, hk, hc, hd⟩ | ⟨rfl, hk⟩ | ⟨rfl, S, n, hk⟩
    · obtain ⟨its, _, pl, _⟩ := I.list hq
      refine ⟨pl.isList.typeIs, fun a e => ?_⟩
      cases e
      obtain ⟨o, n, e, c, hd, _⟩ := pl
      exact ⟨o, e, hd⟩
    · refine ⟨⟨o, I.kIn p o hk, hc⟩, fun a e => ?_⟩
      cases e
      exact ⟨o, I.kIn _ o hk, hd⟩
    · have z : ∃ o, s.heap.get? p = some o ∧ o.ExactDict := by
        rcases hk with ⟨kvs, hk⟩ | ⟨kvs, hk⟩
        · obtain ⟨_, _, _, _, o, _, _, e, ex, _⟩ := I.hok p _ hk
          simp_all
        · obtain ⟨_, _, _, _, o, _, _, e, ex, _⟩ := I.hok p _ hk
          simp_all
      obtain ⟨o, e, ex⟩ := z
      refine ⟨⟨o, e, ex.1⟩, fun a e2 => ?_⟩
      cases e2
      exact ⟨o, e, ex.2.1⟩
    · obtain ⟨o, _, _, _, e, ex, _⟩ := I.hok p _ hk
      refine ⟨⟨o, e, ex.1⟩, fun a e2 => ?_⟩
      cases e2
      exact ⟨o, e, ex.2.1⟩
  | _ => exact False.elim ty
def tBM (K : PySem.W.Frag) (T : String) (r : V → List V → Hp → VK → Prop) (to : TE) (t : TA) : TE := fun σ H Q => to σ H fun x H1 => tyV K T x H1 ∧ t σ H1 fun xs H2 => r x xs H2 Q
variable {o e : Expr} {es : List Expr} {to : TE} {t : TA} {name : Str} {apos cpos : Pos} {T id : String} {r : V → List V → Hp → VK → Prop}
theorem pe_bm (pa : PlainAttrs T) (slot : Slot T name id) (hty : typeOf (.builtin id) = pure (.type "method_descriptor")) (hm : MtR X id r) (ho : PE X o to) (ha : PA X (e :: es) t)
    (hbase : attributeBase o name X.env (eval o X.env) = eval o X.env := by rfl)
    (hfew : ((backTo cpos (starEach (e :: es) X.env)).all (fun x => !x.1) && (backToKw cpos (keywordEach [] X.env)).all (fun x => x.1.isSome)
      && decide ((e :: es).length + ([] : List Keyword).length + (if ([] : List Keyword).isEmpty then 0 else 1) < 30)) = true := by rfl)
    (hline : (apos.endLine == cpos.line) = true := by rfl) (hs : starEach (e :: es) X.env = (false, eval e X.env) :: starEach es X.env := by rfl) (hplain : (backTo cpos (starEach es X.env)).any (·.1) = false := by rfl) :
    PE X (.Call (.Attribute o name apos) (e :: es) [] cpos) (tBM X.K T r to t) := by
  intro pins s σ H Q I h
  refine wpAny_Call_method_late hbase hfew hline rfl (thn (ho pins s σ H _ I h) fun v s1 ⟨x, H1, I1, r1, ty, q1⟩ => ?_)
  obtain ⟨h1, h2⟩ := tyV_is I1 r1 ty
  refine ⟨T, id, pa, slot, hty, h1, h2, ?_⟩
  have hA := ha cpos pins s1 σ H1 _ I1 q1
  rw [hs] at hA ⊢
  refine Calls.callWith_builtin (by assumption) (Calls.evalArgs_plain ?_)
  exact thn hA fun us s2 ⟨vs, H2, I2, r2, q2⟩ => hm pins s2 σ H2 x vs v us Q I2 r1 r2 q2
/- xs.append(e), list.index on a module's tuple .. are MtR facts of 06m -/
end
end L2

namespace L2
open PySem PySem.Spec PyProof.Rows

def MtM (X : Cx) (id : String) (r : V → List V → Hp → VK → Prop) : Prop :=
  ∀ (pins : List (Addr × Obj)) (s : Shared) (σ : St) (H : Hp) (x : V) (xs : List V) (v : Value) (us : List Value) (Q : VK), Inv X pins σ H s → RelV x v → Vals xs us → r x xs H Q →
    wpAny (model X.prog X.w) X.A (call (.builtin id) (v :: us)) (EP X pins σ Q) X.xe s

/-! ### lists of values -/
theorem Vals.one : ∀ {x : V} {us : List Value}, Vals [x] us → ∃ u, us = [u] ∧ RelV x u
  | _, _, .cons r .nil => ⟨_, rfl, r⟩
theorem Vals.rep {xs : List V} {us : List Value} (h : Vals xs us) : ∀ k : Nat, Vals (List.replicate k xs).flatten (List.replicate k us).flatten
  | 0 => .nil
  | k + 1 => by
    exact Vals.append h (Vals.rep h k)
theorem foldl_rep (its : List Value) : ∀ (k : Nat) (acc : List Value),
    List.foldl (fun x1 x2 => x1 ++ x2) acc.toArray (List.replicate k its.toArray) = (acc ++ (List.replicate k its).flatten).toArray
  | 0, acc => by simp
  | k + 1, acc => by
    have e : acc.toArray ++ its.toArray = (acc ++ its).toArray := by simp
    have e2 : (acc ++ its) ++ (List.replicate k its).flatten = acc ++ (List.replicate (k + 1) its).flatten := by
      grind
    rw [← e2, ← foldl_rep, ← e, List.replicate_succ, List.foldl_cons]

section
variable {X : Cx} {pins : List (Addr × Obj)} {σ : St} {H : Hp} {s : Shared} {l b : Addr} {xs ys zs : List V}

/-! ### the two steps: a tracked list is rewritten, a new list is laid -/
theorem Inv.lset {its its' : List Value} {n : Nat} {f : Array Value → Array Value} {t' : Nat} (I : Inv X pins σ H s) (hH : H l = some (.lst xs))
    (e : s.heap.get? l = some { cls := .type "list", data := .seq its.toArray n }) (hf : f its.toArray = its'.toArray) (hv : Vals ys its') (hz : ys.length ≤ sizeLine) (h0 : 0 < t' := by first | assumption | exact Nat.succ_pos _ | exact Inv.tk ‹_› | omega) :
    Inv X pins σ (upd H l (.lst ys)) { s with heap := s.heap.update l (Obj.mapSeq f), toks := t' } := by
  have q := PySem.IsL.update e f
  rw [hf] at q
  refine I.write (by rw [hH]; exact trivial) (.inl rfl) (fun b' u hb hu => (Heap.get?_update_other _ _ (Ne.symm hb)).trans hu) ⟨_, q⟩ ?_
  exact ⟨hz, its', _, hv, q⟩
theorem Inv.lnew {its : List Value} {t' : Nat} (I : Inv X pins σ H s) (hv : Vals ys its) (hz : ys.length ≤ sizeLine) (h0 : 0 < t' := by first | assumption | exact Nat.succ_pos _ | exact Inv.tk ‹_› | omega) :
    Inv X pins σ (upd H s.heap.objs.size (.lst ys)) { s with heap := s.heap.push { cls := .type "list", data := .seq its.toArray }, toks := t' } :=
  I.laid (fun _ _ q => Heap.get?_push_of_some _ q) (Nat.le_refl _) ⟨hz, its, 0, hv, Heap.get?_push_size _ rfl⟩
theorem Inv.fresh (I : Inv X pins σ H s) : H s.heap.objs.size = none := I.hok.fresh (Nat.le_refl _)
theorem Inv.lstM (I : Inv X pins σ H s) (hH : H l = some (.lst xs)) : xs.length ≤ sizeLine ∧ ∃ (its : List Value) (n : Nat), Vals xs its ∧ xs.length = its.length ∧ s.heap.get? l = some { cls := .type "list", data := .seq its.toArray n } := by
  obtain ⟨z, its, n, r, e⟩ := I.hok l _ hH
  exact ⟨z, its, n, r, r.length, e⟩

theorem notLongL {n : Nat} (h : n ≤ sizeLine) : Builtin.List.listTooLong n = false := by
  unfold Builtin.List.listTooLong
  grind
end

section
variable {X : Cx}

/-! ### methods -/
def rAppend : V → List V → Hp → VK → Prop := fun x vs H Q => ∃ l xs y, x = .ref l ∧ vs = [y] ∧ H l = some (.lst xs) ∧ xs.length < sizeLine ∧ Q .non (upd H l (.lst (xs ++ [y])))
theorem mt_append : MtM X "list.append" rAppend := by
  intro pins s σ H x vs v us Q I rx rv h
  obtain ⟨l, xs, y, rfl, rfl, hH, hz, q⟩ := h
  cases rx
  obtain ⟨u, rfl, ru⟩ := rv.one
  obtain ⟨z, its, n, r, hl, e⟩ := I.lstM hH
  refine call_meets F.slot_list_append ⟨_, e, rfl⟩ F.entry_list_append (F.args_list_append_2 _ _) (PySem.list_append l _ n u (by grind)) ⟨e, ?_⟩
  refine ⟨.non, _, I.lset hH e (by simp) (r.append (.cons ru .nil)) ?_, rfl, q⟩
  grind

/-! ### list + list, list += list, list * int -/
def rCat : R2 := fun x y H Q => ∃ l b xs zs, x = .ref l ∧ y = .ref b ∧ H l = some (.lst xs) ∧ H b = some (.lst zs) ∧ xs.length + zs.length ≤ sizeLine ∧ ∀ p, H p = none → Q (.ref p) (upd H p (.lst (xs ++ zs)))
theorem op_cat : OpR X (binaryOp .Add) rCat := by
  intro pins s σ H x y v u Q I rx ry h
  obtain ⟨l, b, xs, zs, rfl, rfl, hH, hB, hz, q⟩ := h
  cases rx
  cases ry
  obtain ⟨z, its, n, r, hl, e⟩ := I.lstM hH
  obtain ⟨z2, its2, n2, r2, hl2, e2⟩ := I.lstM hB
  refine PySem.P.add_list e e2 ?_ (by grind)
  have ea : its.toArray ++ its2.toArray = (its ++ its2).toArray := by simp
  rw [ea]
  exact ⟨.ref _, _, I.lnew (r.append r2) (by simp_all), rfl, q _ I.fresh⟩
def rRep : R2 := fun x y H Q => ∃ l k xs, x = .ref l ∧ y = .int k ∧ H l = some (.lst xs) ∧ -(2 ^ 63) ≤ k ∧ k < 2 ^ 63 ∧ xs.length * k.toNat ≤ sizeLine ∧
  ∀ p, H p = none → Q (.ref p) (upd H p (.lst (List.replicate k.toNat xs).flatten))
theorem len_rep {α : Type} (xs : List α) (k : Nat) : (List.replicate k xs).flatten.length = k * xs.length := by
  simp
theorem op_rep : OpR X (binaryOp .Mult) rRep := by
  intro pins s σ H x y v u Q I rx ry h
  obtain ⟨l, k, xs, rfl, rfl, hH, h1, h2, hz, q⟩ := h
  cases rx
  obtain ⟨t, rfl⟩ := ry
  obtain ⟨z, its, n, r, hl, e⟩ := I.lstM hH
  have hlen : its.toArray.size * k.toNat ≤ sizeLine := by simp_all
  have hcap : ¬ its.toArray.size * k.toNat > (2 ^ 63 - 1) / 8 := by
    have : sizeLine ≤ (2 ^ 63 - 1) / 8 := by decide
    omega
  have hfit : ¬ (!Builtin.List.listFitsIndex k) = true := by
    rw [fitsIndex_both h1 h2]
    grind
  have hlong : ¬ Builtin.List.listTooLong (its.toArray.size * k.toNat) = true := by
    rw [notLongL hlen]
    simp_all
  have hnew : List.foldl (fun x1 x2 => x1 ++ x2) #[] (List.replicate (if its.toArray.isEmpty = true then 0 else k.toNat) its.toArray) = (List.replicate k.toNat its).flatten.toArray := by
    have f0 : ∀ m , List.foldl _ _ (List.replicate m _) = (List.replicate m its).flatten.toArray := fun m => by
      have := foldl_rep its m []
      assumption
    rw [f0]
    cases its with
    | nil => simp
    | cons a r' => simp_all
  refine wpAny_binaryOp_repeat_ref (by decide) ⟨_, e, rfl⟩ (fun s' => typeIs_int s' k t) noFill_list_mul F.fills_int_mul F.slot_int_rmul repeat_list F.slot_int_index.lookup
    (call_meets F.slot_int_rmul (typeIs_int s k t) F.entry_int_rmul (F.args_int_rmul_2 _ _) (int___rmul___int_list k t l _ n)
      ⟨e, rfl, ⟨_, e, rfl⟩, call_meets F.slot_list_mul ⟨_, e, rfl⟩ F.entry_list_mul (F.args_list_mul_2 _ _) (AutoListH.list___mul___list_int_3 l _ n k t hfit hcap hlong) ⟨e, ?_⟩⟩)
  rw [hnew]
  exact ⟨.ref _, _, I.lnew (r.rep _) (by rw [len_rep, Nat.mul_comm]; exact hz), rfl, q _ I.fresh⟩

/-! ### del xs[i] -/
end

/-! ### xs[a:b] = ys -/
section
variable {prog : Program} {w : World} {A : Around} {E : Value → Shared → Prop} {s : Shared}
end

section
variable {X : Cx}
end
end L2

namespace Att
open PySem PySem.W PySem.Calls PyProof.Rows

/-! ### the script -/
theorem ints_of_wellAll {P : Params} {h : Heap} : ∀ (ns : List Int) (vs : List Value), WellAll P h vs (ns.map WData.int) → IntsAre vs ns := by
  intro ns
  induction ns with
  | nil =>
    intro vs w
    cases w
    exact .nil
  | cons n ns ih =>
    intro vs w
    cases w with
    | cons a b =>
      cases a
      exact .cons _ _ (ih _ b)

theorem script_of {l : OpenLaw} {n : Nat} (hn : l.most = some n) {P : Params} {h : Heap} {args : List WData} {vals : List Value}
    (hpre : l.row.toRowW.claim.pre args = true) (hwl : WellAll P h vals args) :
    ∃ a vs ns, vals = [Value.ref a] ∧ args = [WData.list (ns.map WData.int)] ∧ h.get? a = some { cls := .type "list", data := .seq vs.toArray } ∧ IntsAre vs ns ∧ ns.length ≤ n := by
  have hsh : WShape.hasAll [] args _ = true := (pre_splitW hpre).1
  have hc : l.pre.holds [] _ = true := (pre_splitW hpre).2
  obtain ⟨d, r, rfl, h1, h2⟩ := hasAllW_cons hsh
  obtain rfl := hasAllW_nil h2
  obtain ⟨xs, rfl, h3⟩ := hasW_list h1
  obtain ⟨ns, rfl⟩ := items_int h3
  have hlen : ns.length ≤ n := by
    have h4 : (WTm.not (.lt (.lit (.int n)) (.len (.arg 0)))).holds [] { args := [.list (ns.map .int)] } = true := by
      have h4 := (holds_andW hc).1
      simp_all
    have h5 := condW_of h4 (w_not (w_lt w_lit (w_len_list (w_arg rfl))))
    simp_all
  cases hwl with
  | cons w1 w2 =>
    cases w2
    cases w1 with
    | list ho hall => exact ⟨_, _, ns, rfl, rfl, ho, ints_of_wellAll ns _ hall, hlen⟩

theorem post_true (l : OpenLaw) (args : List WData) : l.row.toRowW.claim.post args (.bool true) args = true :=
  postW_of (r := l.row.toRowW) (X := (true == true))
    (show WShape.has [] (.bool true) .bool = true by first | rfl | decide | simp [WShape.has, WShape.arms, WShape.armsAll])
    (show (WTm.eq .res (.lit (.bool true))).value [] { args := args, res := some (.bool true), after := args } = some (.bool (true == true)) from w_eq_bool (w_res rfl) w_lit) rfl

/-! ### the attachment: holds_open's last premise (the goal 'hc' behind k_head) from a wpAny of the law's body -/
theorem attach_call {l : OpenLaw} {n : Nat} {q : Program} {loose : List Str} {XP : (Str → Option Value) → Heap → Prop} {YP : World → Heap → Prop} {d : DefRec}
    (hn : l.most = some n) (hdf : d.params.defaults = [])
    (call : ∀ (w : World) (s₀ s₁ : Shared) (mg mb : Str → Option Value) (fa : Addr) (o : Obj) (pm cd doc : Value) (a : Addr) (vs : List Value) (ns : List Int),
      Ground q loose [] XP w s₀ mg mb s₁.heap → YP w s₁.heap →
      s₁.heap.get? fa = some o → o.data = .func (docDef d.name d.params d.body d.scope pm cd doc) → s₁.heap.CodeRec cd d.name → mg d.name = some (.ref fa) →
      s₁.heap.get? a = some { cls := .type "list", data := .seq vs.toArray } → IntsAre vs ns → ns.length ≤ n → s₁.gens = #[] → 0 < s₁.toks →
      codeAny (model l.prog w) callerA (.call (.ref fa) ⟨[.ref a], []⟩) (fun r s' => r = .ok (.ret (.bool true)) ∧ OldK s₁.heap s'.heap ∧ s'.os = s₁.os ∧ AllBare s'.gens) s₁) :
    L2.WalkT q loose XP YP l.row.toRowW d [] := by
  intro w s₀ s₁ mg mb h0 G Y fa o pm cd doc dV kV ho hd hcd hD hmg hg args vals as hpre hlay hrd hwl hlo
  obtain rfl : dV = .none := Dflts.none hD hdf
  obtain rfl : kV = .none := Dflts.noKw hD
  obtain ⟨a, vs, ns, rfl, rfl, hobj, hints, hlen⟩ := script_of hn hpre hwl
  refine enter_call (codeAny_mono (call w s₀ s₁ mg mb fa o pm cd doc a vs ns G Y ho (fd_plain hd) hcd hmg hobj hints hlen hg h0) fun r s' hq => ?_)
  obtain ⟨rfl, h2, h3, h4⟩ := hq
  exact ⟨.inl ⟨.bool true, .bool true, [], rfl, fun _ => rfl, .bool true, post_true l _, fun _ => ⟨List.Pairwise.nil, fun _ hm => (nomatch hm)⟩⟩, h2, h3, h4⟩

/-! ### rules over ANY heap (no ledger) from facts about the written part K: the library's own take a ledger (News) for what they write -/
section
variable {prog : Program} {w : World} {A : Around} {E : Value → Shared → Prop} {s : Shared} {K : Frag}

/-! the whole heap as the ledger: makes every rule that writes through a ledger a rule over any heap -/
end
end Att

namespace L2
open PySem PySem.Spec PyProof.Rows

theorem vals_ints : ∀ {vs : List Value} {ns : List Int}, IntsAre vs ns → Vals (ns.map V.int) vs
  | _, _, .nil => .nil
  | _, _, .cons n t h => .cons ⟨t, rfl⟩ (vals_ints h)

def Only (H : Hp) : Prop := ∀ b, H b = none ∨ ∃ o xs, H b = some (.frz o (.lst xs))

theorem law_call {P : Program} {w : World} {K : PySem.W.Frag} {mg mb : Str → Option Value} {CX : CXT} {k : Nat} {fa a : Addr} {fd : FuncData} {x : Str} {sp : Sp} {s₁ : Shared} {vs : List Value} {ns : List Int}
    (KX : K.In s₁.heap) (hns : s₁.heap.Ns mainGlobals mg) (hb : s₁.heap.Ns builtinsNs mb) (hbb : ∀ x : Str, x ≠ "__name__" → mb x = bootBuiltins x) (hlim : s₁.heap.NoLimit) (hg : s₁.gens = #[]) (h0 : 0 < s₁.toks)
    (ha : s₁.heap.get? a = some { cls := .type "list", data := .seq vs.toArray }) (hi : IntsAre vs ns) (hl : ns.length ≤ sizeLine) (hr : Room k callerA)
    (F : ∀ base : Heap, K.In base → base.Ns mainGlobals mg → FnOk P w K mg base CX k fa fd [x] sp) (hbind : ∀ (s : Shared) (u : Value), BindsTo s fd ⟨[u], []⟩ [(x, u)])
    (hsp : ∀ H : Hp, Only H → SqL K H a (ns.map V.int) → sp [.ref a] H (fun v _ => v = .bl true) fun _ _ _ => False)
    (hCX : ∀ H e s', CX [] H s₁ (fun _ _ _ => False) e s' → False) :
    codeAny (model P w) callerA (.call (.ref fa) ⟨[.ref a], []⟩) (fun r s' => r = .ok (.ret (.bool true)) ∧ OldK s₁.heap s'.heap ∧ s'.os = s₁.os ∧ AllBare s'.gens) s₁ := by
  have rv := vals_ints hi
  have lenV := hi.length
  -- from an abstract heap in which nothing but the script may be tracked
  have core : ∀ H , Only H → SqL K H a (ns.map V.int) → HOk P w H s₁.heap → (∀ b, H b ≠ none → b = a) → (H a ≠ none → K.lookup a = none) →
      codeAny (model P w) callerA (.call (.ref fa) ⟨[.ref a], []⟩) (fun r s' => r = .ok (.ret (.bool true)) ∧ OldK s₁.heap s'.heap ∧ s'.os = s₁.os ∧ AllBare s'.gens) s₁ := by
    intro H hO hS hok hA hK
    have base_of : ∀ {b : Addr} {o : Obj}, s₁.heap.get? b = some o → H b = none → (hidT _ H).get? b = some o := fun e n => hidT_get e n
    have noA : ∀ {b : Addr} {o : Obj} {es : Array _} {ep : Nat}, s₁.heap.get? b = some o → o.data = .dict es ep → H b = none := fun {b o es ep} e d => by
      grind
    have nsK : ∀ {b : Addr} {m : Str → Option Value}, s₁.heap.Ns b m → (hidT _ H).Ns b m := fun {b m} ⟨o, es, ep, e, d, r⟩ => ⟨o, es, ep, base_of e (noA e d), d, r⟩
    have hKb : K.In (hidT _ H) := fun b o e => base_of (KX b o e) (by
      grind)
    have hM : Mod K mg (hidT _ H) := ⟨hKb, nsK hns, ⟨mb, nsK hb, hbb⟩, let ⟨mc, h1, h2⟩ := hlim; ⟨mc, nsK h1, h2⟩⟩
    have e0 : Env0 P w K mg (hidT _ H) callerA [] s₁ H := ⟨rfl, hM, fun b o e => of_hidT e, Nat.le_of_eq (hidT_size _ _), trivial, fun b hb => absurd (show b ∈ ([]) from hb) (by simp), hok, .of_eq hg, h0⟩
    refine codeAny_mono ((F _ hKb (nsK hns)).run _ [] s₁ H _ _ [.ref a] _ _ hr e0 (hbind s₁ _) (.cons rfl .nil) (hsp H hO hS)) fun r s' h => ?_
    cases r with
    | error e => exact (hCX H e s' h).elim
    | ok fl =>
      cases fl with
      | next => exact False.elim h
      | brk => exact False.elim h
      | cont => exact False.elim h
      | ret u =>
        obtain ⟨v, H', os, bare, un, hok', r', q⟩ := h
        have q'  := q
        subst q'
        obtain rfl : u = Value.bool true := r'
        refine ⟨rfl, OldK.of_keep fun b o e => ?_, os, bare⟩
        cases q : H b with
        | none => exact un.keep b o e q (by intro z; exact absurd (show b ∈ ([]) from z) (by simp)) (by simp)
        | some u =>
          rcases hO b with z | ⟨ob, xs, z⟩
          · grind
          · have z2 := un.frzs b ob _ z
            obtain ⟨e1, _⟩ := hok b _ z
            obtain ⟨e2, _⟩ := hok' b _ z2
            grind
  cases hk : K.lookup a with
  | some o =>
    -- the script is one of the module's own objects
    have e := KX a o hk
    rw [ha] at e
    cases e
    refine core _ (fun _ => .inl rfl) (.inr ⟨_, vs.toArray, _, hk, rfl, rfl, rfl, by simp_all, by simp_all⟩) (fun b u z => by simp_all) (fun b z => absurd rfl z) fun z => absurd rfl z
  | none =>
    refine core (fun b => if b = a then some (.frz { cls := .type _, data := .seq _ } (.lst _)) else none) (fun b => ?_) (.inl (.inr ⟨{ cls := .type "list", data := .seq vs.toArray }, if_pos rfl⟩)) (fun b u z => ?_) (fun b z => ?_) fun _ => hk
    · grind
    · by_cases hb : b = a
      · have z' := (if_pos hb).symm.trans z
        cases z'
        subst hb
        exact ⟨ha, by simp_all, vs, _, rv, ha⟩
      simp_all
    simp_all
end L2

namespace L2
open PySem PySem.Spec PyProof.Rows

noncomputable abbrev KOf {K : PySem.W.Frag} {h : Heap} (_ : K.In h) : PySem.W.Frag := K

theorem walk_of {l : PySem.W.OpenLaw} {n k : Nat} {q : Program} {loose : List Str} {XP : (Str → Option Value) → Heap → Prop} {YP : World → Heap → Prop} {d : DefRec} {K : Params → PySem.W.Frag} {CX : World → CXT} {sp : World → Sp} {x : Str}
    (hn : l.most = some n) (hn2 : n ≤ sizeLine) (hdf : d.params.defaults = []) (hr : Room k callerA)
    (hY : ∀ (w : World) (h : Heap), YP w h → (K w.params).In h)
    (F : ∀ (w : World) (mg : Str → Option Value) (fa : Addr) (h : Heap), (K w.params).In h → h.Ns mainGlobals mg → mg d.name = some (.ref fa) →
      ∃ fd : FuncData, (∀ (s : Shared) (u : Value), BindsTo s fd ⟨[u], []⟩ [(x, u)]) ∧
        ∀ base : Heap, (K w.params).In base → base.Ns mainGlobals mg → FnOk l.prog w (K w.params) mg base (CX w) k fa fd [x] (sp w))
    (hsp : ∀ (w : World) (H : Hp) (a : Addr) (ns : List Int), ns.length ≤ n → Only H → SqL (K w.params) H a (ns.map V.int) → sp w [.ref a] H (fun v _ => v = .bl true) fun _ _ _ => False)
    (hCX : ∀ (w : World) (H : Hp) (s : Shared) (e : Value) (s' : Shared), CX w [] H s (fun _ _ _ => False) e s' → False) :
    WalkT q loose XP YP l.row.toRowW d [] := by
  refine Att.attach_call hn hdf fun w s₀ s₁ mg mb fa o pm cd doc a vs ns G Y ho hd hcd hmg hobj hints hlen hg h0 => ?_
  have KX := hY w _ Y
  obtain ⟨fd, hb, hF⟩ := F w mg fa _ KX G.T.g hmg
  exact law_call KX G.T.g G.T.b G.T.builtins G.T.nolimit hg h0 hobj hints (Nat.le_trans hlen hn2) hr hF hb (fun H hO hS => hsp w H a ns hlen hO hS) fun H e s' => hCX w H s₁ e s'
end L2

/- THE LAST THEOREM (shape; LID, My.* are yours):
   My.Adr: a structure of the addresses that your layer names (classes, functions); My.Txt K t: a structure (Prop) of the equations over K;
   My.txt_mk : {K} {implicit addresses ..} (e1 : nsIn K mainGlobals "law" = some (some (.ref f))) (e2 : K.lookup f = some ⟨oc, od, .func (fnOf "law" "law" params body scope dV kV doc pm an cdv ct), sl⟩) (e3 : codeIn K cdv "law" = true) .. : ∃ t, My.Txt K t

set_option maxRecDepth 100000 in
set_option maxHeartbeats 0 in
theorem PySem.Challenge.cw_LID_holds : PySem.Challenge.rw_LID.Holds := by
  w_on; o_law; k_head; (case hw => w_witness2)
  k_fill
  refine L2.walk_of (l := PySem.Challenge.rw_LID) (n := 63) (k := 40) (x := "script") (CX := fun w => ..) (sp := fun _ => My.sp_law) rfl (by decide) rfl ⟨rfl, by decide, by decide⟩ (fun w h Y => PySem.W.kIn_of Y) ?F ?S ?C
  case F =>
    intro w mg fa h KX G hmg
    have T : ∃ t, My.Txt (L2.KOf KX) t := by
      dsimp only [L2.KOf]                          -- K must stand as «<heap const> w.params» for k_is
      refine' My.txt_mk ?e1 ?e2 ?e3 ..
      (case e1 => PySem.W.k_is)                    -- in the order: a name -> its address -> its object -> its parts
      (case e2 => PySem.W.k_is)
      ..
    obtain ⟨t, T⟩ := T
    have e0 := hmg.symm.trans (PySem.W.mg_of KX G T.law)
    cases e0                                       -- fa is the law's own address
    exact ⟨_, fun s u => .of_eq rfl, fun base kb nb => My.law_fn T kb nb⟩     -- if «.of_eq rfl» comes too early: refine' ⟨_, ?b, fun base kb nb => My.law_fn T kb nb⟩; exact fun s u => .of_eq rfl
  case S => exact fun w H a ns hl hO hS => ..
  case C => exact ..
(the tactic k_is has no namespace: write k_is) -/

/-! SHORT WORDS over the layer: a def of the text, its body, what a loop and a test want. -/
namespace L2
open PySem PySem.Spec PyProof.Rows

/-! ### the text by places -/
noncomputable def defArgs (s : Stmt) : Arguments := match s with
  | .FunctionDef _ a _ _ _ _ _ _ _ _ => a
  | _ => { posonlyargs := [], args := [], vararg := none, kwonlyargs := [], kw_defaults := [], kwarg := none, defaults := [] }
noncomputable def defBody (s : Stmt) : List Stmt := match s with
  | .FunctionDef _ _ b _ _ _ _ _ _ _ => b
  | _ => []
noncomputable def defScope (s : Stmt) : Scope := match s with
  | .FunctionDef _ _ _ _ _ _ sc _ _ _ => sc
  | _ => { kind := .function, names := [], isGenerator := false, isCoroutine := false }

/-! ### no exception leaves a def -/
noncomputable abbrev CX0 : CXT := fun _ _ _ _ _ _ => False
noncomputable abbrev E0 : XK := fun _ _ _ => False
theorem pass0 {X : Cx} : Passes CX0 X E0 := fun _ _ _ _ _ _ _ h => h.elim

/-! ### a def (or method) of the text as it stands behind the top -/
structure Fun (K : PySem.W.Frag) (x qual : Str) (st : Stmt) (f : Addr) (fd : FuncData) : Prop where
  ex : ∃ (oc : Value) (od : Option Addr) (kV doc pm : Value) (an : Option Addr) (cdv ct : Value) (osl : Array (Option Value)),
    fd = PySem.W.fnOf x qual (defArgs st) (defBody st) (defScope st) .none kV doc pm an cdv ct ∧ K.lookup f = some ⟨oc, od, .func fd, osl⟩ ∧ PySem.W.codeIn K cdv qual = true
  kp : PySem.W.keepIn K (.ref f) = true
section
variable {P : Program} {w : World} {K : PySem.W.Frag} {mg : Str → Option Value} {base : Heap}
theorem Fun.ok {x qual : Str} {st : Stmt} {f : Addr} {fd : FuncData} {N ps : List Str} {k : Nat} {sp : Sp} (F : Fun K x qual st f fd) (S : FnScope N ps (defScope st)) (len : ∀ vs H Q E, sp vs H Q E → vs.length = ps.length)
    (hbody : ∀ (cdv : Value) (A : Around) (outer : List Env) (s : Shared) (H : Hp) (vs : List V) (Q : VK) (E : XK), Room k (A.deeper (envOfC qual (defScope st) s.heap.objs.size f cdv)) → sp vs H Q E →
      ∃ t, PSs (cxOf CX0 P w K mg base N qual (defScope st) f cdv A outer s H E).nox (defBody st) t ∧ t { nx := fun _ H' => Q .non H', rt := Q } (start N vs) H) : FnOk P w K mg base CX0 (k + 1) f fd ps sp := by
  obtain ⟨oc, od, kV, doc, pm, an, cdv, ct, osl, rfl, lk, hcd⟩ := F.ex
  refine fn_of lk hcd S len fun A outer s H vs Q E hr hsp => ?_
  obtain ⟨t, h, q⟩ := hbody cdv A outer s H vs Q E hr hsp
  exact ⟨t, h.nox, q⟩
theorem Fun.binds {x qual : Str} {st : Stmt} {f : Addr} {fd : FuncData} {ps : List Str} (F : Fun K x qual st f fd)
    (h : ∀ (kV doc pm : Value) (an : Option Addr) (cdv ct : Value) (us : List Value), us.length = ps.length → bindArgs (PySem.W.fnOf x qual (defArgs st) (defBody st) (defScope st) .none kV doc pm an cdv ct) ⟨us, []⟩ = pure (ps.zip us)) : Binds K fd ps [] := by
  obtain ⟨oc, od, kV, doc, pm, an, cdv, ct, osl, rfl, lk, hcd⟩ := F.ex
  exact .all (h kV doc pm an cdv ct)
theorem fun_mk {x qual : Str} {st : Stmt} {f : Addr} {oc : Value} {od an : Option Addr} {osl : Array (Option Value)} {kV doc pm cdv ct : Value} (l : K.lookup f = some ⟨oc, od, .func (PySem.W.fnOf x qual (defArgs st) (defBody st) (defScope st) .none kV doc pm an cdv ct), osl⟩)
    (c : PySem.W.codeIn K cdv qual = true) (k : PySem.W.keepIn K (.ref f) = true) : Fun K x qual st f (PySem.W.fnOf x qual (defArgs st) (defBody st) (defScope st) .none kV doc pm an cdv ct) := ⟨⟨oc, od, kV, doc, pm, an, cdv, ct, osl, rfl, l, c⟩, k⟩
end
theorem hu_of {A : Around} {k : Nat} (hr : Room k A) : A.units + 1 < cLine := Nat.lt_of_le_of_lt (Nat.add_le_add_left (by decide) _) hr.units
/-! ### expressions in short: the name that stands in the i-th slot -/
section
variable {X : Cx}
theorem pv (i : Nat) {x : Str} {pos : Pos} (hN : X.N[i]? = some x := by rfl) (hv : Vis X.env.scope x := by first | exact Or.inl rfl | exact Or.inr (Or.inl rfl) | exact Or.inr (Or.inr rfl)) (hd : (x == ("__debug__" : Str)) = false := by decide)
    (hcd : (x == ("__classdict__" : Str)) = false := by decide) : PE X (.Name x pos) (tVar i) := pe_var hN hv hd hcd
end

/-! ### tests -/
theorem iteF {A B : Prop} (h : B) : if false = true then A else B := by
  assumption
theorem iteT {A B : Prop} (h : A) : if true = true then A else B := by
  assumption
/-! ### heaps -/
def Same (H H' : Hp) : Prop := ∀ b o, H b = some o → H' b = some o
theorem Same.refl (H : Hp) : Same H H := fun _ _ h => h
theorem Same.trans {H H1 H2 : Hp} (a : Same H H1) (b : Same H1 H2) : Same H H2 := fun c o h => b c o (a c o h)
theorem Same.free {H H' : Hp} (e : Same H H') {l : Addr} (h : H' l = Option.none) : H l = Option.none := by
  cases q : H l with
  | none => rfl
  | some o =>
    rw [e l o q] at h
    cases h
theorem Same.seq {K : PySem.W.Frag} {H H' : Hp} {a : Addr} {xs : List V} (e : Same H H') (h : SqL K H a xs) : SqL K H' a xs := by
  rcases h with (h | ⟨o, h⟩) | h
  · exact .inl (.inl (e _ _ h))
  · exact .inl (.inr ⟨o, e _ _ h⟩)
  · exact .inr h

end L2

/-! the head of a row in one go: the text's top is run by the kernel as one equation, with no state written out in between. -/
namespace Hd
open PySem PySem.W PySem.Calls PyProof.Rows

noncomputable def bt : Nat → Nat → Nat → List Obj → BT
  | 0, _, _, _ => .nil
  | f + 1, a, b, l => match l[b]? with
    | none => .nil
    | some o => .node o (bt f (2 * a) (a + b) l) (bt f (2 * a) (2 * a + b) l)
theorem bt_get : ∀ (f a b : Nat) (l : List Obj) (i : Nat), 0 < a → i < f → (bt f a b l).get i = l[b + a * i]?
  | 0, _, _, _, _, _, h => absurd h (Nat.not_lt_zero _)
  | f + 1, a, b, l, i, ha, hi => by
    unfold bt
    cases e : l[b]? with
    | none =>
      have h1  := List.getElem?_eq_none_iff.mp e
      rw [List.getElem?_eq_none (by omega)]
      rfl
    | some o =>
      rw [BT.get_node]
      by_cases h0 : i = 0
      · simp_all
      · rw [if_neg h0]
        by_cases h1 : i % 2 = 1
        · rw [if_pos h1, bt_get f _ _ l _ (by omega) (by omega)]
          congr 1
          have e2 : i = 2 * (i / 2) + 1 := by omega
          calc a + b + 2 * a * (i / 2) = b + a * (2 * (i / 2) + 1) := by rw [Nat.mul_add, Nat.mul_one, ← Nat.mul_assoc, Nat.mul_comm a 2]; omega
            _ = b + a * i := by rw [← e2]
        · rw [if_neg h1, bt_get f _ _ l _ (by omega) (by omega)]
          congr 1
          have e2 : i = 2 * ((i / 2 - 1) + 1) := by omega
          calc 2 * a + b + 2 * a * (i / 2 - 1) = b + a * (2 * ((i / 2 - 1) + 1)) := by rw [← Nat.mul_assoc, Nat.mul_comm a 2, Nat.mul_add, Nat.mul_one]; omega
            _ = b + a * i := by rw [← e2]
noncomputable def toT (n : Nat) (s : Shared) : SharedT := ⟨bt n 1 0 s.heap.objs.toList, n, s.heap.life, s.gens, s.drawn, s.toks, s.os⟩
theorem toT_abs {n : Nat} {s : Shared} (h : s.heap.objs.size = n) : (toT n s).abs = s := by
  obtain ⟨⟨objs, life⟩, g, d, k, os⟩ := s
  have e : absHeap (bt n 1 0 objs.toList) n life = ⟨objs, life⟩ := by
    have q : (absHeap (bt n 1 0 objs.toList) n life).objs = objs := by
      apply Array.ext_getElem?
      intro i
      rw [absHeap_at]
      by_cases hi : i < n
      · rw [bt_get n 1 0 _ i (by decide) hi, Nat.one_mul]
        simp_all
      · rw [if_neg hi]
        exact (Array.getElem?_eq_none (by rw [h]; omega)).symm
    show Heap.mk (absHeap (bt n 1 0 _) n life).objs life = _
    rw [q]
  show Shared.mk (absHeap (bt n 1 0 _) n life) g d k os = _
  rw [e]

noncomputable abbrev body (p : Program) (env : Env) : Code := .body (behindTheImports p) env
noncomputable abbrev base (fp : Pos) : List Frame := [topFrame fp]

noncomputable def look {α : Type} (p q : Program) (loose : List Str) (Xt : Shared → Bool) (Yf : Shared → α) (H₀ : Heap) (s : Shared) :=
  ((staticsOk (importedModules p.main.body) H₀ s.heap && namesBound p s.heap && gensDone s && laidKept H₀ s.heap), openSeen q loose (importedModules p.main.body) Xt true s, Yf s)

theorem left_of {p q : Program} {loose : List Str} {Xt : Shared → Bool} {α : Type} {Yf : Shared → α} {Ya : World → α} {N m₀ k1 k2 k3 k4 n₁ : Nat} {ann : Option Value} {env : Env} {fp p1 p2 p3 : Pos}
    (e0 : opening p = plainProg p.main.scope.names) (hN : Nat.ble 600 N = true) (f0 : ∀ s, fenceModules? p s = some s)
    (size : ∀ w : World, ((boot_heap w.params).isNs mainGlobals && (Array.mk ([] : List GenState)).size == 0, (boot_heap w.params).objs.size, (boot_heap w.params).nsMap mainGlobals "__annotations__") = (true, m₀, ann))
    (le : Nat.ble (k1 + (k2 + (k3 + k4))) N = true)
    (h : ∀ w : World, (fun os => (topGo treeTable p w m₀ ann k1 ⟨boot_heap w.params, Array.mk [], boot_drawn, boot_toks, os⟩ (topStub p)).map fun r => (r.2,
        (segRun treeTable p w m₀ ann 1 k2 r.1 (blockOf (behindTheImports p) env (body p env) p1 (base fp))).map fun b => ((b.1, b.2.2, b.2.1.heap.objs.size),
          (segRunT treeTable p w m₀ ann 1 k3 (toT n₁ b.2.1) (piecesOf (behindTheImports p) env (body p env) p2 (base fp))).map fun c => ((c.1, c.2.2),
            (topRun treeTable p w m₀ ann k4 c.2.1.abs ⟨doneF .next, body p env, p3, base fp⟩).map (look p q loose Xt Yf (boot_heap w.params)))))) =
      fun _ => some (⟨denote treeTable (body p env), body p env, p1, base fp⟩, some ((.next, (body p env, p2), n₁), some ((.next, body p env, p3), some (true, openGood q loose, Ya w))))) :
    LeftO p q loose Xt Yf Ya N := fun w => by
  obtain ⟨s0, a0, b0⟩ := Option.map_eq_some_iff.mp (boot_open e0 hN f0 w)
  obtain ⟨hp, gs, d, k, os⟩ := s0
  obtain ⟨z1, z2, z3⟩ : _ ∧ _ ∧ _ := by simpa only [Prod.mk.injEq] using size w
  obtain ⟨⟨s1, t1⟩, h1, e1⟩ := Option.map_eq_some_iff.mp (congrFun (h w) os)
  obtain ⟨rfl, e1⟩ := Prod.mk.inj e1
  obtain ⟨⟨f2, s2, c2, q2⟩, h2, e2⟩ := Option.map_eq_some_iff.mp e1
  obtain ⟨e2, e2'⟩ := Prod.mk.inj e2
  obtain ⟨rfl, e2⟩ := Prod.mk.inj e2
  obtain ⟨e2, hz⟩ := Prod.mk.inj e2
  obtain ⟨rfl, rfl⟩ := Prod.mk.inj e2
  obtain ⟨⟨f3, s3, c3, q3⟩, h3, e3⟩ := Option.map_eq_some_iff.mp e2'
  obtain ⟨e3, e3'⟩ := Prod.mk.inj e3
  obtain ⟨rfl, e3⟩ := Prod.mk.inj e3
  obtain ⟨rfl, rfl⟩ := Prod.mk.inj e3
  obtain ⟨s4, h4, e4⟩ := Option.map_eq_some_iff.mp e3'
  have h3' := segRun_of h3
  rw [toT_abs hz] at h3'
  have h4' : topRun _ p w m₀ ann _ s2 (restOf (behindTheImports p ++ []) env _ _ _) = some s4 := piece_app h3' h4
  rw [List.append_nil] at h4'
  have r := topRun_mono (N - (k1 + (k2 + (k3 + k4)))) _ _ _ _ (go_top h1 (piece_block h2 h4'))
  rw [show k1 + (k2 + (k3 + k4)) + (N - (k1 + (k2 + (k3 + k4)))) = N by simp_all] at r
  obtain ⟨l1, l2⟩ := Prod.mk.inj e4
  have t : topFrom treeTable p w N ⟨boot_heap w.params, Array.mk [], boot_drawn, boot_toks, os⟩ = some s4 := by
    unfold topFrom
    simp_all
  unfold openEnds
  grind
end Hd

/-! The table of a set: where a hash is looked for, and that the first free place is found. -/
namespace ST
open PySem PySem.SetTable
noncomputable def it : Nat → Nat → Nat
  | 0, x => x
  | n + 1, x => it n (5 * x + 1)
theorem it_add : ∀ m n x, it (m + n) x = it n (it m x)
  | 0, n, x => by rw [Nat.zero_add]; rfl
  | m + 1, n, x => by rw [Nat.succ_add]; exact it_add m n _
theorem it_pow (k : Nat) : ∃ a, a % 2 = 1 ∧ ∀ y, it (2 ^ k) y = y + 2 ^ k * a * (4 * y + 1) := by
  induction k with
  | zero => exact ⟨1, rfl, fun y => by show 5 * y + 1 = y + 1 * 1 * (4 * y + 1); omega⟩
  | succ k ih =>
    obtain ⟨a, ha, h⟩ := ih
    refine ⟨a * (1 + 2 ^ (k + 1) * a), ?_, fun y => ?_⟩
    · rw [Nat.mul_mod, ha, Nat.pow_succ, Nat.mul_comm _ 2, Nat.mul_assoc]
      omega
    · rw [Nat.pow_succ, Nat.mul_two, it_add, h]
      grind
theorem reach_mod (k : Nat) : ∀ x j, j < 2 ^ k → ∃ n, n < 2 ^ k ∧ it n x % 2 ^ k = j := by
  induction k with
  | zero => intro x j h; exact ⟨0, by decide, by simp at h; subst h; simp [Nat.mod_one]⟩
  | succ k ih =>
    intro x j h
    have hp  := Nat.two_pow_pos k
    have e : 2 ^ (k + 1) = 2 ^ k * 2 := Nat.pow_succ ..
    obtain ⟨n, hn, hx⟩ := ih x (j % 2 ^ k) (Nat.mod_lt _ hp)
    obtain ⟨a, ha, hi⟩ := it_pow k
    rw [e] at h ⊢
    generalize 2 ^ k = N at *
    have small : ∀ r, r < N * 2 → r % N = if r < N then r else r - N := fun r hr => by
      split
      · exact Nat.mod_eq_of_lt ‹_›
      · rw [Nat.mod_eq_sub_mod (by omega), Nat.mod_eq_of_lt (by omega)]
    have r0 : it n x % (N * 2) < N * 2 := Nat.mod_lt _ (by omega)
    have r1 : it n x % (N * 2) % N = j % N := by rw [Nat.mod_mod_of_dvd _ ⟨2, rfl⟩]; exact hx
    rw [small _ r0, small _ h] at r1
    by_cases c : it n x % (N * 2) = j
    · grind
    · refine ⟨n + N, by omega, ?_⟩
      have odd : ∃ b, a * (4 * it n x + 1) = 2 * b + 1 := by
        obtain ⟨c', rfl⟩ : ∃ c', a = 2 * c' + 1 := ⟨a / 2, by omega⟩
        exact ⟨c' * (4 * it n x + 1) + 2 * it n x, by grind⟩
      obtain ⟨b, hb⟩ := odd
      have e2 : it (n + N) x = it n x + N + N * 2 * b := by
        rw [it_add, hi, Nat.mul_assoc]; grind
      rw [e2, Nat.add_mul_mod_self_left, Nat.add_mod, Nat.mod_eq_of_lt (show N < N * 2 by omega)]
      generalize it n x % (N * 2) = r at *
      split at r1 <;> split at r1
      · omega
      · have : j = r + N := by omega
        rw [this, Nat.mod_eq_of_lt (by omega)]
      · have : r = j + N := by omega
        rw [this, show j + N + N = j + N * 2 by omega, Nat.add_mod_right, Nat.mod_eq_of_lt h]
      · omega

/-! ### the places that are looked at -/
noncomputable def adv (mask : Nat) (p : Probe) : Probe :=
  if p.more > 0 then { p with j := p.j + 1, more := p.more - 1 } else
  { p with j := (leap mask p.i p.perturb).1, more := runEnd mask (leap mask p.i p.perturb).1 - (leap mask p.i p.perturb).1, i := (leap mask p.i p.perturb).1, perturb := (leap mask p.i p.perturb).2 }
theorem advance_eq (t : SetTable) (p : Probe) : t.advance p = adv t.mask p := by
  unfold advance adv
  split <;> rfl
noncomputable def blockAt (mask i perturb : Nat) : Probe := { j := i, more := runEnd mask i - i, i, perturb, dummy := none }
noncomputable def st (mask : Nat) (h : Int) : Probe := blockAt mask (bits h % (mask + 1)) (bits h)
theorem probeStart_eq (t : SetTable) (h : Int) : t.probeStart h = st t.mask h := rfl
noncomputable def itr (mask : Nat) : Nat → Probe → Probe
  | 0, p => p
  | n + 1, p => itr mask n (adv mask p)
theorem itr_succ (mask : Nat) : ∀ n p, itr mask (n + 1) p = adv mask (itr mask n p)
  | 0, _ => rfl
  | n + 1, p => itr_succ mask n (adv mask p)
theorem itr_add (mask : Nat) : ∀ m n p, itr mask (m + n) p = itr mask n (itr mask m p)
  | 0, n, p => by rw [Nat.zero_add]; rfl
  | m + 1, n, p => by rw [Nat.succ_add]; exact itr_add mask m n _
noncomputable def pos (mask : Nat) (h : Int) (n : Nat) : Nat := (itr mask n (st mask h)).j
theorem itr_run (mask : Nat) : ∀ r (p : Probe), r ≤ p.more → itr mask r p = { p with j := p.j + r, more := p.more - r }
  | 0, p, _ => rfl
  | r + 1, p, h => by
    show itr mask r _ = _
    have e : adv mask p = { p with j := p.j + 1, more := p.more - 1 } := by unfold adv; grind
    rw [e, itr_run mask r _ (by grind)]
    grind
theorem more_le (mask i : Nat) : runEnd mask i - i ≤ 9 := by unfold runEnd; grind
theorem itr_block (mask i perturb : Nat) : itr mask (runEnd mask i - i + 1) (blockAt mask i perturb) = blockAt mask (leap mask i perturb).1 (leap mask i perturb).2 := by
  rw [itr_succ, itr_run mask (runEnd mask i - i) (blockAt mask i _) (Nat.le_refl _)]
  unfold adv
  rw [if_neg (by show ¬ (runEnd mask i - i - (runEnd mask i - i) > 0); omega)]
  rfl
noncomputable def bk (mask : Nat) : Nat → Nat × Nat → Nat × Nat
  | 0, x => x
  | m + 1, x => bk mask m (leap mask x.1 x.2)
theorem bk_add (mask : Nat) : ∀ m n x, bk mask (m + n) x = bk mask n (bk mask m x)
  | 0, n, x => by rw [Nat.zero_add]; rfl
  | m + 1, n, x => by rw [Nat.succ_add]; exact bk_add mask m n _
theorem block_at (mask : Nat) : ∀ m i p, ∃ n, n ≤ 10 * m ∧ itr mask n (blockAt mask i p) = blockAt mask (bk mask m (i, p)).1 (bk mask m (i, p)).2
  | 0, i, p => ⟨0, Nat.zero_le _, rfl⟩
  | m + 1, i, p => by
    obtain ⟨n, hn, e⟩ := block_at mask m (leap mask i p).1 (leap mask i p).2
    have h9 := more_le mask i
    refine ⟨runEnd mask i - i + 1 + n, by omega, ?_⟩
    rw [itr_add, itr_block, e]
    rfl
theorem bk_perturb (mask : Nat) : ∀ m i p, (bk mask m (i, p)).2 = p / 32 ^ m
  | 0, i, p => by simp [bk]
  | m + 1, i, p => by
    show (bk mask m _).2 = _
    rw [bk_perturb]
    show p / 32 / 32 ^ m = p / 32 ^ (m + 1)
    rw [Nat.div_div_eq_div_mul, Nat.pow_succ, Nat.mul_comm]
theorem bk_zero (mask : Nat) : ∀ m x, x < mask + 1 → (bk mask m (x, 0)).1 = it m x % (mask + 1)
  | 0, x, h => by show x = x % (mask + 1); rw [Nat.mod_eq_of_lt h]
  | m + 1, x, h => by
    show (bk mask m ((x * 5 + 1 + 0 / 32) % (mask + 1), 0 / 32)).1 = it m _ % (mask + 1)
    rw [bk_zero mask m _ (Nat.mod_lt _ (by omega))]
    have go : ∀ m a b, a % (mask + 1) = b % (mask + 1) → it m a % (mask + 1) = it m b % (mask + 1) := fun m => by
      induction m with
      | zero => intro a b h; exact h
      | succ m ih => intro a b h; exact ih _ _ (by rw [Nat.add_mod, Nat.mul_mod, h, ← Nat.mul_mod, ← Nat.add_mod])
    refine go m _ _ ?_
    rw [Nat.mod_mod, Nat.mul_comm]
theorem bits_lt (h : Int) : bits h < 2 ^ 64 := by unfold bits; omega
theorem covers {mask k : Nat} (hm : mask + 1 = 2 ^ k) (h : Int) {j : Nat} (hj : j ≤ mask) : ∃ n, n < 10 * (mask + 14) ∧ pos mask h n = j := by
  have hp : (bk mask 13 (bits h % (mask + 1), bits h)).2 = 0 := by
    rw [bk_perturb]
    refine Nat.div_eq_of_lt (Nat.lt_of_lt_of_le (bits_lt h) (by decide))
  have hlt : (bk mask 13 (bits h % (mask + 1), bits h)).1 < mask + 1 := by
    exact Nat.mod_lt _ (by omega)
  generalize hX : bk mask 13 _ = X at hp hlt
  obtain ⟨x, p⟩ := X
  subst hp
  obtain ⟨n, hn, e⟩ := reach_mod k x j (by omega)
  rw [← hm] at hn e
  obtain ⟨m, hm', em⟩ := block_at mask (13 + n) (bits h % (mask + 1)) (bits h)
  refine ⟨m, by omega, ?_⟩
  show (itr mask m _).j = j
  unfold st
  rw [em, bk_add, hX]
  show (bk mask n _).1 = j
  rw [bk_zero _ _ _ hlt, e]
theorem least {P : Nat → Prop} : ∀ b, (∃ n, n < b ∧ P n) → ∃ n, n < b ∧ P n ∧ ∀ m, m < n → ¬ P m
  | 0, ⟨_, h, _⟩ => absurd h (Nat.not_lt_zero _)
  | b + 1, ⟨n, hn, hp⟩ => by
    rcases Classical.em (∃ n, n < b ∧ P n) with c | c
    · obtain ⟨m, h1, h2, h3⟩ := least b c
      grind
    grind
theorem first_free {mask k : Nat} (hm : mask + 1 = 2 ^ k) (h : Int) {occ : List Nat} (ho : ∃ j, j ≤ mask ∧ j ∉ occ) : ∃ n, n < 10 * (mask + 14) ∧ pos mask h n ∉ occ ∧ ∀ m, m < n → pos mask h m ∈ occ := by
  obtain ⟨j, hj, hn⟩ := ho
  obtain ⟨n, h1, h2⟩ := covers hm h hj
  obtain ⟨m, a, b, c⟩ := least (P := fun n => pos mask h n ∉ occ) _ ⟨n, h1, by simp_all⟩
  exact ⟨m, a, b, fun q hq => Classical.byContradiction fun z => c q hq z⟩
theorem pos_le (mask : Nat) (h : Int) : ∀ n, pos mask h n ≤ mask ∧ (itr mask n (st mask h)).j + (itr mask n (st mask h)).more ≤ mask
  | 0 => by
    have h1 : bits h % (mask + 1) < mask + 1 := Nat.mod_lt _ (by omega)
    refine ⟨by show bits h % (mask + 1) ≤ mask; omega, ?_⟩
    show bits h % (mask + 1) + (runEnd mask _ - bits h % (mask + 1)) ≤ mask
    unfold runEnd; grind
  | n + 1 => by
    obtain ⟨_, ih⟩ := pos_le mask h n
    unfold pos
    rw [itr_succ]
    generalize itr mask n _ = p at *
    unfold adv
    split
    · lia
    · have h1 : (leap mask p.i p.perturb).1 < mask + 1 := Nat.mod_lt _ (by omega)
      unfold runEnd; grind
theorem itr_dummy (mask : Nat) (h : Int) : ∀ n, (itr mask n (st mask h)).dummy = none
  | 0 => rfl
  | n + 1 => by
    rw [itr_succ]
    have ih := itr_dummy mask h n
    unfold adv
    split <;> exact ih
end ST

namespace ST
open PySem PySem.SetTable
def Ris (xs : List Nat) : Prop := xs.Pairwise (· < ·)
theorem Ris.get {xs : Array Nat} (hr : Ris xs.toList) {i j : Nat} (hi : i < xs.size) (hj : j < xs.size) (h : i < j) : xs[i] < xs[j] := by
  have := List.pairwise_iff_getElem.mp hr i j (by simp_all) (by simp_all) h
  assumption
theorem Ris.get_le {xs : Array Nat} (hr : Ris xs.toList) {i j : Nat} (hi : i < xs.size) (hj : j < xs.size) (h : i ≤ j) : xs[i] ≤ xs[j] := by
  rcases Nat.lt_or_ge i j with c | c
  · exact Nat.le_of_lt (hr.get hi hj c)
  grind
def Split (xs : Array Nat) (j r : Nat) : Prop := r ≤ xs.size ∧ (∀ i (h : i < xs.size), i < r → xs[i] < j) ∧ ∀ i (h : i < xs.size), r ≤ i → j ≤ xs[i]
theorem below_go {xs : Array Nat} (hr : Ris xs.toList) (j : Nat) : ∀ fuel lo hi, lo ≤ hi → hi ≤ xs.size → hi - lo ≤ fuel → (∀ i (h : i < xs.size), i < lo → xs[i] < j) → (∀ i (h : i < xs.size), hi ≤ i → j ≤ xs[i]) → Split xs j (below.go xs j fuel lo hi)
  | 0, lo, hi, h1, h2, h3, a, b => by
    have : lo = hi := by omega
    subst this
    exact ⟨h2, a, b⟩
  | fuel + 1, lo, hi, h1, h2, h3, a, b => by
    unfold below.go
    by_cases c : lo < hi
    · rw [if_pos c]
      dsimp only
      have hm : (lo + hi) / 2 < xs.size := by omega
      rw [show xs.getD _ j = xs[(lo + hi) / 2] by simp [Array.getD, hm]]
      by_cases d : xs[(lo + hi) / 2] < j
      · rw [if_pos d]
        exact below_go hr j fuel _ _ (by omega) h2 (by omega) (fun i h q => Nat.lt_of_le_of_lt (hr.get_le h hm (by omega)) d) b
      · rw [if_neg d]
        exact below_go hr j fuel _ _ (by omega) (by omega) (by omega) a (fun i h q => Nat.le_trans (by omega) (hr.get_le hm h q))
    · rw [if_neg c]
      have : lo = hi := by omega
      subst this
      exact ⟨h2, a, b⟩
theorem below_spec {xs : Array Nat} (hr : Ris xs.toList) (j : Nat) : Split xs j (below xs j) :=
  below_go hr j _ _ _ (Nat.zero_le _) (Nat.le_refl _) (by omega) (fun i h q => absurd q (Nat.not_lt_zero _)) (fun i h q => absurd h (by omega))
theorem below_at {xs : Array Nat} (hr : Ris xs.toList) {i j : Nat} (h : xs[i]? = some j) : below xs j = i := by
  obtain ⟨hi, e⟩ := Array.getElem?_eq_some_iff.mp h
  obtain ⟨h1, h2, h3⟩ := below_spec hr j
  rcases Nat.lt_trichotomy (below xs j) i with c | c | c
  · have := h3 _ (by omega) (Nat.le_refl _)
    have := hr.get (by omega) hi c
    omega
  · exact c
  · have := h2 i hi c
    omega
theorem slot_live {t : SetTable} (hr : Ris t.place.toList) {i j : Nat} (h : t.place[i]? = some j) : t.slot j = .live i := by
  unfold SetTable.slot
  dsimp only
  rw [below_at hr h, h]
  simp
theorem slot_empty {t : SetTable} (hd : t.dummies = #[]) {j : Nat} (h : j ∉ t.place.toList) : t.slot j = .empty := by
  unfold SetTable.slot
  dsimp only
  have e : (t.place[SetTable.below t.place j]? == some j) = false := by
    rw [beq_eq_false_iff_ne]
    intro q
    obtain ⟨hi, e⟩ := Array.getElem?_eq_some_iff.mp q
    exact h (by rw [← e]; simp)
  rw [e, hd]
  simp [has]
theorem slot_mem {t : SetTable} (hr : Ris t.place.toList) {j : Nat} (h : j ∈ t.place.toList) : ∃ i, t.place[i]? = some j ∧ t.slot j = .live i := by
  obtain ⟨i, hi, e⟩ := List.getElem_of_mem h
  have : t.place[i]? = some j := by rw [← Array.getElem?_toList, List.getElem?_eq_getElem hi, e]
  exact ⟨i, this, slot_live hr this⟩
theorem pigeon : ∀ (n : Nat) (xs : List Nat), (∀ j, j < n → j ∈ xs) → n ≤ xs.length
  | 0, _, _ => Nat.zero_le _
  | n + 1, xs, h => by
    have := pigeon n (xs.erase n) fun j hj => (List.mem_erase_of_ne (by omega)).mpr (h j (by omega))
    grind
theorem some_free {mask : Nat} {xs : List Nat} (h : xs.length ≤ mask) : ∃ j, j ≤ mask ∧ j ∉ xs := by
  refine Classical.byContradiction fun c => ?_
  have := pigeon (mask + 1) xs fun j hj => Classical.byContradiction fun q => c ⟨j, by omega, q⟩
  omega
structure Good (t : SetTable) (hs : List Int) : Prop where
  pw : ∃ k, 3 ≤ k ∧ t.mask + 1 = 2 ^ k
  dum : t.dummies = #[]
  ris : Ris t.place.toList
  le : ∀ j ∈ t.place.toList, j ≤ t.mask
  len : t.place.size = hs.length
  room : t.place.size ≤ t.mask
  reach : ∀ x ∈ t.place.toList.zip hs, ∃ q, pos t.mask x.2 q = x.1 ∧ ∀ m, m < q → pos t.mask x.2 m ∈ t.place.toList
theorem Good.free {t : SetTable} {hs : List Int} (g : Good t hs) (h : Int) : ∃ n, n < 10 * (t.mask + 14) ∧ pos t.mask h n ∉ t.place.toList ∧ ∀ m, m < n → pos t.mask h m ∈ t.place.toList := by
  obtain ⟨k, _, hk⟩ := g.pw
  exact first_free hk h (some_free (by exact g.room))
theorem Good.odd {t : SetTable} {hs : List Int} (g : Good t hs) : t.gaveWay = false := by
  obtain ⟨k, h3, hk⟩ := g.pw
  unfold SetTable.gaveWay
  grind
theorem Good.fits {t : SetTable} {hs : List Int} (g : Good t hs) : t.fits hs.length = true := by
  unfold SetTable.fits SetTable.fill
  rw [g.dum, g.len]
  have := g.room
  rw [g.len] at this
  simp [this]
theorem probe_go {t : SetTable} {hs : List Int} (g : Good t hs) (h : Int) {N : Nat} (hN : pos t.mask h N ∉ t.place.toList) (hO : ∀ m, m < N → pos t.mask h m ∈ t.place.toList) (hashAt : Nat → Int) :
    ∀ fuel q, q ≤ N → N - q < fuel →
      (probe.go t hashAt h fuel (itr t.mask q (st t.mask h)) = some (.empty (pos t.mask h N) none) ∧ ∀ m i, q ≤ m → m < N → t.slot (pos t.mask h m) = .live i → hashAt i ≠ h) ∨
      ∃ m i, q ≤ m ∧ m < N ∧ t.slot (pos t.mask h m) = .live i ∧ hashAt i = h ∧ probe.go t hashAt h fuel (itr t.mask q (st t.mask h)) = some (.candidate (pos t.mask h m) i (itr t.mask (m + 1) (st t.mask h))) ∧
        ∀ m' i, q ≤ m' → m' < m → t.slot (pos t.mask h m') = .live i → hashAt i ≠ h
  | 0, q, h1, h2 => absurd h2 (Nat.not_lt_zero _)
  | fuel + 1, q, h1, h2 => by
    unfold probe.go
    by_cases e : q = N
    · subst e
      rw [show t.slot (itr _ q (st _ h)).j = .empty from slot_empty g.dum hN]
      refine .inl ⟨?_, fun m i a b => absurd b (by omega)⟩
      rw [itr_dummy]; rfl
    · obtain ⟨i, hi, hs'⟩ := slot_mem g.ris (hO q (by omega))
      rw [show t.slot (itr _ q (st _ h)).j = .live i from hs']
      dsimp only
      rw [show t.advance (itr _ q (st _ h)) = itr _ _ (st _ h) by rw [advance_eq, ← itr_succ]]
      by_cases c : hashAt i = h
      · rw [if_pos (by rw [c]; exact beq_self_eq_true h)]
        exact .inr ⟨q, i, Nat.le_refl _, by omega, hs', c, rfl, fun m' i a b => absurd b (by omega)⟩
      · rw [if_neg (by simpa using c)]
        rcases probe_go g h hN hO hashAt fuel (q + 1) (by omega) (by omega) with ⟨a, b⟩ | ⟨m, i', a1, a2, a3, a4, a5, a6⟩
        · refine .inl ⟨a, fun m i' h1' h2' h3' => ?_⟩
          by_cases z : m = q
          · subst z; rw [hs'] at h3'; cases h3'; exact c
          · exact b m i' (by omega) h2' h3'
        · refine .inr ⟨m, i', by omega, a2, a3, a4, a5, fun m' i'' h1' h2' h3' => ?_⟩
          by_cases z : m' = q
          · subst z; rw [hs'] at h3'; cases h3'; exact c
          · exact a6 m' i'' (by omega) h2' h3'
/-! ### one more -/
theorem toList_insertAt {α : Type} (xs : Array α) (p : Nat) (x : α) : (insertAt xs p x).toList = xs.toList.take p ++ x :: xs.toList.drop p := by
  unfold insertAt
  simp [List.take_of_length_le]
theorem ris_insert {xs : Array Nat} (hr : Ris xs.toList) {j : Nat} (hn : j ∉ xs.toList) : Ris (insertAt xs (below xs j) j).toList := by
  obtain ⟨h1, h2, h3⟩ := below_spec hr j
  rw [toList_insertAt]
  unfold Ris at *
  have low : ∀ a ∈ xs.toList.take (below xs j), a < j := fun a ha => by
    obtain ⟨i, hi, e⟩ := List.getElem_of_mem ha
    grind
  have high : ∀ a ∈ xs.toList.drop (below xs j), j < a := fun a ha => by
    obtain ⟨i, hi, e⟩ := List.getElem_of_mem ha
    grind
  rw [List.pairwise_append]
  refine ⟨hr.sublist (List.take_sublist _ _), ?_, fun a ha b hb => ?_⟩
  · rw [List.pairwise_cons]
    grind
  grind
noncomputable def insL {α : Type} (xs : List α) (p : Nat) (x : α) : List α := xs.take p ++ x :: xs.drop p
theorem insL_perm {α : Type} (xs : List α) (p : Nat) (x : α) : (insL xs p x).Perm (x :: xs) := by
  refine List.perm_middle.trans ?_
  simp
theorem zip_insL {α β : Type} {xs : List α} {ys : List β} (h : xs.length = ys.length) (p : Nat) (x : α) (y : β) : (insL xs p x).zip (insL ys p y) = insL (xs.zip ys) p (x, y) := by
  unfold insL
  rw [List.zip_append (by simp [h]), List.zip_cons_cons]
  simp only [List.zip, List.take_zipWith, List.drop_zipWith]
theorem Good.put {t : SetTable} {hs : List Int} (g : Good t hs) {h : Int} {n : Nat} (hn : pos t.mask h n ∉ t.place.toList) (ho : ∀ m, m < n → pos t.mask h m ∈ t.place.toList) (hr : t.place.size < t.mask) (pl : Bool) :
    Good { (t.put (pos t.mask h n)).1 with plain := pl } (insL hs (below t.place (pos t.mask h n)) h) := by
  have hl : t.place.toList.length = hs.length := by exact g.len
  have e : (insertAt _ (below _ (pos _ h n)) (pos _ h n)).toList = insL t.place.toList (below t.place (pos t.mask h n)) (pos t.mask h n) := toList_insertAt _ _ _
  have mem : ∀ a, a ∈ (insertAt _ (below _ (pos _ h n)) (pos _ h n)).toList ↔ a = pos _ h n ∨ a ∈ t.place.toList := fun a => by
    rw [e, (insL_perm _ _ _).mem_iff, List.mem_cons]
  have ln : (insertAt t.place (below t.place (pos t.mask h n)) (pos t.mask h n)).size = t.place.size + 1 := by
    rw [← Array.length_toList, e, (insL_perm _ _ _).length_eq, List.length_cons, Array.length_toList]
  refine ⟨g.pw, ?_, ris_insert g.ris hn, fun j hj => ?_, ?_, ?_, fun x hx => ?_⟩
  · show (if has _ (pos _ h n) = true then eraseAt _ (below _ (pos _ h n)) else t.dummies) = #[]
    rw [g.dum]; simp [has]
  · rcases (mem j).mp hj with rfl | q
    · exact (pos_le _ _ _).1
    · exact g.le j q
  · show (insertAt _ _ _).size = _
    rw [ln, (insL_perm _ _ _).length_eq, List.length_cons, g.len]
  · show (insertAt _ _ _).size ≤ t.mask
    rw [ln]; exact hr
  · have hx' : x ∈ (insertAt _ (below _ (pos _ h n)) (pos _ h n)).toList.zip (insL hs (below _ (pos _ h n)) h) := hx
    rw [e, zip_insL hl, (insL_perm _ _ _).mem_iff, List.mem_cons] at hx'
    rcases hx' with rfl | q
    · exact ⟨n, rfl, fun m hm => (mem _).mpr (.inr (ho m hm))⟩
    · obtain ⟨q', a, b⟩ := g.reach x q
      exact ⟨q', a, fun m hm => (mem _).mpr (.inr (b m hm))⟩
end ST

namespace ST
open PySem PySem.SetTable
/-! ### all laid anew -/
noncomputable abbrev Ow := Array (Option Nat)
noncomputable def taken (o : Ow) : List Nat := (List.range o.size).filter fun j => (o.getD j none).isSome
theorem mem_taken {o : Ow} {j : Nat} : j ∈ taken o ↔ ∃ i, o[j]? = some (some i) := by
  unfold taken
  rw [List.mem_filter, List.mem_range]
  constructor
  · rintro ⟨h1, h2⟩
    have e : o.getD j none = o[j] := by simp [Array.getD, h1]
    rw [e] at h2
    obtain ⟨i, hi⟩ := Option.isSome_iff_exists.mp h2
    exact ⟨i, by rw [Array.getElem?_eq_getElem h1, hi]⟩
  · rintro ⟨i, hi⟩
    obtain ⟨h1, e⟩ := Array.getElem?_eq_some_iff.mp hi
    refine ⟨h1, ?_⟩
    simp [Array.getD, h1, e]
theorem free_test {o : Ow} {j : Nat} (h : j < o.size) : ((o.getD j (some 0)).isNone = true ↔ j ∉ taken o) := by
  rw [mem_taken]
  have e : o.getD j (some 0) = o[j] := by simp [Array.getD, h]
  rw [e, Array.getElem?_eq_getElem h]
  cases o[j] <;> simp
theorem free_go {mask : Nat} {o : Ow} (hsz : o.size = mask + 1) (h : Int) : ∀ m fuel i p n, m < fuel → i ≤ mask → itr mask n (st mask h) = blockAt mask i p → (bk mask m (i, p)).1 ∉ taken o →
    ∃ N, n ≤ N ∧ layClean.free mask o fuel i p = some (pos mask h N) ∧ pos mask h N ∉ taken o ∧ ∀ q, n ≤ q → q < N → pos mask h q ∈ taken o
  | m, 0, i, p, n, hf, hi, hn, hb => absurd hf (Nat.not_lt_zero _)
  | m, fuel + 1, i, p, n, hf, hi, hn, hb => by
    have hrun : ∀ k, k ≤ runEnd mask i - i → pos mask h _ = i + k := fun k hk => by
      show (itr mask _ _).j = i + k
      rw [itr_add, hn, itr_run mask k _ hk]
      rfl
    have hre : i ≤ runEnd mask i ∧ runEnd mask i ≤ mask := by unfold runEnd; grind
    have ht : ∀ k, k ≤ runEnd mask i - i → ((o.getD _ _).isNone = true ↔ pos mask h _ ∉ taken o) := fun k hk => by
      rw [hrun k hk]; exact free_test (by omega)
    unfold layClean.free
    cases hf' : (List.range _).find? fun k => (o.getD _ _).isNone with
    | some k =>
      obtain ⟨a, b, c⟩ := List.find?_range_eq_some.mp hf'
      rw [List.mem_range] at b
      refine ⟨n + k, by omega, ?_, (ht k (by omega)).mp a, fun q h1 h2 => ?_⟩
      · rw [hrun k (by omega)]
      · have d := c (q - n) (by omega)
        have z := ht (q - n) (by omega)
        rw [show n + (q - n) = q by omega] at z
        refine Classical.byContradiction fun y => ?_
        rw [z.mpr y] at d
        cases d
    | none =>
      have all : ∀ k, k ≤ runEnd mask i - i → pos mask h _ ∈ taken o := fun k hk => by
        have d := List.find?_range_eq_none.mp hf' k (by omega)
        have z := ht k hk
        refine Classical.byContradiction fun y => ?_
        rw [z.mpr y] at d
        cases d
      cases m with
      | zero =>
        have := all 0 (Nat.zero_le _)
        rw [hrun 0 (Nat.zero_le _)] at this
        exact absurd this hb
      | succ m =>
        have hl : (leap mask i p).1 ≤ mask := Nat.le_of_lt_succ (Nat.mod_lt _ (by omega))
        obtain ⟨N, a, b, c, d⟩ := free_go hsz h m fuel _ (leap mask i p).2 _ (by omega) hl (by rw [itr_add, hn, itr_block]) hb
        refine ⟨N, by omega, b, c, fun q h1 h2 => ?_⟩
        by_cases z : q < n + (runEnd mask i - i + 1)
        · have := all (q - n) (by omega)
          simp_all
        · exact d q (by omega) h2
theorem covers_bk {mask k : Nat} (hm : mask + 1 = 2 ^ k) (h : Int) {j : Nat} (hj : j ≤ mask) : ∃ m, m < mask + 15 ∧ (bk mask m (bits h % (mask + 1), bits h)).1 = j := by
  have hp : (bk mask 13 (bits h % (mask + 1), bits h)).2 = 0 := by
    rw [bk_perturb]
    refine Nat.div_eq_of_lt (Nat.lt_of_lt_of_le (bits_lt h) (by decide))
  have hlt : (bk mask 13 (bits h % (mask + 1), bits h)).1 < mask + 1 := by
    exact Nat.mod_lt _ (by omega)
  generalize hX : bk mask 13 _ = X at hp hlt
  obtain ⟨x, p⟩ := X
  subst hp
  obtain ⟨n, hn, e⟩ := reach_mod k x j (by omega)
  rw [← hm] at hn e
  refine ⟨13 + n, by omega, ?_⟩
  rw [bk_add, hX]
  rw [bk_zero _ _ _ hlt, e]
theorem free_some {mask k : Nat} (hm : mask + 1 = 2 ^ k) {o : Ow} (hsz : o.size = mask + 1) (ho : ∃ j, j ≤ mask ∧ j ∉ taken o) (h : Int) :
    ∃ N, layClean.free mask o (turns mask) (bits h % (mask + 1)) (bits h) = some (pos mask h N) ∧ pos mask h N ∉ taken o ∧ ∀ q, q < N → pos mask h q ∈ taken o := by
  obtain ⟨j, hj, hn⟩ := ho
  obtain ⟨m, h1, h2⟩ := covers_bk hm h hj
  obtain ⟨N, _, b, c, d⟩ := free_go hsz h m (turns mask) _ _ 0 (by assumption) (Nat.le_of_lt_succ (Nat.mod_lt _ (by omega))) rfl (by rw [h2]; exact hn)
  exact ⟨N, b, c, fun q hq => d q (Nat.zero_le _) hq⟩
structure Laid (mask : Nat) (hs : List Int) (o : Ow) (n : Nat) : Prop where
  sz : o.size = mask + 1
  lt : ∀ j i : Nat, o[j]? = some (some i) → i < n
  all : ∀ i, i < n → ∃ j : Nat, o[j]? = some (some i)
  inj : ∀ j j' i : Nat, o[j]? = some (some i) → o[j']? = some (some i) → j = j'
  reach : ∀ (j i : Nat) (h : Int), o[j]? = some (some i) → hs[i]? = some h → ∃ q, pos mask h q = j ∧ ∀ m, m < q → pos mask h m ∈ taken o
theorem taken_length {mask : Nat} {hs : List Int} {o : Ow} {n : Nat} (L : Laid mask hs o n) : (taken o).length ≤ n := by
  -- an injective list of owners
  have hnd : (taken o).Nodup := List.Nodup.sublist List.filter_sublist List.nodup_range
  have key : ∀ (l : List Nat) (n : Nat), l.Nodup → (∀ j ∈ l, ∃ i : Nat, i < n ∧ o[j]? = some (some i)) → l.length ≤ n := by
    intro l
    induction l with
    | nil => intro n _ _; exact Nat.zero_le _
    | cons a r ih =>
      intro n hd hl
      have own : ∀ j ∈ a :: r, ∃ i : Nat, i < n ∧ o[j]? = some _ := hl
      let f : Nat → Nat := fun j => match o[j]? with | some (some i) => i | _ => 0
      have hf : ∀ j ∈ a :: r, o[j]? = some (some (f j)) := fun j hj => by
        obtain ⟨i, _, e⟩ := own j hj
        show o[j]? = some (some (match o[j]? with | some (some i) => i | _ => 0))
        rw [e]
      have h1 : ((a :: r).map f).Nodup := by
        rw [List.nodup_iff_pairwise_ne, List.pairwise_map]
        refine List.Pairwise.imp_of_mem (fun {x y} hx hy hne e => hne ?_) (List.nodup_iff_pairwise_ne.mp hd)
        exact L.inj x y _ (hf x hx) (by rw [e]; exact hf y hy)
      have h2 : ∀ i ∈ (a :: r).map f, i < n := fun i hi => by
        obtain ⟨j, hj, rfl⟩ := List.mem_map.mp hi
        obtain ⟨i', h, e⟩ := own j hj
        have := hf j hj
        rw [e] at this; cases this; exact h
      have p  := List.Nodup.length_le_of_subset h1 fun i hi => List.mem_range.mpr (h2 i hi)
      rwa [List.length_map, List.length_range] at p
  exact key _ n hnd fun j hj => let ⟨i, e⟩ := mem_taken.mp hj; ⟨i, L.lt j i e, e⟩
end ST

namespace ST
open PySem PySem.SetTable
theorem taken_set {o : Ow} {j n : Nat} (hj : j < o.size) (a : Nat) : a ∈ taken (o.setIfInBounds j (some n)) ↔ a = j ∨ a ∈ taken o := by
  rw [mem_taken, mem_taken]
  by_cases e : a = j
  · subst e
    simp [Array.getElem?_setIfInBounds, hj]
  · have : (o.setIfInBounds j (some n))[a]? = o[a]? := by rw [Array.getElem?_setIfInBounds, if_neg (fun h => e h.symm)]
    rw [this]; simp [e]
theorem Laid.more {mask k : Nat} {hs : List Int} {o : Ow} {n : Nat} (hm : mask + 1 = 2 ^ k) (L : Laid mask hs o n) (hn : n ≤ mask) {h : Int} (hh : hs[n]? = some h) :
    ∃ j, layClean.free mask o (turns mask) (bits h % (mask + 1)) (bits h) = some j ∧ Laid mask hs (o.setIfInBounds j (some n)) (n + 1) := by
  obtain ⟨N, a, b, c⟩ := free_some hm L.sz (some_free (Nat.le_trans (taken_length L) hn)) h
  have hj : pos mask h N < o.size := by rw [L.sz]; exact Nat.lt_succ_of_le (pos_le mask h N).1
  refine ⟨_, a, ?_⟩
  generalize hJ : pos mask h N = J at *
  have at_ : ∀ x i , (o.setIfInBounds J (some n))[x]? = some (some i) → (x = J ∧ i = n) ∨ (x ≠ J ∧ o[x]? = some _) := fun x i e => by
    rw [Array.getElem?_setIfInBounds] at e
    by_cases z : J = x
    · subst z
      rw [if_pos rfl, if_pos hj] at e
      cases e; exact .inl ⟨rfl, rfl⟩
    · rw [if_neg z] at e
      exact .inr ⟨fun q => z q.symm, e⟩
  have hJf : ∀ i, o[J]? ≠ some _ := fun i e => b (mem_taken.mpr ⟨i, e⟩)
  refine ⟨by rw [Array.size_setIfInBounds]; exact L.sz, fun x i e => ?_, fun i hi => ?_, fun x y i e1 e2 => ?_, fun x i h' e1 e2 => ?_⟩
  · rcases at_ x i e with ⟨_, rfl⟩ | ⟨_, e⟩
    · exact Nat.lt_succ_self _
    · exact Nat.lt_succ_of_lt (L.lt x i e)
  · by_cases z : i = n
    · grind
    · obtain ⟨x, e⟩ := L.all i (by omega)
      refine ⟨x, ?_⟩
      rw [Array.getElem?_setIfInBounds, if_neg (fun q => by subst q; exact hJf i e)]
      exact e
  · rcases at_ x i e1 with ⟨rfl, rfl⟩ | ⟨n1, f1⟩
    · rcases at_ y i e2 with ⟨rfl, _⟩ | ⟨n2, e2⟩
      · rfl
      · exact absurd (L.lt y i e2) (Nat.lt_irrefl _)
    · rcases at_ y i e2 with ⟨rfl, rfl⟩ | ⟨n2, f2⟩
      · exact absurd (L.lt x i f1) (Nat.lt_irrefl _)
      · exact L.inj x y i f1 f2
  · rcases at_ x i e1 with ⟨rfl, rfl⟩ | ⟨n1, e1⟩
    · rw [hh] at e2; cases e2
      exact ⟨N, hJ, fun m hm => (taken_set hj _).mpr (.inr (c m hm))⟩
    · obtain ⟨q, q1, q2⟩ := L.reach x i h' e1 e2
      exact ⟨q, q1, fun m hm => (taken_set hj _).mpr (.inr (q2 m hm))⟩
theorem layClean_fold {mask k : Nat} (hm : mask + 1 = 2 ^ k) {hs : List Int} (hl : hs.length ≤ mask + 1) : ∀ (rest pre : List Int) (o : Ow), hs = pre ++ rest → Laid mask hs o pre.length →
    ∃ o', rest.foldl (fun acc h => do let (owner, k) ← acc; let j ← layClean.free mask owner (turns mask) (bits h % (mask + 1)) (bits h); pure (owner.setIfInBounds j (some k), k + 1)) (some (o, pre.length)) = some (o', hs.length) ∧ Laid mask hs o' hs.length
  | [], pre, o, e, L => by
    rw [List.append_nil] at e; subst e
    exact ⟨o, rfl, L⟩
  | h :: rest, pre, o, e, L => by
    have hh : hs[pre.length]? = some h := by rw [e]; simp
    have hlen : pre.length ≤ mask := by
      grind
    obtain ⟨j, a, b⟩ := L.more hm hlen hh
    obtain ⟨o', c, d⟩ := layClean_fold hm hl rest (pre ++ [h]) (o.setIfInBounds j (some _)) (by simp_all) (by rw [List.length_append]; exact b)
    refine ⟨o', ?_, d⟩
    rw [List.foldl_cons, ← c]
    congr 1
    show (do let j ← layClean.free mask o (turns mask) (bits h % (mask + 1)) (bits h); pure (o.setIfInBounds j (some pre.length), pre.length + 1)) = _
    rw [a, List.length_append]
    rfl
theorem layClean_some {mask k : Nat} (hm : mask + 1 = 2 ^ k) {hs : Array Int} (hl : hs.size ≤ mask + 1) : ∃ o, layClean mask hs = some o ∧ Laid mask hs.toList o hs.size := by
  have L0 : Laid mask hs.toList (Array.replicate (mask + 1) none) _ :=
    ⟨by simp, fun j i e => by
      rw [Array.getElem?_replicate] at e
      simp_all, fun i hi => absurd hi (Nat.not_lt_zero _), fun j j' i e => by
      rw [Array.getElem?_replicate] at e
      simp_all, fun j i h e => by
      rw [Array.getElem?_replicate] at e
      simp_all⟩
  obtain ⟨o, a, b⟩ := layClean_fold hm (by assumption) _ [] _ rfl L0
  unfold layClean
  grind
theorem sizeAbove_go (w : Nat) : ∀ fuel k, w < 2 ^ fuel * 2 ^ k → ∃ k', k ≤ k' ∧ sizeAbove.go w fuel (2 ^ k) = 2 ^ k' ∧ w < 2 ^ k' ∧ (2 ^ k' = 2 ^ k ∨ 2 ^ k' ≤ 2 * w)
  | 0, k, h => ⟨k, Nat.le_refl _, rfl, by simpa using h, .inl rfl⟩
  | fuel + 1, k, h => by
    unfold sizeAbove.go
    by_cases c : 2 ^ k ≤ w
    · obtain ⟨k', a, b, d, e⟩ := sizeAbove_go w fuel _ (by rw [Nat.pow_succ] at h ⊢; rw [Nat.mul_comm (2 ^ k) 2, ← Nat.mul_assoc]; exact h)
      grind
    grind
theorem sizeAbove_spec {w : Nat} (h : w < 2 ^ 60) : ∃ k, 3 ≤ k ∧ sizeAbove w = 2 ^ k ∧ w < 2 ^ k ∧ (2 ^ k = 8 ∨ 2 ^ k ≤ 2 * w) :=
  sizeAbove_go w 64 3 (Nat.lt_of_lt_of_le h (by decide))
noncomputable def liveOf (mask : Nat) (o : Ow) : List (Nat × Nat) := (List.range (mask + 1)).filterMap fun j => (o.getD j none).map (j, ·)
theorem mem_live {mask : Nat} {o : Ow} (hs : o.size = mask + 1) {j i : Nat} : (j, i) ∈ liveOf mask o ↔ o[j]? = some (some i) := by
  unfold liveOf
  rw [List.mem_filterMap]
  constructor
  · rintro ⟨a, ha, e⟩
    rw [List.mem_range] at ha
    have g : o.getD a none = o[a] := by simp [show a < o.size by omega]
    rw [Option.map_eq_some_iff] at e
    grind
  · intro e
    obtain ⟨h1, e1⟩ := Array.getElem?_eq_some_iff.mp e
    refine ⟨j, List.mem_range.mpr (by omega), ?_⟩
    simp_all
theorem live_ris (mask : Nat) (o : Ow) : Ris ((liveOf mask o).map (·.1)) := by
  have key : ∀ l : List Nat, l.Pairwise (· < ·) → ((l.filterMap fun j => (o.getD j none).map (j, ·)).map (·.1)).Pairwise (· < ·) ∧ ∀ x ∈ (l.filterMap fun j => (o.getD j none).map (j, ·)).map (·.1), x ∈ l := by
    intro l
    induction l with
    | nil => simp
    | cons a r ih =>
      intro h
      rw [List.pairwise_cons] at h
      obtain ⟨p, q⟩ := ih h.2
      rw [List.filterMap_cons]
      cases hc : (o.getD a none).map _ with
      | none => exact ⟨p, fun x hx => List.mem_cons_of_mem _ (q x hx)⟩
      | some y =>
        rw [Option.map_eq_some_iff] at hc
        rw [List.map_cons, List.pairwise_cons]
        grind
  exact (key _ List.pairwise_lt_range).1
theorem range_picks {α : Type} (l : List α) : (List.range l.length).filterMap (fun i => l[i]?) = l := by
  induction l with
  | nil => rfl
  | cons a r ih =>
    rw [List.length_cons, List.range_succ_eq_map, List.filterMap_cons]
    simp only [List.getElem?_cons_zero, List.filterMap_map]
    congr 1
theorem laid_good2 {mask k : Nat} (h3 : 3 ≤ k) (hm : mask + 1 = 2 ^ k) {es : Array (Int × Value)} (hl : es.size ≤ mask) (f mv : Nat) (ld pl : Bool) :
    ∃ t order, laid mask f mv ld pl (es.map (·.1)) = some (t, order) ∧ t.mask = mask ∧ t.led = ld ∧ t.plain = pl ∧ order.toList.Perm (List.range es.size) ∧ List.Perm (order.filterMap (es[·]?)).toList es.toList ∧ Good t ((order.filterMap (es[·]?)).toList.map (·.1)) := by
  obtain ⟨o, a, L⟩ := layClean_some hm (hs := es.map (·.1)) (by grind)
  rw [Array.size_map] at L
  have hord : ((liveOf mask o).map (·.2)).Nodup := by
    rw [List.nodup_iff_pairwise_ne, List.pairwise_map]
    have hp : (liveOf mask o).Pairwise _ := List.pairwise_map.mp (live_ris mask o)
    refine List.Pairwise.imp_of_mem (fun {x y} hx hy hlt e => ?_) hp
    have e1 := (mem_live L.sz).mp hx
    have e2 := (mem_live L.sz).mp hy
    rw [← e] at e2
    have := L.inj _ _ _ e1 e2
    omega
  have hperm : List.Perm ((liveOf mask o).map (·.2)) (List.range es.size) := by
    refine (List.perm_ext_iff_of_nodup hord List.nodup_range).mpr fun i => ?_
    rw [List.mem_map, List.mem_range]
    constructor
    · rintro ⟨x, hx, rfl⟩
      exact L.lt _ _ ((mem_live L.sz).mp hx)
    · intro hi
      obtain ⟨j, e⟩ := L.all i hi
      exact ⟨(j, i), (mem_live L.sz).mpr e, rfl⟩
  refine ⟨{ mask, place := ((liveOf mask o).map (·.1)).toArray, dummies := #[], finger := f, led := ld, moves := mv, plain := pl }, ((liveOf mask o).map _).toArray, ?_, rfl, rfl, rfl, by simpa using hperm, ?_, ?_⟩
  · unfold laid
    rw [a]
    rfl
  · have e : ((((liveOf mask o).map (·.2)).toArray).filterMap (es[·]?)).toList = ((liveOf mask o).map (·.2)).filterMap (es[·]?) := by simp
    rw [e]
    refine (hperm.filterMap _).trans ?_
    have := range_picks es.toList
    simp_all
  · have picks : ∀ l : List (Nat × Nat), (∀ x ∈ l, x.2 < es.size) → (l.map (·.2)).filterMap (es[·]?) = l.map fun x => (es[x.2]?).getD default := by
      intro l
      induction l with
      | nil => intro _; rfl
      | cons x r ih =>
        intro h
        have hx := h x List.mem_cons_self
        rw [List.map_cons, List.filterMap_cons, Array.getElem?_eq_getElem hx, List.map_cons, ih fun y hy => h y (List.mem_cons_of_mem _ hy), Array.getElem?_eq_getElem hx]
        rfl
    have hlt : ∀ x ∈ liveOf mask o, x.2 < es.size := fun x hx => L.lt _ _ ((mem_live L.sz).mp hx)
    have e : ((((liveOf mask o).map (·.2)).toArray).filterMap (es[·]?)).toList = (liveOf mask o).map fun x => (es[x.2]?).getD default := by
      rw [← picks _ hlt]; simp
    rw [e]
    have hlen  := by
      have := hperm.length_eq
      rw [List.length_map, List.length_range] at this
      exact this
    have hocc : ∀ j, j ∈ taken o → j ∈ (liveOf mask o).map (·.1) := fun j hj => by
      obtain ⟨i, e⟩ := mem_taken.mp hj
      exact List.mem_map.mpr ⟨(j, i), (mem_live L.sz).mpr e, rfl⟩
    refine ⟨⟨k, h3, hm⟩, rfl, by simpa using live_ris mask o, fun j hj => ?_, ?_, ?_, fun x hx => ?_⟩
    · have hj' : j ∈ (liveOf mask o).map (·.1) := by assumption
      obtain ⟨x, hx, rfl⟩ := List.mem_map.mp hj'
      obtain ⟨h1, _⟩ := Array.getElem?_eq_some_iff.mp ((mem_live L.sz).mp hx)
      rw [L.sz] at h1
      show x.1 ≤ mask
      omega
    · simp
    · simp_all
    · have hz : (((liveOf mask o).map (·.1)).toArray).toList.zip (((liveOf mask o).map fun x => (es[x.2]?).getD default).map (·.1)) = (liveOf mask o).map fun x => (x.1, ((es[x.2]?).getD default).1) := by
        simp [List.zip_map', List.map_map]
      have hx' : x ∈ (liveOf mask o).map fun x => (x.1, ((es[x.2]?).getD default).1) := by rw [← hz]; exact hx
      obtain ⟨y, hy, rfl⟩ := List.mem_map.mp hx'
      have e1 := (mem_live L.sz).mp hy
      have hi := hlt y hy
      have e2 : (es.map (·.1)).toList[y.2]? = some ((es[y.2]?).getD default).1 := by
        simp_all
      obtain ⟨q, q1, q2⟩ := L.reach _ _ _ e1 e2
      refine ⟨q, q1, fun m hm' => ?_⟩
      have := hocc _ (q2 m hm')
      simpa using this
end ST

/-! A table of 2^15 or 2^17 places: a search that meets full places alone ends within 82,050 looks (the kernel counts what 4,096 leaps cover). -/
namespace SK
open PySem PySem.SetTable ST
noncomputable def blkU (M x : Nat) : Nat := cond (Nat.ble (Nat.add x 10) M) (Nat.shiftLeft 1023 x) (Nat.shiftLeft 1 x)
noncomputable def hop (M n x : Nat) : Nat := Nat.mod (Nat.div (Nat.sub (Nat.mul (Nat.pow 5 n) (Nat.add (Nat.mul 4 x) 1)) 1) 4) M
noncomputable def uni (M j : Nat) : Nat → Nat := Nat.rec (motive := fun _ => Nat → Nat) (fun x => blkU M x) (fun j ih x => Nat.lor (ih x) (ih (hop M (Nat.pow 2 j) x))) j
noncomputable def pt : Nat := 0x8776766576656554766565546554544376656554655454436554544354434332766565546554544365545443544343326554544354434332544343324332322176656554655454436554544354434332655454435443433254434332433232216554544354434332544343324332322154434332433232214332322132212110
noncomputable def look (v : Nat) : Nat := Nat.mod (Nat.shiftRight pt (Nat.mul 4 (Nat.mod v 256))) 16
noncomputable def cnt (j : Nat) : Nat → Nat := Nat.rec (motive := fun _ => Nat → Nat) look (fun j ih N => Nat.add (ih (Nat.mod N (Nat.pow 2 (Nat.mul 8 (Nat.pow 2 j))))) (ih (Nat.div N (Nat.pow 2 (Nat.mul 8 (Nat.pow 2 j)))))) j
noncomputable def segs (M lev lim : Nat) (l : List Nat) : Bool := l.all fun s => Nat.ble lim (cnt lev (uni M 12 (hop M (Nat.mul 4096 s) 0)))
set_option maxRecDepth 100000 in
theorem s15 : segs 32768 12 19661 [0,1,2,3,4,5,6,7] = true := by decide +kernel
set_option maxRecDepth 100000 in
theorem s17a : segs 131072 14 31001 [0,1,2,3,4,5,6,7] = true := by decide +kernel
set_option maxRecDepth 100000 in
theorem s17b : segs 131072 14 31001 [8,9,10,11,12,13,14,15] = true := by decide +kernel
set_option maxRecDepth 100000 in
theorem s17c : segs 131072 14 31001 [16,17,18,19,20,21,22,23] = true := by decide +kernel
set_option maxRecDepth 100000 in
theorem s17d : segs 131072 14 31001 [24,25,26,27,28,29,30,31] = true := by decide +kernel
theorem it4 : ∀ n y, 4 * it n y + 1 = 5 ^ n * (4 * y + 1)
  | 0, y => by rw [Nat.pow_zero, Nat.one_mul]; rfl
  | n + 1, y => by
    show 4 * it n (5 * y + 1) + 1 = _
    rw [it4 n, Nat.pow_succ, Nat.mul_assoc]
    congr 1
    omega
theorem hop_eq (M n y : Nat) : hop M n y = it n y % M := by
  show ((5 ^ n * (4 * y + 1) - 1) / 4) % M = _
  rw [← it4 n y, Nat.add_sub_cancel, Nat.mul_div_cancel_left _ (by decide)]
theorem it_cong (M : Nat) : ∀ n a b, a % M = b % M → it n a % M = it n b % M
  | 0, _, _, h => h
  | n + 1, a, b, h => it_cong M n _ _ (by rw [Nat.add_mod, Nat.mul_mod, h, ← Nat.mul_mod, ← Nat.add_mod])
theorem it_mod (M m n y : Nat) : it n (it m y % M) % M = it (m + n) y % M := by
  rw [it_add]; exact it_cong M n _ _ (Nat.mod_mod _ _)
theorem blk_bit {M x p : Nat} (h : (blkU M x).testBit p = true) : x ≤ p ∧ p ≤ runEnd (M - 1) x := by
  unfold blkU at h
  cases hb : Nat.ble (Nat.add x 10) M with
  | true =>
    rw [hb] at h
    have h : (1023 <<< x).testBit p = true := h
    have hb : x + 10 ≤ M := Nat.le_of_ble_eq_true hb
    rw [Nat.testBit_shiftLeft, Bool.and_eq_true, decide_eq_true_eq, show (1023 : Nat) = 2 ^ 10 - 1 from rfl, Nat.testBit_two_pow_sub_one, decide_eq_true_eq] at h
    unfold runEnd
    rw [if_pos (by omega)]
    omega
  | false =>
    rw [hb] at h
    have h : (1 <<< x).testBit p = true := h
    rw [Nat.testBit_shiftLeft, Bool.and_eq_true, decide_eq_true_eq, show (1 : Nat) = 2 ^ 1 - 1 from rfl, Nat.testBit_two_pow_sub_one, decide_eq_true_eq] at h
    unfold runEnd
    split <;> omega
theorem uni_bit {M : Nat} (hM : 0 < M) : ∀ j x p, x < M → (uni M j x).testBit p = true → ∃ c, c < 2 ^ j ∧ (blkU M (it c x % M)).testBit p = true
  | 0, x, p, hx, h => ⟨0, Nat.zero_lt_one, by show (blkU M (x % M)).testBit p = true; rw [Nat.mod_eq_of_lt hx]; exact h⟩
  | j + 1, x, p, hx, h => by
    have h : (uni M j x ||| uni M j (hop M (2 ^ j) x)).testBit p = true := h
    rw [Nat.testBit_or, Bool.or_eq_true, hop_eq] at h
    have e : 2 ^ (j + 1) = 2 ^ j + 2 ^ j := by rw [Nat.pow_succ]; omega
    rcases h with h | h
    · obtain ⟨c, h1, h2⟩ := uni_bit hM j x p hx h
      exact ⟨c, by omega, h2⟩
    · obtain ⟨c, h1, h2⟩ := uni_bit hM j _ p (Nat.mod_lt _ hM) h
      rw [it_mod] at h2
      exact ⟨2 ^ j + c, by omega, h2⟩
theorem look_ok : ∀ v : Nat, v < 256 → ((List.range 8).filter fun p => v.testBit p).length = look v := by decide +kernel
theorem cnt_list : ∀ j N, ∃ L : List Nat, L.Nodup ∧ L.length = cnt j N ∧ ∀ p ∈ L, p < 8 * 2 ^ j ∧ N.testBit p = true
  | 0, N => by
    have e : ∀ p ∈ List.range 8, N.testBit p = (N % 256).testBit p := fun p hp => by
      rw [show 256 = 2 ^ 8 from rfl, Nat.testBit_mod_two_pow, decide_eq_true (List.mem_range.mp hp), Bool.true_and]
    refine ⟨(List.range 8).filter fun p => N.testBit p, List.Nodup.sublist List.filter_sublist List.nodup_range, ?_, fun p hp => ?_⟩
    · rw [List.filter_congr e, look_ok _ (Nat.mod_lt _ (by decide))]
      show look (N % 256) = look N
      show (pt >>> (4 * (N % 256 % 256))) % 16 = (pt >>> (4 * (N % 256))) % 16
      rw [Nat.mod_mod]
    · obtain ⟨h1, h2⟩ := List.mem_filter.mp hp
      exact ⟨List.mem_range.mp h1, h2⟩
  | j + 1, N => by
    obtain ⟨A, a1, a2, a3⟩ := cnt_list j (N % 2 ^ (8 * 2 ^ j))
    obtain ⟨B, b1, b2, b3⟩ := cnt_list j (N / 2 ^ (8 * 2 ^ j))
    have e : 8 * 2 ^ (j + 1) = 8 * 2 ^ j + 8 * 2 ^ j := by rw [Nat.pow_succ]; omega
    refine ⟨A ++ B.map (· + 8 * 2 ^ j), List.nodup_append.mpr ⟨a1, ?_, fun x hx y hy q => ?_⟩, ?_, fun p hp => ?_⟩
    · rw [List.nodup_iff_pairwise_ne, List.pairwise_map]
      exact (List.nodup_iff_pairwise_ne.mp b1).imp fun h q => h (by omega)
    · obtain ⟨z, _, rfl⟩ := List.mem_map.mp hy
      have := (a3 x hx).1
      omega
    · rw [List.length_append, List.length_map, a2, b2]; rfl
    · rcases List.mem_append.mp hp with h | h
      · obtain ⟨h1, h2⟩ := a3 p h
        rw [Nat.testBit_mod_two_pow, Bool.and_eq_true] at h2
        exact ⟨by omega, h2.2⟩
      · obtain ⟨z, hz, rfl⟩ := List.mem_map.mp h
        obtain ⟨h1, h2⟩ := b3 z hz
        rw [Nat.testBit_div_two_pow] at h2
        exact ⟨by omega, h2⟩
theorem cover {k lev lim S : Nat} (hS : 2 ^ k = 4096 * S) (seg : ∀ s, s < S → lim ≤ cnt lev (uni (2 ^ k) 12 (hop (2 ^ k) (4096 * s) 0))) {F : List Nat} {x : Nat} (hx : x < 2 ^ k)
    (hF : ∀ c, c < 8192 → ∀ t, it c x % 2 ^ k ≤ t → t ≤ runEnd (2 ^ k - 1) (it c x % 2 ^ k) → t ∈ F) : lim ≤ F.length := by
  have hM : 0 < 2 ^ k := Nat.two_pow_pos k
  obtain ⟨a, ha, ea⟩ := reach_mod k 0 x hx
  have hs : ∃ s, s < S ∧ hop (2 ^ k) (4096 * s) 0 = it (4096 - a % 4096) x % 2 ^ k := by
    have e0 : it (4096 - a % 4096) x % 2 ^ k = it (4096 * (a / 4096 + 1)) 0 % 2 ^ k := by
      rw [← ea, it_mod]
      congr 2
      omega
    rw [e0]
    by_cases c : a / 4096 + 1 < S
    · exact ⟨_, c, hop_eq _ _ _⟩
    · have : a / 4096 + 1 = S := by omega
      rw [this, ← hS]
      refine ⟨0, by omega, ?_⟩
      rw [hop_eq]
      obtain ⟨b, _, hb⟩ := it_pow k
      rw [hb 0, Nat.mul_assoc, Nat.add_mul_mod_self_left]
      rfl
  obtain ⟨s, h1, h2⟩ := hs
  have := seg s h1
  rw [h2] at this
  obtain ⟨L, l1, l2, l3⟩ := cnt_list lev (uni (2 ^ k) 12 (it (4096 - a % 4096) x % 2 ^ k))
  rw [← l2] at this
  refine Nat.le_trans this (List.Nodup.length_le_of_subset l1 fun p hp => ?_)
  obtain ⟨c, c1, c2⟩ := uni_bit hM 12 _ p (Nat.mod_lt _ hM) (l3 p hp).2
  rw [it_mod] at c2
  obtain ⟨b1, b2⟩ := blk_bit c2
  exact hF _ (by omega) p b1 b2
theorem runs {mask k : Nat} (hm : mask + 1 = 2 ^ k) (h : Int) {F : List Nat} {N : Nat} (hN : 82050 ≤ N) (hO : ∀ m, m < N → pos mask h m ∈ F) :
    ∃ x, x < 2 ^ k ∧ ∀ c, c < 8192 → ∀ t, it c x % 2 ^ k ≤ t → t ≤ runEnd (2 ^ k - 1) (it c x % 2 ^ k) → t ∈ F := by
  have hp : (bk mask 13 (bits h % (mask + 1), bits h)).2 = 0 := by
    rw [bk_perturb]
    exact Nat.div_eq_of_lt (Nat.lt_of_lt_of_le (bits_lt h) (by decide))
  have hlt : (bk mask 13 (bits h % (mask + 1), bits h)).1 < mask + 1 := by
    show (bk mask (12 + 1) _).1 < _
    rw [bk_add]
    exact Nat.mod_lt _ (by omega)
  generalize hX : bk mask 13 (bits h % (mask + 1), bits h) = X at hp hlt
  obtain ⟨x, p⟩ := X
  dsimp only at hp hlt
  subst hp
  refine ⟨x, by omega, fun c hc t h1 h2 => ?_⟩
  obtain ⟨n, hn, e⟩ := block_at mask (13 + c) (bits h % (mask + 1)) (bits h)
  rw [bk_add, hX] at e
  have e1 : (bk mask c (x, 0)).1 = it c x % 2 ^ k := by rw [bk_zero _ _ _ hlt, hm]
  have hM : 2 ^ k - 1 = mask := by omega
  rw [hM] at h2
  rw [← e1] at h1 h2
  generalize bk mask c (x, 0) = Y at e h1 h2
  have h9 := more_le mask Y.1
  have := hO (n + (t - Y.1)) (by omega)
  unfold pos at this
  rw [itr_add, show itr mask n (st mask h) = blockAt mask Y.1 Y.2 from e, itr_run mask _ (blockAt mask Y.1 Y.2) (show t - Y.1 ≤ runEnd mask Y.1 - Y.1 by omega)] at this
  have this : Y.1 + (t - Y.1) ∈ F := this
  rwa [show Y.1 + (t - Y.1) = t by omega] at this
theorem seg15 (s : Nat) (h : s < 8) : 19661 ≤ cnt 12 (uni (2 ^ 15) 12 (hop (2 ^ 15) (4096 * s) 0)) :=
  Nat.le_of_ble_eq_true (List.all_eq_true.mp s15 s (by simp; omega))
theorem seg17 (s : Nat) (h : s < 32) : 31001 ≤ cnt 14 (uni (2 ^ 17) 12 (hop (2 ^ 17) (4096 * s) 0)) := by
  rcases (by omega : s < 8 ∨ (8 ≤ s ∧ s < 16) ∨ (16 ≤ s ∧ s < 24) ∨ 24 ≤ s) with c | c | c | c
  · exact Nat.le_of_ble_eq_true (List.all_eq_true.mp s17a s (by simp; omega))
  · exact Nat.le_of_ble_eq_true (List.all_eq_true.mp s17b s (by simp; omega))
  · exact Nat.le_of_ble_eq_true (List.all_eq_true.mp s17c s (by simp; omega))
  · exact Nat.le_of_ble_eq_true (List.all_eq_true.mp s17d s (by simp; omega))
theorem few15 (h : Int) {F : List Nat} {N : Nat} (hl : F.length ≤ 19660) (hO : ∀ m, m < N → pos 32767 h m ∈ F) : N < 82050 := by
  refine Classical.byContradiction fun c => ?_
  obtain ⟨x, hx, hF⟩ := runs (k := 15) rfl h (by omega) hO
  have := cover (k := 15) (S := 8) rfl seg15 hx hF
  omega
theorem few17 (h : Int) {F : List Nat} {N : Nat} (hl : F.length ≤ 31000) (hO : ∀ m, m < N → pos 131071 h m ∈ F) : N < 82050 := by
  refine Classical.byContradiction fun c => ?_
  obtain ⟨x, hx, hF⟩ := runs (k := 17) rfl h (by omega) hO
  have := cover (k := 17) (S := 32) rfl seg17 hx hF
  omega
end SK

/-! a set of texts of any number: by scan below 4096, by search from there on. -/
namespace ST
open PySem PySem.SetTable
theorem free_slotS {t : SetTable} {hs : List Int} (g : Good t hs) (h : Int) {N : Nat} (h1 : N < 10 * (t.mask + 14)) (hN : pos t.mask h N ∉ t.place.toList) (hO : ∀ m, m < N → pos t.mask h m ∈ t.place.toList) : t.freeSlot h = some (pos t.mask h N, false) := by
  unfold SetTable.freeSlot SetTable.probe
  rcases probe_go g h hN hO (fun _ => h + 1) (10 * SetTable.turns t.mask) 0 (Nat.zero_le _) (by unfold SetTable.turns; omega) with ⟨e, _⟩ | ⟨m, i, _, _, _, z, _⟩
  · rw [probeStart_eq]
    have : itr t.mask 0 (st t.mask h) = st t.mask h := rfl
    rw [this] at e
    rw [e]; rfl
  · exact absurd z (by omega)
end ST
namespace PySem
def okM (m : Nat) : Prop := m = 7 ∨ m = 31 ∨ m = 127 ∨ m = 511 ∨ m = 2047 ∨ m = 8191 ∨ m = 32767 ∨ m = 131071
theorem pwc {k c lo hi : Nat} (h1 : lo < 2 ^ k) (h2 : 2 ^ k ≤ hi) (c0 : 0 < c) (a : hi < 2 ^ (c + 1)) (b : 2 ^ (c - 1) ≤ lo) : k = c := by
  rcases Nat.lt_trichotomy k c with z | z | z
  · have := Nat.pow_le_pow_right (n := 2) (by decide) (show k ≤ c - 1 by omega); omega
  · exact z
  · have := Nat.pow_le_pow_right (n := 2) (by decide) (show c + 1 ≤ k by omega); omega
theorem okM_next {m n k M : Nat} (h : okM m) (hn : n < 40000) (h1 : n * 5 < m * 3) (h2 : m * 3 ≤ (n + 1) * 5) (e : M + 1 = 2 ^ k) (lt : 4 * (n + 1) < 2 ^ k) (le : 2 ^ k ≤ 2 * (4 * (n + 1))) : okM M := by
  rcases h with rfl | rfl | rfl | rfl | rfl | rfl | rfl | rfl
  · have := pwc (c := 5) lt le (by decide) (by omega) (by omega); subst this; unfold okM; omega
  · have := pwc (c := 7) lt le (by decide) (by omega) (by omega); subst this; unfold okM; omega
  · have := pwc (c := 9) lt le (by decide) (by omega) (by omega); subst this; unfold okM; omega
  · have := pwc (c := 11) lt le (by decide) (by omega) (by omega); subst this; unfold okM; omega
  · have := pwc (c := 13) lt le (by decide) (by omega) (by omega); subst this; unfold okM; omega
  · have := pwc (c := 15) lt le (by decide) (by omega) (by omega); subst this; unfold okM; omega
  · have := pwc (c := 17) lt le (by decide) (by omega) (by omega); subst this; unfold okM; omega
  · omega
noncomputable def sv (e : Int × Value) : Str := match e.2 with
  | .str x _ => x
  | _ => ⟨#[]⟩
def ElS (w : World) (e : Int × Value) : Prop := ∃ x u, u ≠ 0 ∧ e = (hashStr w x, Value.str x u)
structure StrG (w : World) (h : Heap) (a : Addr) (led : Bool) (ns : List Str) (es : Array (Int × Value)) (ep : Nat) (t : SetTable) : Prop where
  get : ∃ o, h.get? a = some o ∧ o.ExactSet ∧ o.data = .set es ep t
  el : ∀ e ∈ es.toList, ElS w e
  pm : (es.toList.map sv).Perm ns
  good : ST.Good t (es.toList.map (·.1))
  led : t.led = led
  pl : t.plain = true → ns = []
  full : t.place.size * 5 < t.mask * 3
  ms : okM t.mask
section
variable {prog : Program} {w : World} {A : Around} {E : Value → Shared → Prop} {s : Shared}
theorem elems_str {l : List (Int × Value)} (h : ∀ e ∈ l, ElS w e) : ElemsOf (strKind prog w) l := fun e he => by
  obtain ⟨n, u, _, rfl⟩ := h e he
  exact ⟨⟨n, by show Value.isStrOf n (.str n u) = true; simp [Value.isStrOf], rfl⟩, rfl⟩
open ST in
theorem relay_str {t : SetTable} {es : Array (Int × Value)} (h1 : 1 ≤ es.size) (hn : es.size ≤ 40000) : ∃ k t' order, t.relaid (es.map (·.1)) (SetTable.grown es.size) = some (t', order) ∧ SetTable.sizeAbove (SetTable.grown es.size) = 2 ^ k ∧ (order.filterMap (es[·]?)).size = es.size ∧ coversAll order es.size = true ∧ (order.filterMap (es[·]?)).toList.Perm es.toList ∧ Good t' ((order.filterMap (es[·]?)).toList.map (·.1)) ∧ t'.led = t.led ∧ t'.plain = t.plain ∧
    t'.place.size = es.size ∧ t'.mask + 1 = 2 ^ k ∧ 4 * es.size < 2 ^ k ∧ (2 ^ k = 8 ∨ 2 ^ k ≤ 2 * (4 * es.size)) := by
  have hgr : SetTable.grown es.size = 4 * es.size := by unfold SetTable.grown; rw [if_neg (by omega)]; omega
  rw [hgr]
  obtain ⟨k, h3, e, lt, le⟩ := sizeAbove_spec (w := 4 * es.size) (Nat.lt_of_lt_of_le (show 4 * es.size < 2 ^ 18 by omega) (by decide))
  have hpos : 0 < 2 ^ k := Nat.two_pow_pos k
  have hm : (2 ^ k - 1) + 1 = 2 ^ k := by omega
  obtain ⟨t', order, el, em, e1, e2, cov, perm, good⟩ := laid_good2 h3 hm (es := es) (by omega) t.finger (t.movedTo (2 ^ k - 1)) t.led t.plain
  have er : t.relaid (es.map (·.1)) (4 * es.size) = some (t', order) := by
    unfold SetTable.relaid
    rw [e]; exact el
  have hsz : (order.filterMap (es[·]?)).size = es.size := by
    rw [← Array.length_toList, perm.length_eq, Array.length_toList]
  have hc : coversAll order es.size = true := by unfold coversAll; exact List.isPerm_iff.mpr cov
  have hp : t'.place.size = es.size := by have := good.len; rw [List.length_map, Array.length_toList, hsz] at this; exact this
  exact ⟨k, t', order, er, e, hsz, hc, perm, good, e1, e2, hp, by omega, lt, by omega⟩
theorem wpAny_setRelayS {a : Addr} {o : Obj} {es : Array (Int × Value)} {ep : Nat} {t : SetTable} {Q : Unit → Shared → Prop} (ho : s.heap.get? a = some o) (hd : o.data = .set es ep t)
    (hf : t.fits es.size = true) (h1 : 1 ≤ es.size) (hn : es.size ≤ 40000)
    (h : ∀ k es' t', List.Perm es'.toList es.toList → ST.Good t' (es'.toList.map (·.1)) → t'.led = t.led → t'.plain = t.plain → t'.place.size = es.size → t'.mask + 1 = 2 ^ k → 4 * es.size < 2 ^ k → (2 ^ k = 8 ∨ 2 ^ k ≤ 2 * (4 * es.size)) → Q () { s with heap := s.heap.update a (Obj.putSet es' t') }) :
    wpAny (model prog w) A (setRelay a (SetTable.grown es.size)) Q E s := by
  obtain ⟨k, t', order, er, ek, hsz, _, perm, good, e1, e2, e3, e4, e5, e6⟩ := relay_str (t := t) h1 hn
  unfold setRelay
  refine wpAny_bind (wpAny_setState_of ho hd hf ?_)
  dsimp only
  rw [if_neg (by rw [ek, sizeLine_eq]; omega), er]
  show wpAny _ A ((do
      let es' := order.filterMap (es[·]?)
      if es'.size != es.size then unsupported _
      pure (es', t')) >>= fun x => storeSet a x.1 x.2) Q E s
  dsimp only
  rw [hsz]
  simp only [bne_self_eq_false, if_false]
  exact wpAny_storeSet_of ho hd (h k _ _ perm good e1 e2 e3 e4 e5 e6) (by rw [hsz, sizeLine_eq]; omega)
theorem SetS_store {h : Heap} {a : Addr} {o : Obj} {es : Array (Int × Value)} {ep : Nat} {t : SetTable} (ho : h.get? a = some o) (hex : o.ExactSet) (hd : o.data = .set es ep t) (es' : Array (Int × Value)) (t' : SetTable) :
    (h.update a (Obj.putSet es' t')).get? a = some { o with data := .set es' (ep + 1) t' } ∧ Heap.SameBut a h (h.update a (Obj.putSet es' t')) ∧ ({ o with data := .set es' (ep + 1) t' } : Obj).ExactSet := by
  have hg := by
    have := Heap.get?_update_self (Obj.putSet es' t') ho (by rw [putSet_of es' t' hd]; rfl)
    rw [putSet_of es' t' hd] at this; exact this
  exact ⟨hg, Heap.SameBut.update h a _, hex⟩
theorem isSame_str_self {x : Str} {u : Tok} (hu : u ≠ 0) {Q : Bool → Shared → Prop} (h : Q true s) : wpAny (model prog w) A (isSame (.str x u) (.str x u)) Q E s := by
  unfold isSame isSame.created
  have e : (u == 0) = false := beq_eq_false_iff_ne.mpr hu
  simp only [e, Bool.or_self, Bool.false_eq_true, if_false, beq_self_eq_true, if_true]
  exact wpAny_pure h
theorem notSeen_str {x : Str} {u : Tok} {l : List Value} (hl : ∀ v ∈ l, carriedByValue v = true) {Q : Bool → Shared → Prop} (h : Q false s) : wpAny (model prog w) A (searchCouldBeSeen (.str x u) l) Q E s := by
  unfold searchCouldBeSeen
  refine wpAny_bind (wpAny_forIn_list _ (fun rest r s' => r.1 = none ∧ s' = s ∧ ∀ v ∈ rest, carriedByValue v = true) _ ?_ ?_ _ _ ⟨rfl, rfl, hl⟩)
  · rintro v rest r s' ⟨hr, rfl, hall⟩
    have hv := hall v List.mem_cons_self
    have hx : carriedByValue (.str x u) = true := rfl
    rw [hx, hv]
    cases v <;> first | exact wpAny_pure ⟨rfl, rfl, fun y hy => hall y (List.mem_cons_of_mem _ hy)⟩ | skip
  · rintro ⟨r1, r2⟩ s' ⟨hr, rfl, _⟩
    subst hr
    exact wpAny_pure h
open ST in
theorem wpAny_setSearch_str {a : Addr} {x : Str} {u : Tok} {o : Obj} {es : Array (Int × Value)} {ep : Nat} {t : SetTable} {Q : SetFound → Shared → Prop} (ho : s.heap.get? a = some o) (hd : o.data = .set es ep t)
    (g : Good t (es.toList.map (·.1))) (hel : ∀ e ∈ es.toList, ElS w e) {N : Nat} (hN : pos t.mask (hashStr w x) N ∉ t.place.toList) (hO : ∀ m, m < N → pos t.mask (hashStr w x) m ∈ t.place.toList)
    (hb : N < 10 * (t.mask + 15)) (hY : x ∈ es.toList.map sv → Q (.there none) s) (hNo : x ∉ es.toList.map sv → Q (.free (pos t.mask (hashStr w x) N) false) s) :
    ∀ fuel q (stand : Option SetTable.Probe), N - q < fuel → q ≤ N → stand.getD (t.probeStart (hashStr w x)) = itr t.mask q (st t.mask (hashStr w x)) →
      (x ∈ es.toList.map sv → ∃ m i e, q ≤ m ∧ m < N ∧ t.slot (pos t.mask (hashStr w x) m) = .live i ∧ es[i]? = some e ∧ sv e = x) →
      wpAny (model prog w) A (setSearchFrom a (.str x u) (hashStr w x) true fuel stand) Q E s
  | 0, q, stand, h1, h2, h3, h4 => absurd h1 (Nat.not_lt_zero _)
  | fuel + 1, q, stand, h1, h2, h3, h4 => by
    have hf := by have := g.fits; simpa using this
    have hsh : ∀ (i : Nat) (e : Int × Value), es[i]? = some e → sv e = x → (es[i]?.map (·.1)).getD 0 = hashStr w x := fun i e h z => by
      obtain ⟨y, v, _, rfl⟩ := hel e (by rw [← Array.getElem?_toList] at h; exact List.mem_of_getElem? h)
      rw [h]
      have z : y = x := z
      rw [z]; rfl
    refine wpAny_bind (wpAny_setState_of ho hd hf ?_)
    dsimp only
    rw [g.odd, h3]
    unfold SetTable.probe
    rcases probe_go g (hashStr w x) hN hO _ (10 * SetTable.turns t.mask) q h2 (by unfold SetTable.turns; omega) with ⟨e, all⟩ | ⟨m, i, a1, a2, a3, a4, a5, a6⟩
    · rw [e]
      refine wpAny_pure (hNo fun hx => ?_)
      obtain ⟨m, i, e', b1, b2, b3, b4, b5⟩ := h4 hx
      refine all m i b1 b2 b3 ?_
      show (es[i]?.map _).getD 0 = _
      exact hsh i e' b4 b5
    · rw [a5]
      obtain ⟨pi, hpi, hsl⟩ := slot_mem g.ris (hO m a2)
      rw [a3] at hsl
      cases hsl
      have hi := by
        have := (Array.getElem?_eq_some_iff.mp hpi).1
        rw [g.len] at this
        simpa using this
      have hei : es[i]? = some es[i] := Array.getElem?_eq_getElem hi
      have hmem : es[i] ∈ es.toList := by simp
      obtain ⟨y, v, hv, hy⟩ := hel _ hmem
      have key : ∀ U Y : Sem SetFound, wpAny (model prog w) A Y Q E s → wpAny (model prog w) A (if (!t.led) = true then do
          let c ← searchCouldBeSeen (.str x u) (List.map (·.2) (Array.filter (fun e => e.1 == hashStr w x) es).toList)
          if c = true then U else Y
        else Y) Q E s := fun U Y q' => by
        split
        · refine wpAny_bind (notSeen_str (fun v' hv' => ?_) ?_)
          · obtain ⟨e, he, rfl⟩ := List.mem_map.mp hv'
            have he' := by
              simp at he
              exact he.1
            obtain ⟨n, v'', _, rfl⟩ := hel e (by simp_all)
            rfl
          · exact q'
        · exact q'
      refine key _ _ ?_
      rw [hei]
      dsimp only
      rw [hy]
      dsimp only
      refine wpAny_bind (wpAny_holding (wpAny_eqBool_str ?_))
      refine wpAny_bind (wpAny_setState_of ho hd hf ?_)
      dsimp only
      by_cases c : y = x
      · subst c
        rw [decide_eq_true rfl]
        exact wpAny_pure (hY (List.mem_map.mpr ⟨_, hmem, by rw [hy]; rfl⟩))
      · rw [decide_eq_false c]
        have hsm : t.sameMemory t.moves t.mask = some true := by unfold SetTable.sameMemory; simp
        rw [hsm]
        dsimp only
        rw [if_pos rfl, a3]
        dsimp only
        rw [hei]
        dsimp only
        rw [hy]
        dsimp only
        refine wpAny_bind (isSame_str_self hv (wpAny_bind (wpAny_pure ?_)))
        show wpAny _ _ (setSearchFrom _ _ _ _ _ _) _ _ _
        refine wpAny_setSearch_str ho hd g hel hN hO hb hY hNo fuel _ _ (by omega) (by omega) rfl fun hx => ?_
        obtain ⟨m', i', e', b1, b2, b3, b4, b5⟩ := h4 hx
        refine ⟨m', i', e', ?_, b2, b3, b4, b5⟩
        rcases Nat.lt_trichotomy m' m with z | z | z
        · refine absurd ?_ (a6 m' i' b1 z b3)
          show (es[i']?.map _).getD 0 = _
          exact hsh i' e' b4 b5
        · subst z
          rw [a3] at b3; cases b3
          rw [hei] at b4; cases b4
          rw [hy] at b5
          exact absurd b5 c
        · omega
theorem plain_jp {α : Type} {M : Model} {pl : Bool} {hb : Sem Bool} (e : hb = pure false) {Y : Bool → Sem α} {Q : α → Shared → Prop} (h : wpAny M A (Y (!pl)) Q E s) : wpAny M A (if pl = true then hb >>= Y else pure true >>= Y) Q E s := by
  cases pl with
  | true => rw [if_pos rfl, e]; exact wpAny_bind (wpAny_pure h)
  | false => rw [if_neg (by decide)]; exact wpAny_bind (wpAny_pure h)
theorem unpl (t : SetTable) : (if (!t.plain) = true then t else { t with plain := false }) = { t with plain := false } := by
  cases t with
  | mk a b c d e f p => cases p <;> rfl
open ST in
theorem wpAny_setAdd_str {a : Addr} {led : Bool} {ns : List Str} {es : Array (Int × Value)} {ep : Nat} {t : SetTable} {x : Str} {u : Tok} {Q : Bool → Shared → Prop} (hu : u ≠ 0) (I : StrG w s.heap a led ns es ep t) (hl : ns.length < 31000)
    (h : ∀ b h' es' ep' t', Heap.SameBut a s.heap h' → StrG w h' a led (if x ∈ ns then ns else ns ++ [x]) es' ep' t' → Q b { s with heap := h' }) :
    wpAny (model prog w) A (setAddHashed a (.str x u) (hashStr w x)) Q E s := by
  obtain ⟨o, ho, hex, hd⟩ := I.get
  have g := I.good
  have hf : t.fits es.size = true := by have := g.fits; simpa using this
  have hps : t.place.size = es.size := by have := g.len; simpa using this
  have hen : es.size = ns.length := by have := I.pm.length_eq; simpa using this
  have hel := elems_str (prog := prog) (w := w) I.el
  have hkey : (strKind prog w).is x (.str x u) = true := by show Value.isStrOf x (.str x u) = true; simp [Value.isStrOf]
  have mem : x ∈ ns ↔ x ∈ es.toList.map sv := I.pm.mem_iff.symm
  have mem2 : x ∈ ns ↔ ∃ e ∈ es.toList, (strKind prog w).is x e.2 = true := by
    rw [mem, List.mem_map]
    constructor
    · rintro ⟨e, he, z⟩
      obtain ⟨n, v, _, rfl⟩ := I.el e he
      have z : n = x := z
      subst z
      exact ⟨_, he, by show Value.isStrOf n (.str n v) = true; simp [Value.isStrOf]⟩
    · rintro ⟨e, he, z⟩
      obtain ⟨n, v, _, rfl⟩ := I.el e he
      have z : Value.isStrOf x (.str n v) = true := z
      exact ⟨_, he, by show n = x; simp [Value.isStrOf] at z; exact z⟩
  -- what is laid down anew
  obtain ⟨N, hN1, hN2, hN3⟩ := g.free (hashStr w x)
  have hrm : t.place.size < t.mask := by have := I.full; omega
  have lay : x ∉ ns → ∃ ES T, SetTable.insertAt es (t.put (pos t.mask (hashStr w x) N)).2 (hashStr w x, Value.str x u) = ES ∧ { (t.put (pos t.mask (hashStr w x) N)).1 with plain := false } = T ∧ Good T (ES.toList.map (·.1)) ∧ ES.toList.Perm ((hashStr w x, Value.str x u) :: es.toList) ∧ ES.size = ns.length + 1 ∧ T.fits ES.size = true ∧ T.led = led ∧ T.plain = false ∧ T.mask = t.mask ∧ T.place.size = ns.length + 1 ∧ T.dummies.size = 0 := fun _ => by
    have g1 : Good { (t.put (pos t.mask (hashStr w x) N)).1 with plain := false } _ := g.put hN2 hN3 hrm false
    obtain ⟨ES, hES⟩ : ∃ ES, ES = SetTable.insertAt es (t.put (pos t.mask (hashStr w x) N)).2 (hashStr w x, Value.str x u) := ⟨_, rfl⟩
    have hESl : ES.toList = insL es.toList (SetTable.below t.place (pos t.mask (hashStr w x) N)) (hashStr w x, Value.str x u) := by
      rw [hES]; exact toList_insertAt _ _ _
    have hESm : ES.toList.map (·.1) = insL (es.toList.map (·.1)) (SetTable.below t.place (pos t.mask (hashStr w x) N)) (hashStr w x) := by
      rw [hESl]; unfold insL; simp [List.map_take, List.map_drop]
    rw [← hESm] at g1
    have hESp : ES.toList.Perm ((hashStr w x, Value.str x u) :: es.toList) := by rw [hESl]; exact insL_perm _ _ _
    have hESz : ES.size = ns.length + 1 := by
      have := hESp.length_eq
      simp at this; omega
    refine ⟨ES, _, hES.symm, rfl, g1, hESp, hESz, by have := g1.fits; simpa using this, I.led, rfl, rfl, ?_, ?_⟩
    · have := g1.len; simp at this; show (t.put (pos t.mask (hashStr w x) N)).1.place.size = _; omega
    · show (t.put (pos t.mask (hashStr w x) N)).1.dummies.size = 0
      have := g1.dum
      have this : (t.put (pos t.mask (hashStr w x) N)).1.dummies = #[] := this
      rw [this]; rfl
  have elems : ∀ L : List (Int × Value), L.Perm ((hashStr w x, Value.str x u) :: es.toList) → (∀ e ∈ L, ElS w e) ∧ (L.map sv).Perm (ns ++ [x]) := fun L hp => by
    refine ⟨fun e he => ?_, ?_⟩
    · rcases List.mem_cons.mp (hp.mem_iff.mp he) with rfl | he
      · exact ⟨x, u, hu, rfl⟩
      · exact I.el e he
    · refine (hp.map sv).trans ?_
      show (x :: es.toList.map sv).Perm _
      exact (I.pm.cons x).trans (List.perm_append_singleton x ns).symm
  have nxt : ∀ {T T' : SetTable} {k : Nat}, T.mask = t.mask → T.place.size = ns.length + 1 → T.dummies.size = 0 → T.tooFull = true → T'.mask + 1 = 2 ^ k → 4 * (ns.length + 1) < 2 ^ k → (2 ^ k = 8 ∨ 2 ^ k ≤ 2 * (4 * (ns.length + 1))) → okM T'.mask := fun {T T' k} h1 h2 h3 h4 h5 h6 h7 => by
    unfold SetTable.tooFull SetTable.fill at h4
    rw [h1, h2, h3] at h4
    have h4 := of_decide_eq_true h4
    have hfu := I.full
    have h2k : 2 ^ k ≤ 2 * (4 * (ns.length + 1)) := by
      rcases h7 with z | z
      · rcases I.ms with e | e | e | e | e | e | e | e <;> omega
      · exact z
    exact okM_next (n := ns.length) I.ms (by omega) (by omega) (by omega) h5 h6 h2k
  have noF : ∀ {T : SetTable}, T.mask = t.mask → T.place.size = ns.length + 1 → T.dummies.size = 0 → T.tooFull = false → T.place.size * 5 < T.mask * 3 := fun {T} h1 h2 h3 h4 => by
    unfold SetTable.tooFull SetTable.fill at h4
    rw [h3] at h4
    have h4 := of_decide_eq_false h4
    omega
  unfold setAddHashed
  refine wpAny_holding ?_
  unfold setAddHashedIn
  refine wpAny_bind (wpAny_setState_of ho hd hf ?_)
  dsimp only
  by_cases hsc : es.size < scanBound
  · rw [byScan_of (knd := strKind prog w) (x := .str x u) rfl hsc hel]
    simp only [if_true]
    refine wpAny_bind ?_
    unfold setAddByScan
    refine wpAny_bind (wpAny_rule ?_)
    refine wpAny_bind (wpAny_setScan_of (knd := strKind prog w) (k := x) hkey ho hd hf hel ?_)
    cases hr : List.findIdx? (fun e => (strKind prog w).is x e.2) es.toList with
    | some j =>
      obtain ⟨hj, hpj, _⟩ := List.findIdx?_eq_some_iff_getElem.mp hr
      have hx : x ∈ ns := mem2.mpr ⟨_, List.getElem_mem hj, hpj⟩
      rw [if_pos hx] at h
      dsimp only
      refine wpAny_pure ?_
      dsimp only
      exact wpAny_pure (h _ s.heap es ep t (Heap.SameBut.refl a s.heap) I)
    | none =>
      have hx : x ∉ ns := fun z => by
        obtain ⟨e, he, q⟩ := mem2.mp z
        have := List.findIdx?_eq_none_iff.mp hr e he
        rw [q] at this; cases this
      rw [if_neg hx] at h
      dsimp only
      obtain ⟨ES, T, hES, hT, g1, hESp, hESz, hTf, hTl, hTpl, hTm, hTp, hTd⟩ := lay hx
      have hTf0 : (t.put (pos t.mask (hashStr w x) N)).1.fits ES.size = true := by rw [← hTf, ← hT]; rfl
      have hlay : layNew t es (hashStr w x) (.str x u) = (ES, (t.put (pos t.mask (hashStr w x) N)).1, false, false) := by
        unfold layNew
        rw [free_slotS g _ hN1 hN2 hN3]
        dsimp only
        rw [hES]
        unfold SetTable.orStandIn
        rw [hTf0]; rfl
      rw [hlay]
      dsimp only
      refine wpAny_bind (wpAny_pure ?_)
      refine plain_jp rfl ?_
      rw [unpl, hT]
      obtain ⟨x1, x2⟩ := elems _ hESp
      obtain ⟨ho1, hsb1, hex1⟩ := SetS_store ho hex hd ES T
      refine wpAny_bind (wpAny_storeSet_of ho hd ?_ (by rw [hESz, sizeLine_eq]; omega))
      by_cases hfl : T.tooFull = true
      · rw [hfl]
        simp only [Bool.not_false, Bool.and_self, if_true]
        obtain ⟨k, t', order, er, _, hsz, hc, perm, good, e1, e2, e3, e4, e5, e6⟩ := relay_str (t := T) (es := ES) (by omega) (by omega)
        have e : relayAll T ES (SetTable.grown ES.size) = (order.filterMap (ES[·]?), t', false) := by
          unfold relayAll
          rw [er]
          dsimp only
          have hf' : t'.fits (order.filterMap (ES[·]?)).size = true := by have := good.fits; rw [List.length_map, Array.length_toList] at this; exact this
          rw [hc, hf']; rfl
        rw [e]
        dsimp only
        refine wpAny_bind (wpAny_pure ?_)
        refine wpAny_bind (wpAny_storeSet_of ho1 rfl ?_ (by rw [hsz, hESz, sizeLine_eq]; omega))
        obtain ⟨ho2, hsb2, hex2⟩ := SetS_store ho1 hex1 rfl (order.filterMap (ES[·]?)) t'
        obtain ⟨x1, x2⟩ := elems _ (perm.trans hESp)
        refine wpAny_pure ?_
        dsimp only
        refine wpAny_pure (h _ _ _ _ t' (hsb1.trans hsb2) ⟨⟨_, ho2, hex2, rfl⟩, x1, x2, good, e1.trans hTl, fun z => ?_, ?_, nxt hTm hTp hTd hfl e4 (by rw [← hESz]; exact e5) (by rw [← hESz]; exact e6)⟩)
        · rw [e2, hTpl] at z; cases z
        · rw [e3, hESz]; omega
      · rw [Bool.not_eq_true] at hfl
        rw [hfl]
        simp only [Bool.and_false, Bool.false_eq_true, if_false]
        refine wpAny_pure ?_
        dsimp only
        exact wpAny_pure (h _ _ ES _ T hsb1 ⟨⟨_, ho1, hex1, rfl⟩, x1, x2, g1, hTl, (fun z => by rw [hTpl] at z; cases z), noF hTm hTp hTd hfl, by rw [hTm]; exact I.ms⟩)
  · have hnb : byScan (.str x u) es = false := by
      unfold byScan
      rw [decide_eq_false hsc, Bool.and_false, Bool.false_and]
    rw [hnb]
    simp only [Bool.false_eq_true, if_false]
    have hfu := I.full
    have hz : 4096 ≤ es.size := by unfold scanBound at hsc; omega
    have hNf : N < 82050 := by
      rcases I.ms with e | e | e | e | e | e | e | e
      · omega
      · omega
      · omega
      · omega
      · omega
      · omega
      · rw [e] at hN3 hfu
        exact SK.few15 (hashStr w x) (F := t.place.toList) (by rw [Array.length_toList]; omega) hN3
      · rw [e] at hN3 hfu
        exact SK.few17 (hashStr w x) (F := t.place.toList) (by rw [Array.length_toList]; omega) hN3
    refine wpAny_bind ?_
    unfold setSearch
    refine wpAny_setSearch_str ho hd g I.el hN2 hN3 (by omega) (fun hx => ?_) (fun hx => ?_) _ 0 none (by omega) (Nat.zero_le _) rfl (fun hx => ?_)
    · have hx := mem.mpr hx
      rw [if_pos hx] at h
      exact wpAny_pure (h _ s.heap es ep t (Heap.SameBut.refl a s.heap) I)
    · have hx : x ∉ ns := fun z => hx (mem.mp z)
      rw [if_neg hx] at h
      refine wpAny_bind (wpAny_setState_of ho hd hf ?_)
      obtain ⟨ES, T, hES, hT, g1, hESp, hESz, hTf, hTl, hTpl, hTm, hTp, hTd⟩ := lay hx
      dsimp only
      refine plain_jp rfl ?_
      rw [unpl, hT, hES]
      obtain ⟨x1, x2⟩ := elems _ hESp
      obtain ⟨ho1, hsb1, hex1⟩ := SetS_store ho hex hd ES T
      refine wpAny_bind (wpAny_storeSet_of ho hd ?_ (by rw [hESz, sizeLine_eq]; omega))
      by_cases hfl : T.tooFull = true
      · rw [hfl]
        simp only [Bool.not_false, Bool.and_self, if_true]
        rw [show es.size + 1 = ES.size by omega]
        refine wpAny_bind (wpAny_setRelayS ho1 rfl hTf (by omega) (by omega) fun k es' t' perm good e1 e2 e3 e4 e5 e6 => ?_)
        obtain ⟨ho2, hsb2, hex2⟩ := SetS_store ho1 hex1 rfl es' t'
        obtain ⟨x1, x2⟩ := elems _ (perm.trans hESp)
        refine wpAny_pure (h _ _ _ _ t' (hsb1.trans hsb2) ⟨⟨_, ho2, hex2, rfl⟩, x1, x2, good, e1.trans hTl, fun z => ?_, ?_, nxt hTm hTp hTd hfl e4 (by rw [← hESz]; exact e5) (by rw [← hESz]; exact e6)⟩)
        · rw [e2, hTpl] at z; cases z
        · have e4' := e4
          rw [e3]; omega
      · rw [Bool.not_eq_true] at hfl
        rw [hfl]
        simp only [Bool.and_false, Bool.false_eq_true, if_false]
        exact wpAny_pure (h _ _ ES _ T hsb1 ⟨⟨_, ho1, hex1, rfl⟩, x1, x2, g1, hTl, (fun z => by rw [hTpl] at z; cases z), noF hTm hTp hTd hfl, by rw [hTm]; exact I.ms⟩)
    · obtain ⟨e, he, z⟩ := List.mem_map.mp hx
      obtain ⟨i, hi, ei⟩ := List.getElem_of_mem he
      have hi' : i < es.size := by simpa using hi
      have hpi : i < t.place.size := by omega
      have hzz : (t.place[i], e.1) ∈ t.place.toList.zip (es.toList.map (·.1)) := by
        refine List.mem_iff_getElem.mpr ⟨i, ?_, ?_⟩
        · simp; omega
        simp_all
      obtain ⟨q, q1, q2⟩ := g.reach _ hzz
      have eh : e.1 = hashStr w x := by
        obtain ⟨n, v, _, rfl⟩ := I.el e he
        have z : n = x := z
        rw [z]
      rw [eh] at q1 q2
      have hmemq : pos t.mask (hashStr w x) q ∈ t.place.toList := by rw [q1]; simp
      have hqN : q < N := by
        rcases Nat.lt_trichotomy q N with y | y | y
        · exact y
        · rw [y] at hmemq; exact absurd hmemq hN2
        · exact absurd (q2 N y) hN2
      refine ⟨q, i, e, Nat.zero_le _, hqN, ?_, ?_, z⟩
      · rw [q1]; exact slot_live g.ris (Array.getElem?_eq_getElem hpi)
      · rw [← ei]; simp
end
end PySem

/-! A set of tuples: what an addition does. -/
namespace PySem
section
variable {prog : Program} {w : World} {K : Type} [DecidableEq K] (knd : KeyKind prog w K)
variable {knd} {A : Around} {E : Value → Shared → Prop} {s : Shared}
end
end PySem

namespace PySem
section
variable {prog : Program} {w : World} {K : Type} [DecidableEq K] {knd : KeyKind prog w K} {A : Around} {E : Value → Shared → Prop} {s : Shared}
open ST in
end
end PySem

namespace PySem
section
variable {prog : Program} {w : World} {K : Type} [DecidableEq K] {knd : KeyKind prog w K} {A : Around} {E : Value → Shared → Prop} {s : Shared}
open ST in
end
end PySem

/-! set(xs): the new set, filled one by one. -/
namespace PySem
noncomputable abbrev newSetO (led : Bool) : Obj := { cls := .type "set", dict := none, data := .set #[] 0 (.fresh 0 0 led) }
section
variable {prog : Program} {w : World} {A : Around} {E : Value → Shared → Prop} {s : Shared}
end
end PySem

namespace PySem
section
variable {prog : Program} {w : World} {B : Around} {E : Value → Shared → Prop} {s : Shared}
theorem set_loop {R : Result → Shared → Prop} {I : Addr} {fp wr : List Addr} {n : Nat} {P : Nat → Value → Prop} {St : Nat → Heap → Prop} (W : Walks prog w B.in1 I fp wr n P St) (S : Addr) (hSf : S ∉ fp) (Sx : Nat → Heap → Prop)
    (keep : ∀ i j h h', St j h → Sx i h → (∀ b o, b ∉ wr → h.get? b = some o → h'.get? b = some o) → Sx i h')
    (add : ∀ i v (s' : Shared) (Q : Bool → Shared → Prop) (E' : Value → Shared → Prop), i < n → P i v → Sx i s'.heap → (∀ h' tk c, Heap.SameBut S s'.heap h' → Sx (i + 1) h' → Q c { s' with heap := h', toks := tk }) → wpAny (model prog w) B.in1 (setAdd S v) Q E' s') :
    ∀ (k i : Nat) (s : Shared), n - i = k → i ≤ n → St i s.heap → Sx i s.heap →
      (∀ h' tk, (∀ b o, b ∉ wr → b ≠ S → s.heap.get? b = some o → h'.get? b = some o) → Sx n h' → R (.ok (.ret .none)) { s with heap := h', toks := tk }) →
      codeAny (model prog w) B (.builtin "set.update.loop" ⟨[.ref S, .ref I], []⟩) R s := by
  intro k
  induction k with
  | zero =>
    intro i s hk hi st sx hR
    obtain rfl : i = n := by omega
    refine codeAny_builtin PyProof.Rows.F.entry_set_update_loop ?_
    refine wpAny_bind (W.done s _ _ st fun h' tk hm => ?_)
    exact wpAny_pure (hR h' tk (fun b o hb _ e => hm b o hb e) (keep _ _ _ _ st sx hm))
  | succ k ih =>
    intro i s hk hi st sx hR
    have hlt : i < n := by omega
    refine codeAny_builtin PyProof.Rows.F.entry_set_update_loop ?_
    refine wpAny_bind (W.item i s _ _ hlt st fun v h1 t1 hP st1 hm => ?_)
    have sx1  := keep _ _ _ _ st sx hm
    refine wpAny_bind (wpAny_holding (add i v _ _ _ hlt hP sx1 fun h2 t2 c hsb sx2 => ?_))
    refine wpAny_pure ⟨plainId_quiet PyProof.Rows.F.plain_set_update_loop _, ih _ _ (by omega) hlt (W.frame _ _ _ st1 fun b hb o e => ?_) sx2 fun h3 t3 hk3 sx3 => ?_⟩
    · rw [hsb.2 b (fun z  => hSf (by rw [← z]; exact hb))]; exact e
    · refine hR h3 t3 (fun b o hb hS e => hk3 b o hb hS ?_) sx3
      rw [hsb.2 b hS]; exact hm b o hb e
set_option maxRecDepth 100000 in
set_option maxHeartbeats 3200000 in
theorem updateFrom_list {id : String} {a l : Addr} {items : Array Value} {Q : Unit → Shared → Prop} (hh : B.handled = none) (hl : s.heap.IsList l items) (hal : a ≠ l) (has : a < s.heap.objs.size) (Sx : Nat → Heap → Prop) (start : Sx 0 s.heap)
    (keep : ∀ i (h h' : Heap), (∃ o, h.get? s.heap.objs.size = some o ∧ o.cls = .type "list_iterator") → Sx i h → (∀ b o, b ≠ s.heap.objs.size → h.get? b = some o → h'.get? b = some o) → Sx i h')
    (keep0 : ∀ (h' : Heap), (∀ b o, s.heap.get? b = some o → h'.get? b = some o) → Sx 0 h')
    (add : ∀ i v (s' : Shared) (Q : Bool → Shared → Prop) (E' : Value → Shared → Prop), items[i]? = some v → Sx i s'.heap → (∀ h' tk c, Heap.SameBut a s'.heap h' → Sx (i + 1) h' → Q c { s' with heap := h', toks := tk }) → wpAny (model prog w) B.in1 (setAdd a v) Q E' s')
    (fin : ∀ h' tk, Sx items.size h' → (∀ b o, b < s.heap.objs.size → b ≠ a → s.heap.get? b = some o → h'.get? b = some o) → Q () { s with heap := h', toks := tk }) :
    wpAny (model prog w) B (Builtin.Frozenset.updateFrom id a (.ref l)) Q E s := by
  obtain ⟨ol, hol, hcl, nl, hdl⟩ := hl
  obtain ⟨oc, od, odt, os⟩ := ol
  subst hcl; subst hdl
  have sl0 := F.sub_list_set
  have sl1 := F.sub_list_frozenset
  have hl1 : s.heap.IsList l items := ⟨_, hol, rfl, nl, rfl⟩
  unfold Builtin.Frozenset.updateFrom
  generalize hPI : pyIter = PI
  wp_walk
  subst hPI
  refine wpAny_pyIter_list hl1 ?_
  refine wpAny_bind (wpAny_runValue ?_)
  have hlt  := Heap.lt_size hol
  refine set_loop (Walks.list (by simp [hh]) _ l (Nat.ne_of_lt hlt) items) a ?_ Sx ?_ (fun i v s' Q E' _ hv sx hq => add i v s' Q E' hv sx hq) _ 0 _ rfl (Nat.zero_le _) ?_ ?_ ?_
  · grind
  · intro i j h h' st sx hk
    obtain ⟨⟨o, e, c, _⟩, _⟩ := st
    exact keep i h h' ⟨o, e, c⟩ sx fun b o hb e => hk b o (by simpa using hb) e
  · exact ⟨⟨_, Heap.get?_push_size _ rfl, rfl, rfl⟩, hl1.push _⟩
  · exact keep0 _ fun b o e => Heap.get?_push_of_some _ e
  · intro h' tk hk sx
    refine wpAny_pure ?_
    refine fin h' tk sx fun b o hb hba e => hk b o ?_ hba (Heap.get?_push_of_some _ e)
    simp only [List.mem_cons, List.not_mem_nil, or_false]
    exact Nat.ne_of_lt hb
end
end PySem

namespace L2
open PySem PySem.Spec PyProof.Rows

/-! ### lists of pairs as tables -/
section
variable {κ : Type} [DecidableEq κ]
noncomputable def valV (kvs : List (κ × V)) (k : κ) : Option V := (kvs.find? fun kv => decide (kv.1 = k)).map (·.2)
noncomputable def putK (kvs : List (κ × V)) (k : κ) (v : V) : List (κ × V) :=
  if (kvs.any fun kv => decide (kv.1 = k)) = true then kvs.map (fun kv => if kv.1 = k then (kv.1, v) else kv) else kvs ++ [(k, v)]
theorem valV_nil {k : κ} : valV ([] : List (κ × V)) k = none := rfl
theorem valV_pos {p : κ × V} {r : List (κ × V)} {k : κ} (e : p.1 = k) : valV (p :: r) k = some p.2 := by simp [valV, e]
theorem valV_neg {p : κ × V} {r : List (κ × V)} {k : κ} (e : ¬ p.1 = k) : valV (p :: r) k = valV r k := by simp [valV, e]
theorem valV_any (k : κ) : ∀ kvs : List (κ × V), (kvs.any fun kv => decide (kv.1 = k)) = (valV kvs k).isSome
  | [] => rfl
  | p :: r => by
    rw [List.any_cons]
    by_cases e : p.1 = k
    · simp only [valV_pos e, decide_eq_true e, Bool.true_or, Option.isSome_some]
    · rw [valV_neg e, decide_eq_false e]; exact valV_any k r
theorem valV_map (k j : κ) (y : V) : ∀ kvs : List (κ × V), valV (kvs.map fun kv => if kv.1 = k then (kv.1, y) else kv) j = (valV kvs j).map fun x => if j = k then y else x
  | [] => rfl
  | p :: r => by
    have ih := valV_map k j y r
    rw [List.map_cons]
    by_cases h : p.1 = k
    · rw [if_pos h]
      by_cases e : p.1 = j
      · rw [valV_pos (p := (p.1, y)) e, valV_pos e, Option.map_some, if_pos (e.symm.trans h)]
      · rw [valV_neg (p := (p.1, y)) e, valV_neg e, ih]
    · rw [if_neg h]
      by_cases e : p.1 = j
      · rw [valV_pos e, valV_pos e, Option.map_some, if_neg (fun z => h (e.trans z))]
      · rw [valV_neg e, valV_neg e, ih]
theorem valV_snoc (k j : κ) (y : V) : ∀ kvs : List (κ × V), valV kvs k = none → valV (kvs ++ [(k, y)]) j = if j = k then some y else valV kvs j
  | [], _ => by
    by_cases e : k = j
    · rw [if_pos e.symm]; exact valV_pos e
    · rw [if_neg (fun z => e z.symm)]; exact valV_neg e
  | p :: r, hn => by
    rw [List.cons_append]
    have hk : ¬ p.1 = k := fun z => by rw [valV_pos z] at hn; cases hn
    rw [valV_neg hk] at hn
    have ih := valV_snoc k j y r hn
    by_cases e : p.1 = j
    · rw [valV_pos e, valV_pos e, if_neg (fun z => hk (e.trans z))]
    · rw [valV_neg e, valV_neg e, ih]
theorem valV_put (kvs : List (κ × V)) (k j : κ) (y : V) : valV (putK kvs k y) j = if j = k then some y else valV kvs j := by
  unfold putK
  by_cases a : (kvs.any fun kv => decide (kv.1 = k)) = true
  · rw [if_pos a, valV_map]
    rw [valV_any] at a
    by_cases e : j = k
    · obtain ⟨x, hx⟩ := Option.isSome_iff_exists.mp a
      simp_all
    simp_all
  · rw [if_neg a]
    refine valV_snoc k j y kvs ?_
    rw [valV_any] at a
    simp_all
theorem length_putK (kvs : List (κ × V)) (k : κ) (v : V) : (putK kvs k v).length ≤ kvs.length + 1 := by
  unfold putK
  grind
theorem RelO.isSome_eq {o : Option V} {u : Option Value} (r : RelO o u) : o.isSome = u.isSome := by
  cases o with
  | none => cases u with
    | none => rfl
    | some _ => exact (r).elim
  | some _ => cases u with
    | none => exact (r).elim
    | some _ => rfl
theorem RelO.getD {o : Option V} {u : Option Value} {d : V} {d' : Value} (r : RelO o u) (rd : RelV d d') : RelV (o.getD d) (u.getD d') := by
  cases o with
  | none => cases u with
    | none => exact rd
    | some _ => exact (r).elim
  | some _ => cases u with
    | none => exact (r).elim
    | some _ => exact r

theorem KV.val {kvs : List (κ × V)} {vs : List (κ × Value)} (r : KV kvs vs) (k : κ) : RelO (valV kvs k) (valueAt vs k) := by
  induction r with
  | nil => exact True.intro
  | @cons p q ps qs h t ih =>
    obtain ⟨h1, h2⟩ := h
    by_cases e : p.1 = k
    · have e'  := h1.symm.trans e
      have b : valueAt (q :: qs) k = some q.2 := by simp [valueAt, e']
      rw [valV_pos e, b]; exact h2
    · have e' : ¬ q.1 = k := fun z => e (h1.trans z)
      have b : valueAt (q :: qs) k = valueAt qs k := by simp [valueAt, e']
      rw [valV_neg e, b]; exact ih
theorem KV.any {kvs : List (κ × V)} {vs : List (κ × Value)} (r : KV kvs vs) (k : κ) : (kvs.any fun kv => decide (kv.1 = k)) = vs.any fun kv => decide (kv.1 = k) := by
  induction r with
  | nil => rfl
  | cons h t ih => simp_all
theorem KV.repl {kvs : List (κ × V)} {vs : List (κ × Value)} (r : KV kvs vs) (k : κ) {y : V} {u : Value} (ry : RelV y u) :
    KV (kvs.map fun kv => if kv.1 = k then (kv.1, y) else kv) (vs.map fun kv => if kv.1 = k then (kv.1, u) else kv) := by
  induction r with
  | nil => exact .nil
  | @cons p q ps qs h t ih =>
    refine .cons ?_ ih
    lia
theorem KV.put {kvs : List (κ × V)} {vs : List (κ × Value)} (r : KV kvs vs) (k : κ) {y : V} {u : Value} (ry : RelV y u) : KV (putK kvs k y) (stored vs k u) := by
  unfold putK stored
  rw [r.any]
  by_cases e : (vs.any fun kv => decide (kv.1 = k)) = true
  · rw [if_pos e, if_pos e]; exact r.repl k ry
  · rw [if_neg e, if_neg e]; exact Paired.snoc r ⟨rfl, ry⟩
theorem KV.length {kvs : List (κ × V)} {vs : List (κ × Value)} (r : KV kvs vs) : kvs.length = vs.length := Paired.length r
end


/-! ### a tracked dict, its keys ints and texts or tuples of these -/
theorem kV_is {P : Program} {w : World} {k : Key} {u : Value} (r : RelV (kV k) u) : (mixKind P w).is k u = true := by
  cases k with
  | inl i => obtain ⟨t, e⟩ := (r); subst e; exact mixKind_int P w i t
  | inr x => obtain ⟨t, e⟩ := (r); subst e; exact mixKind_str P w x t
theorem items_are {P : Program} {w : World} : ∀ {ks : List Key} {us : List Value}, Vals (ks.map kV) us → ItemsAre (mixKind P w) ks us
  | [], _, r => by cases r; exact .nil
  | k :: ks, _, r => by
    cases r with
    | cons h t => exact .cons (kV_is h) (items_are t)

abbrev KT (H : Hp) : List (List Key × V) → List (List Key × Addr × Value) → Prop := Paired fun p q => p.1 = q.1 ∧ H q.2.1 = some (.tup (p.1.map kV)) ∧ RelV p.2 q.2.2
theorem KT.val {H : Hp} {kvs : List (List Key × V)} {xs : List (List Key × Addr × Value)} (r : KT H kvs xs) (k : List Key) : RelO (valV kvs k) ((atKey xs k).map (·.2)) := by
  induction r with
  | nil => exact True.intro
  | @cons p q ps qs h t ih =>
    obtain ⟨h1, _, h2⟩ := h
    by_cases e : p.1 = k
    · have e'  := h1.symm.trans e
      have b : atKey (q :: qs) k = some q.2 := by simp [atKey, e']
      rw [valV_pos e, b]; exact h2
    · have e' : ¬ q.1 = k := fun z => e (h1.trans z)
      have b : atKey (q :: qs) k = atKey qs k := by simp [atKey, e']
      rw [valV_neg e, b]; exact ih
theorem KT.repl {H : Hp} {kvs : List (List Key × V)} {xs : List (List Key × Addr × Value)} (r : KT H kvs xs) (k : List Key) {y : V} {u : Value} (ry : RelV y u) :
    KT H (kvs.map fun kv => if kv.1 = k then (kv.1, y) else kv) (xs.map (putAt k u)) := by
  induction r with
  | nil => exact .nil
  | @cons p q ps qs h t ih =>
    refine .cons ?_ ih
    unfold putAt
    lia
theorem KT.put {H : Hp} {kvs : List (List Key × V)} {xs : List (List Key × Addr × Value)} (r : KT H kvs xs) (k : List Key) {b : Addr} {y : V} {u : Value} (hb : H b = some (.tup (k.map kV))) (ry : RelV y u) :
    KT H (putK kvs k y) (storedH xs k b u) := by
  have e : (kvs.any fun kv => decide (kv.1 = k)) = (atKey xs k).isSome := by
    rw [valV_any, (r.val k).isSome_eq, Option.isSome_map]
  unfold putK storedH
  rw [e]
  by_cases q : (atKey xs k).isSome = true
  · rw [if_pos q, if_pos q]; exact r.repl k ry
  · rw [if_neg q, if_neg q]; exact Paired.snoc r ⟨rfl, hb, ry⟩
theorem KT.keeps {H H' : Hp} {kvs : List (List Key × V)} {xs : List (List Key × Addr × Value)} (r : KT H kvs xs) (ht : ∀ b ys, H b = some (.tup ys) → H' b = some (.tup ys)) : KT H' kvs xs :=
  Paired.mapP r fun _ _ z => ⟨z.1, ht _ _ z.2.1, z.2.2⟩

section
variable {P : Program} {w : World} {H : Hp} {h : Heap} {a : Addr}
theorem rd_of {u : HO} (ok : HOk P w H h) (e : Rd H a u) : ObjOk P w H h a u := e.ok ok
theorem dk_rd {kvs : List (Key × V)} (ok : HOk P w H h) (e : Rd H a (.dK kvs)) : kvs.length ≤ sizeLine ∧ (a == sysModules) = false ∧ ∃ vs, KV kvs vs ∧ h.DictOf (mixKind P w) a vs :=
  show ObjOk P w H h a _ from rd_of ok e
theorem dk_of {kvs : List (Key × V)} (ok : HOk P w H h) (e : H a = some (.dK kvs)) : kvs.length ≤ sizeLine ∧ (a == sysModules) = false ∧ ∃ vs, KV kvs vs ∧ h.DictOf (mixKind P w) a vs := dk_rd ok (.inl e)
theorem key_of {ks : List Key} (ok : HOk P w H h) (e : H a = some (.tup (ks.map kV))) : (tupleKind (mixKind P w)).is h ks a := by
  obtain ⟨_, its, r, o, h1, h2, n, h3⟩ := (show ObjOk P w H h a (.tup _) from ok a _ e)
  exact ⟨o, its.toArray, n, h1, h2, h3, by simpa using items_are r⟩
theorem dt_rd {kvs : List (List Key × V)} (ok : HOk P w H h) (e : Rd H a (.dT kvs)) : kvs.length ≤ sizeLine ∧ (a == sysModules) = false ∧
    ∃ xs, KT H kvs xs ∧ h.DictOfH (tupleKind (mixKind P w)) a xs := by
  obtain ⟨z, y, xs, r, o, es, ep, h1, h2, h3, h4, h5⟩ := (show ObjOk P w H h a _ from rd_of ok e)
  refine ⟨z, y, xs, r, o, es, ep, h1, h2, h3, h4, fun x hx => ?_, h5⟩
  have all : ∀ {l : List _} {m : List _}, KT H l m → ∀ x ∈ m, (tupleKind (mixKind P w)).is h x.1 x.2.1 := by
    intro l m q
    induction q with
    | nil => simp_all
    | @cons p q ps qs hq t ih =>
      intro x hx
      rcases List.mem_cons.mp hx with e | hx
      · subst e
        exact key_of ok (by simp_all)
      · exact ih x hx
  exact all r x hx
theorem dt_of {kvs : List (List Key × V)} (ok : HOk P w H h) (e : H a = some (.dT kvs)) : kvs.length ≤ sizeLine ∧ (a == sysModules) = false ∧
    ∃ xs, KT H kvs xs ∧ h.DictOfH (tupleKind (mixKind P w)) a xs := dt_rd ok (.inl e)
end

def DGet (H : Hp) (a : Addr) (y : V) (r : Option V) : Prop :=
  (∃ kvs k, Rd H a (.dK kvs) ∧ y = kV k ∧ r = valV kvs k) ∨ ∃ kvs k b, Rd H a (.dT kvs) ∧ y = .ref b ∧ H b = some (.tup (k.map kV)) ∧ r = valV kvs k
def DPut (H : Hp) (a : Addr) (y v : V) (H' : Hp) : Prop :=
  (∃ kvs k, H a = some (.dK kvs) ∧ y = kV k ∧ kvs.length < sizeLine ∧ H' = upd H a (.dK (putK kvs k v))) ∨
  ∃ kvs k b, H a = some (.dT kvs) ∧ y = .ref b ∧ H b = some (.tup (k.map kV)) ∧ kvs.length < sizeLine ∧ H' = upd H a (.dT (putK kvs k v))
theorem DGet.k {H : Hp} {a : Addr} {kvs : List (Key × V)} {k : Key} (e : H a = some (.dK kvs)) : DGet H a (kV k) (valV kvs k) := .inl ⟨kvs, k, .inl e, rfl, rfl⟩
theorem DGet.t {H : Hp} {a b : Addr} {kvs : List (List Key × V)} {k : List Key} (e : H a = some (.dT kvs)) (eb : H b = some (.tup (k.map kV))) : DGet H a (.ref b) (valV kvs k) := .inr ⟨kvs, k, b, .inl e, rfl, eb, rfl⟩
theorem DPut.k {H : Hp} {a : Addr} {kvs : List (Key × V)} {k : Key} {v : V} (e : H a = some (.dK kvs)) (hl : kvs.length < sizeLine) : DPut H a (kV k) v (upd H a (.dK (putK kvs k v))) := .inl ⟨kvs, k, e, rfl, hl, rfl⟩
theorem DPut.t {H : Hp} {a b : Addr} {kvs : List (List Key × V)} {k : List Key} {v : V} (e : H a = some (.dT kvs)) (eb : H b = some (.tup (k.map kV))) (hl : kvs.length < sizeLine) :
    DPut H a (.ref b) v (upd H a (.dT (putK kvs k v))) := .inr ⟨kvs, k, b, e, rfl, eb, hl, rfl⟩


section
variable {X : Cx} {pins : List (Addr × Obj)} {σ : St} {H : Hp} {s : Shared} {a : Addr} {y v : V} {u r : Value} {o : Option V} {A : Around} {E : Value → Shared → Prop}

theorem Inv.big (I : Inv X pins σ H s) : sysModules < s.heap.objs.size := by
  have h  := (I.mod.glob.keeps I.bk).lt
  exact Nat.lt_trans (by decide) h

theorem d_notIn {Q : Value → Shared → Prop} (hu : A.units + 1 < cLine) (I : Inv X pins σ H s) (g : DGet H a y o) (ry : RelV y u) (h : ∀ s', Inv X pins σ H s' → Q (.bool (!o.isSome)) s') :
    wpAny (model X.prog X.w) A (compareOp .NotIn u (.ref a)) Q E s := by
  rcases g with ⟨kvs, k, e, ey, l⟩ | ⟨kvs, k, b, e, ey, eb, l⟩
  · subst ey
    obtain ⟨z, hd, vs, rel, dd⟩ := dk_rd I.hok e
    refine wpAny_notIn_of (kV_is ry) hd dd.mapOf ?_
    rw [← (rel.val k).isSome_eq, ← l]
    exact h _ (I.tok _)
  · subst ey
    cases (ry)
    obtain ⟨z, hd, xs, rel, dd⟩ := dt_rd I.hok e
    refine wpAny_notIn_heap (tupleKind_room_in1 hu) (key_of I.hok eb) hd dd ?_
    have q := (rel.val k).isSome_eq
    rw [Option.isSome_map] at q
    rw [← q, ← l]
    exact h _ (I.tok _)
theorem d_write {h' : Heap} {t' : Nat} {ob : HO} (I : Inv X pins σ H s) (mu : Mut (H a)) (hs : Heap.SameBut a s.heap h') (he : ∃ q, h'.get? a = some q) (new : ObjOk X.prog X.w (upd H a ob) h' a ob) (h0 : 0 < t' := by first | assumption | exact Nat.succ_pos _ | exact Inv.tk ‹_› | omega) :
    Inv X pins σ (upd H a ob) { s with heap := h', toks := t' } :=
  I.write mu (.inl rfl) (fun b q hb z => (hs.2 b hb).trans z) he new
theorem dk_new {P : Program} {w : World} {H' : Hp} {h' : Heap} {kvs : List (Key × V)} {vs : List (Key × Value)} (z : kvs.length ≤ sizeLine) (hd : (a == sysModules) = false) (rel : KV kvs vs) (dd : h'.DictOf (mixKind P w) a vs) :
    ObjOk P w H' h' a (.dK kvs) := ⟨z, hd, vs, rel, dd⟩
theorem d_setItem {H' : Hp} {Q : Unit → Shared → Prop} (hu : A.units + 1 < cLine) (I : Inv X pins σ H s) (g : DPut H a y v H') (ry : RelV y u) (rv : RelV v r) (h : ∀ s', Inv X pins σ H' s' → Q () s') :
    wpAny (model X.prog X.w) A (setItem (.ref a) u r) Q E s := by
  rcases g with ⟨kvs, k, e, ey, l, eH⟩ | ⟨kvs, k, b, e, ey, eb, l, eH⟩
  · subst ey eH
    obtain ⟨z, hd, vs, rel, dd⟩ := dk_of I.hok e
    have hz : vs.length ≤ sizeLine := by rw [← rel.length]; exact z
    have hl : (putK kvs k v).length ≤ sizeLine := by have := length_putK kvs k v; omega
    refine wpAny_setItem_pairs (kV_is ry) dd fun h' dd' hs => h _ ?_
    have he : ∃ q, h'.get? a = some q := let ⟨q, _, _, hq, _⟩ := dd'; ⟨q, hq⟩
    exact d_write I (by rw [e]; exact True.intro) hs he (dk_new hl hd (rel.put k rv) dd')
  · subst ey eH
    cases (ry)
    obtain ⟨z, hd, xs, rel, dd⟩ := dt_of I.hok e
    have hz : xs.length ≤ sizeLine := by rw [← Paired.length rel]; exact z
    have hl : (putK kvs k v).length ≤ sizeLine := by have := length_putK kvs k v; omega
    refine wpAny_setItem_heap (tupleKind_room_in1 hu) (key_of I.hok eb) dd fun h' dd' hs => h _ ?_
    obtain ⟨q, es, ep, hq, h2, h3, h4, _, h5⟩ := dd'
    refine d_write I (by rw [e]; exact True.intro) hs ⟨q, hq⟩ ⟨hl, hd, _, (rel.put k eb rv).keeps fun c ys ec => ?_, q, es, ep, hq, h2, h3, h4, h5⟩
    rw [upd_ne (ne_of ec e (fun z => nomatch z))]
    exact ec
end

section
variable {X : Cx} {pins : List (Addr × Obj)} {σ : St} {H : Hp} {s : Shared} {a : Addr} {kvs : List (Key × V)} {k : Key} {u : Value} {A : Around} {E : Value → Shared → Prop}
end


/-! ### readings and rules -/
def tDNotIn (ty td : TE) : TE := fun σ H Q => ty σ H fun y H1 => td σ H1 fun x H2 => ∃ a o, x = .ref a ∧ DGet H2 a y o ∧ Q (.bl (!o.isSome)) H2
def sDPut (td ty tv : TE) : TS := fun D σ H => tv σ H fun v H1 => td σ H1 fun x H2 => ty σ H2 fun y H3 => ∃ a H4, x = .ref a ∧ DPut H3 a y v H4 ∧ D.nx σ H4
section
variable {X : Cx} {o i e value : Expr} {pos pos' tpos : Pos} {td ty tv : TE}
theorem pc_dnotin (hu : X.A.units + 1 < cLine) (hi : PE X i ty) (ho : PE X o td) : PC X .NotIn i o (tDNotIn ty td) := by
  intro pins s σ H Q I h
  refine thn (hi pins s σ H _ I h) fun iv s1 ⟨y, H1, I1, ry, q1⟩ => thn (ho pins s1 σ H1 _ I1 q1) fun u s2 ⟨x, H2, I2, rx, a, ov, ex, g, q2⟩ => ?_
  subst ex
  obtain rfl : u = Value.ref a := rx
  exact d_notIn hu I2 g ry fun s3 I3 => ⟨.bl _, H2, I3, rfl, q2⟩
theorem ps_dput (hu : X.A.units + 1 < cLine) (ho : PE X o td) (hi : PE X i ty) (hv : PE X value tv) (hs : swapsWith value (some (.Subscript o i pos')) pos.line X.env = pure false) :
    PS X (.Assign [.Subscript o i pos'] value pos) (sDPut td ty tv) := by
  intro pins s σ H D I h
  refine wpAny_Assign_Subscript (thn (hv pins s σ H _ I h) fun r s1 ⟨v, H1, I1, rv, q1⟩ => thn (ho pins s1 σ H1 _ I1 q1) fun u s2 ⟨x, H2, I2, rx, q2⟩ => thn (hi pins s2 σ H2 _ I2 q2) fun iv s3 ⟨y, H3, I3, ry, a, H4, ex, g, q3⟩ => ?_) hs
  subst ex
  obtain rfl : u = Value.ref a := rx
  exact d_setItem hu I3 g ry rv fun s4 I4 => ⟨σ, H4, I4, q3⟩
end


/-! ### displays -/
theorem dk_empty {P : Program} {w : World} {H : Hp} (h : Heap) (hb : sysModules < h.objs.size) : ObjOk P w H (h.push { cls := .type "dict", data := .dict #[] }) h.objs.size (.dK []) :=
  ⟨Nat.zero_le _, beq_eq_false_iff_ne.mpr (Ne.symm (Nat.ne_of_lt hb)), [], .nil, Heap.DictOf.new h⟩
theorem dt_empty {P : Program} {w : World} {H : Hp} (h : Heap) (hb : sysModules < h.objs.size) : ObjOk P w H (h.push { cls := .type "dict", data := .dict #[] }) h.objs.size (.dT []) :=
  ⟨Nat.zero_le _, beq_eq_false_iff_ne.mpr (Ne.symm (Nat.ne_of_lt hb)), [], .nil, _, #[], 0, Heap.get?_push_size _ rfl, ⟨rfl, rfl, rfl⟩, rfl, rfl, List.nodup_nil⟩
def tDNewK : TE := fun _ H Q => ∀ p, H p = none → Q (.ref p) (upd H p (.dK []))
def tDNewT : TE := fun _ H Q => ∀ p, H p = none → Q (.ref p) (upd H p (.dT []))
section
variable {X : Cx} {pos : Pos}
theorem pe_dnewK : PE X (.Dict [] [] pos) tDNewK := fun pins s σ H Q I h =>
  wpAny_Dict_empty ⟨.ref s.heap.objs.size, _, I.laid (a := s.heap.objs.size) (o := .dK []) (t' := s.toks) (fun _ _ q => Heap.get?_push_of_some _ q) (Nat.le_refl _) (dk_empty s.heap I.big), rfl, h _ (I.hok.fresh (Nat.le_refl _))⟩
theorem pe_dnewT : PE X (.Dict [] [] pos) tDNewT := fun pins s σ H Q I h =>
  wpAny_Dict_empty ⟨.ref s.heap.objs.size, _, I.laid (a := s.heap.objs.size) (o := .dT []) (t' := s.toks) (fun _ _ q => Heap.get?_push_of_some _ q) (Nat.le_refl _) (dt_empty s.heap I.big), rfl, h _ (I.hok.fresh (Nat.le_refl _))⟩
end

def tPairs : List (TE × TE) → St → Hp → (List (V × V) → Hp → Prop) → Prop
  | [], _, H, Q => Q [] H
  | (tk, tv) :: r, σ, H, Q => tk σ H fun x H1 => tv σ H1 fun y H2 => tPairs r σ H2 fun ps H3 => Q ((x, y) :: ps) H3
/-! ### methods -/
section
variable {X : Cx} {pins : List (Addr × Obj)} {σ : St} {H : Hp} {s : Shared} {a : Addr} {y d : V} {u r : Value} {o : Option V} {A : Around} {E : Value → Shared → Prop}
theorem d_get2 {Q : Value → Shared → Prop} (hu : A.units + 1 < cLine) (I : Inv X pins σ H s) (g : DGet H a y o) (ry : RelV y u) (rd : RelV d r) (h : ∀ w' s', Inv X pins σ H s' → RelV (o.getD d) w' → Q w' s') :
    wpAny (model X.prog X.w) A (call (.builtin "dict.get") [.ref a, u, r]) Q E s := by
  rcases g with ⟨kvs, k, e, ey, l⟩ | ⟨kvs, k, b, e, ey, eb, l⟩
  · subst ey
    obtain ⟨z, hd, vs, rel, dd⟩ := dk_rd I.hok e
    refine call_meetsIn PySem.F.slot_dict_get dd.typeIs PySem.F.entry_dict_get (PySem.F.args_dict_get_3 _ _ _) (meets_dict_get_default (mixKind _ X.w) a (kV_is ry) hd r) ⟨_, dd.mapOf, h _ _ (I.tok _) ?_⟩
    rw [l]
    exact (rel.val k).getD rd
  · subst ey
    cases (ry)
    obtain ⟨z, hd, xs, rel, dd⟩ := dt_rd I.hok e
    refine call_meetsIn PySem.F.slot_dict_get dd.typeIs PySem.F.entry_dict_get (PySem.F.args_dict_get_3 _ _ _) (meetsH_dict_get_default (tupleKind (mixKind _ X.w)) a b hd r) ⟨tupleKind_room_in1 hu, k, xs, key_of I.hok eb, dd, h _ _ (I.tok _) ?_⟩
    rw [l]
    exact (rel.val k).getD rd
end

section
variable {X : Cx} {o e f : Expr} {apos cpos : Pos} {td ty tx : TE}
end

/-! ### dict(d): a copy -/
section
variable {X : Cx} {pins : List (Addr × Obj)} {σ : St} {H : Hp} {s : Shared} {a : Addr} {kvs : List (Key × V)} {A : Around} {E : Value → Shared → Prop}
end


section
variable {X : Cx} {pins : List (Addr × Obj)} {σ : St} {H : Hp} {s : Shared} {a : Addr} {y : V} {u : Value} {A : Around} {E : Value → Shared → Prop}
end
section
variable {X : Cx}
end
/-! ### a dict's pairs: keys that differ -/
section
variable {κ : Type} [DecidableEq κ]
end
end L2


/-! A dict of whatever keys, walked: list(d), sorted(d), for k in d. -/
namespace L3
open PySem PySem.Spec PyProof.Rows L2 PySem.W
def RawD (d : Addr) (es : Array DictEntry) (p : Nat) (h : Heap) : Prop := ∃ b, h.get? d = some b ∧ b.ExactDict ∧ b.data = .dict es p
section
variable {prog : Program} {w : World} {A : Around} {E : Value → Shared → Prop} {s : Shared} {d it : Addr} {es : Array DictEntry} {p i : Nat}
theorem RawD.ty (r : RawD d es p s.heap) : s.TypeIs (.ref d) "dict" := let ⟨b, e, x, _⟩ := r; ⟨b, e, x.1⟩
theorem RawD.at {h h' : Heap} (r : RawD d es p h) (k : ∀ o, h.get? d = some o → h'.get? d = some o) : RawD d es p h' := let ⟨b, e, x⟩ := r; ⟨b, k _ e, x⟩
theorem RawD.lt {h : Heap} (r : RawD d es p h) : d < h.objs.size := let ⟨_, e, _⟩ := r; Heap.lt_size e
theorem rd_iter {Q : Value → Shared → Prop} (lo : (d == sysModules) = false) (r : RawD d es p s.heap)
    (q : Q (.ref s.heap.objs.size) { s with heap := s.heap.push { cls := .type "dict_keyiterator", data := .fields #[.ref d, .int 0 0, .int es.size 0, .int p 0] } }) : wpAny (model prog w) A (pyIter (.ref d)) Q E s := by
  obtain ⟨b, eb, xb, db⟩ := id r
  refine wpAny_pyIter_slot r.ty PySem.F.slot_dict_iter (wpAny_call_entry PySem.F.slot_dict_iter r.ty PySem.F.entry_dict_iter ?_ (PySem.F.args_dict_iter_1 _))
  refine wpAny_bind ?_
  refine wpAny_bind (wpAny_notOrdered_dict r.ty ?_)
  refine wpAny_pure ?_
  show wpAny _ _ (Builtin.Dict.showsAll d >>= fun _ => _) _ _ s
  unfold Builtin.Dict.showsAll
  rw [lo]
  refine wpAny_bind (wpAny_pure (wpAny_bind (wpAny_dictEntries eb db (wpAny_bind (wpAny_dictEpoch eb db ?_)))))
  exact wpAny_bind (wpAny_newObj_type (wpAny_pure ⟨_, rfl, _, _, ⟨_, Heap.get?_push_size _ rfl, rfl⟩, PySem.F.slot_dict_keyiterator_next.lookup, q⟩))
theorem rd_item {Q : Option Value → Shared → Prop} {e : DictEntry} (st : s.heap.IsKeyIter it d i es.size p) (r : RawD d es p s.heap) (hx : es[i]? = some e)
    (q : ∀ h', h'.IsKeyIter it d (i + 1) es.size p → Heap.SameBut it s.heap h' → Q (some e.key) { s with heap := h' }) : wpAny (model prog w) A (pyNext (.ref it)) Q E s := by
  obtain ⟨b, eb, cb, db⟩ := id st
  obtain ⟨c, ec, xc, dc⟩ := id r
  refine wpAny_bind (wpAny_attempt (wpAny_callSpecial?_slot (name := Str.ofString _) st.typeIs PySem.F.slot_dict_keyiterator_next (wpAny_call_entry PySem.F.slot_dict_keyiterator_next st.typeIs PySem.F.entry_dict_keyiterator_next ?_ (PySem.F.args_dict_keyiterator_next_1 _))))
  refine wpAny_bind (wpAny_pure (wpAny_bind (wpAny_bind ?_)))
  refine wpAny_bind (wpAny_typeNameOfWhole_keyiter st.typeIs (wpAny_pure (wpAny_bind (wpAny_fieldsOf eb db ?_))))
  refine wpAny_bind (wpAny_pure (wpAny_bind (wpAny_dictEntries ec dc ?_)))
  rw [if_neg (by simp)]
  refine wpAny_bind (wpAny_pure (wpAny_bind (wpAny_dictEpoch ec dc ?_)))
  rw [if_neg (by simp)]
  refine wpAny_pure ?_
  dsimp only
  rw [Int.toNat_natCast, hx]
  refine wpAny_bind (wpAny_bind (wpAny_typeNameOfWhole_keyiter st.typeIs (wpAny_pure ?_)))
  refine wpAny_bind (wpAny_isOneOf_keyiter st.typeIs ?_)
  show wpAny _ _ (setField _ 1 (rawInt _) >>= _) _ _ _
  refine wpAny_bind (wpAny_setField eb db (by simp) ?_)
  have st' : (s.heap.update it (Obj.mapFields (·.setIfInBounds 1 (rawInt (i + 1))))).IsKeyIter it d (i + 1) es.size p :=
    ⟨_, Heap.get?_update_self _ eb (Obj.isFreed_of_fields (Obj.data_mapFields db _)), (Obj.cls_mapFields ..).trans cb, by rw [Obj.data_mapFields db]; simp [rawInt]⟩
  refine wpAny_bind (wpAny_holding (wpAny_bind (wpAny_isOneOf_keyiter st'.typeIs ?_)))
  exact wpAny_pure (wpAny_pure ⟨_, rfl, wpAny_pure (q _ st' (Heap.SameBut.update ..))⟩)
theorem rd_end {Q : Option Value → Shared → Prop} (hh : A.handled = none) (st : s.heap.IsKeyIter it d i es.size p) (r : RawD d es p s.heap) (hx : es[i]? = none)
    (q : ∀ h', Heap.ExtBut it s.heap h' → Q none { s with heap := h' }) : wpAny (model prog w) A (pyNext (.ref it)) Q E s := by
  obtain ⟨b, eb, cb, db⟩ := id st
  obtain ⟨c, ec, xc, dc⟩ := id r
  refine wpAny_bind (wpAny_attempt (wpAny_callSpecial?_slot (name := Str.ofString _) st.typeIs PySem.F.slot_dict_keyiterator_next (wpAny_call_entry PySem.F.slot_dict_keyiterator_next st.typeIs PySem.F.entry_dict_keyiterator_next ?_ (PySem.F.args_dict_keyiterator_next_1 _))))
  refine wpAny_bind (wpAny_pure (wpAny_bind (wpAny_bind ?_)))
  refine wpAny_bind (wpAny_typeNameOfWhole_keyiter st.typeIs (wpAny_pure (wpAny_bind (wpAny_fieldsOf eb db ?_))))
  refine wpAny_bind (wpAny_pure (wpAny_bind (wpAny_dictEntries ec dc ?_)))
  rw [if_neg (by simp)]
  refine wpAny_bind (wpAny_pure (wpAny_bind (wpAny_dictEpoch ec dc ?_)))
  rw [if_neg (by simp)]
  refine wpAny_pure ?_
  dsimp only
  rw [Int.toNat_natCast, hx]
  refine wpAny_bind (wpAny_bind (wpAny_typeNameOfWhole_keyiter st.typeIs (wpAny_pure ?_)))
  show wpAny _ _ (setField _ 0 _ >>= _) _ _ _
  refine wpAny_bind (wpAny_setField eb db (by simp) ?_)
  refine wpAny_bind ?_
  refine wpAny_bind (wpAny_newObj_type (wpAny_bind (wpAny_of_eq (by first | rfl | (simp only [firstArgMember]; rfl)) (wpAny_newObj_type ?_ (by size_fits)))) (by size_fits))
  refine wpAny_bind (wpAny_handled ?_)
  rw [hh]
  refine wpAny_bind (wpAny_pure (wpAny_throw ?_))
  refine wpAny_bind (wpAny_isInstance ⟨_, Heap.get?_push_size _ rfl, rfl⟩ isSubtype_stop ?_)
  exact wpAny_pure (q _ (((Heap.SameBut.update ..).extBut.push _).push _))
theorem rd_walks (hh : A.handled = none) (hne : d ≠ it) (es : Array DictEntry) (p : Nat) :
    Walks prog w A it [it, d] [it] es.size (fun i v => ∃ e, es[i]? = some e ∧ v = e.key) (fun i h => h.IsKeyIter it d i es.size p ∧ RawD d es p h) where
  sub := fun b hb => by grind
  frame := fun _ _ _ st k => ⟨st.1.at fun o e => k it (by simp) o e, st.2.at fun o e => k d (by simp) o e⟩
  item := fun i s Q E hi st q => by
    have hx : es[i]? = some es[i] := by simp [hi]
    exact rd_item st.1 st.2 hx fun h' st' sb => q _ h' _ ⟨_, hx, rfl⟩ ⟨st', st.2.at fun o e => sb.extBut d o hne e⟩ fun b o hb e => sb.extBut b o (fun z => hb (by simp [z])) e
  done := fun s Q E st q => rd_end hh st.1 st.2 (by simp) fun h' eb => q h' s.toks fun b o hb e => eb b o (fun z => hb (by simp [z])) e
  self := fun _ _ _ _ st q => wpAny_pyIter_keyiter st.1 q
theorem rd_src (lo : (d == sysModules) = false) : KdlSrc prog w "dict" d d es.size (fun i v => ∃ e, es[i]? = some e ∧ v = e.key) (RawD d es p) where
  type := fun _ r => r.ty
  there := fun _ r => ⟨r.lt, r.lt⟩
  keep := fun _ _ r k => r.at fun o e => k d (.inl rfl) o e
  notList := by decide
  notTuple := by decide
  hint := fun _ _ _ _ r q => kdl_hint_dict r.ty q
  iter := fun _ _ hh r => ⟨_, _, fun _ _ q => rd_iter lo r q, rd_walks hh (Nat.ne_of_lt r.lt) es p, ⟨⟨_, Heap.get?_push_size _ rfl, rfl, rfl⟩, r.at fun o e => Heap.get?_push_of_some _ e⟩⟩
end
end L3

/-! Dicts: len, list, sorted. -/
namespace L3
open PySem PySem.Spec PyProof.Rows L2 PySem.W
section
variable {prog : Program} {w : World} {A : Around} {E : Value → Shared → Prop} {s : Shared} {d : Addr} {es : Array DictEntry} {p : Nat}
theorem rd_len {Q : Value → Shared → Prop} (lo : (d == sysModules) = false) (r : RawD d es p s.heap) (z : es.size ≤ sizeLine) (q : ∀ t s', s'.heap = s.heap → s' = { s with toks := s'.toks } → Q (.int es.size t) s') : wpAny (model prog w) A (call (.builtin "len") [.ref d]) Q E s := by
  have zz  := by rw [sizeLine_eq] at z; exact z
  have mt : MeetsIn prog w (Builtin.«dict.__len__» ⟨[.ref d], []⟩) (fun _ R s => RawD d es p s.heap ∧ R (.ok (.ret (.int es.size s.toks))) { s with toks := s.toks + 1 }) := .of_wp fun A R s ⟨r, h⟩ => by
    obtain ⟨b, eb, xb, db⟩ := r
    show wpAny _ _ (dictSize d >>= fun _ => _) _ _ s
    refine wpAny_bind (wpAny_bind (wpAny_dictEntries eb db (wpAny_pure ?_)))
    exact wpAny_bind (wpAny_pendingCount_other lo (wpAny_ret_mkInt h))
  refine Calls.call_function_entry kind_len plain_len entry_len (args_len1 _) ?_
  refine wpAny_bind (m := callSpecial? _ (Str.ofString _)) (wpAny_callSpecial?_slot (name := Str.ofString _) r.ty PySem.F.slot_dict_len
    (call_meetsIn PySem.F.slot_dict_len r.ty PySem.F.entry_dict_len (PySem.F.args_dict_len_1 _) mt ⟨r, ?_⟩))
  refine wpAny_bind (wpAny_holding (wpAny_pure (wpAny_bind (wpAny_letGo ?_))))
  rw [if_neg (by omega)]
  rw [if_neg (by omega)]
  exact wpAny_bind (wpAny_mkInt (wpAny_pure ⟨_, rfl, q _ _ rfl rfl⟩))
theorem rd_collect {R : List Value → Shared → Prop} (hh : A.handled = none) (lo : (d == sysModules) = false) (r : RawD d es p s.heap) (z : es.size ≤ sizeLine)
    (q : ∀ (h' : Heap) (tk : Nat) (acc : Array Value), s.heap.objs.size < h'.objs.size → (∀ b o, s.heap.get? b = some o → h'.get? b = some o) → ItemsOf (fun i v => ∃ e, es[i]? = some e ∧ v = e.key) acc es.size → R acc.toList { s with heap := h', toks := tk }) :
    wpAny (model prog w) A (collect (.ref d)) R E s := by
  have lt := r.lt
  refine wpAny_bind (wpAny_runValue (codeAny_builtin entry_proto_collect' ?_))
  refine wpAny_bind (wpAny_newObj_type (wpAny_pure ⟨plainId_quiet PySem.F.plain_list_iadd _, codeAny_builtin entry_list_iadd' ?_⟩))
  have l0 : (s.heap.push { cls := .type _, data := .seq ([]).toArray }).get? _ = some { cls := .type "list", data := .seq _ } := Heap.get?_push_size _ rfl
  have go := kdl_extend (prog := prog) (w := w) (s := { s with heap := s.heap.push { cls := .type _, data := .seq ([]).toArray } })
    (R := fun x s2 => ∃ (h2 : Heap) (tk : Nat) (ac : Array Value) (c2 : Nat), x = .ok (.ret (.ref _)) ∧ s2 = { s with heap := h2, toks := tk } ∧ (∀ b o, s.heap.get? b = some o → h2.get? b = some o) ∧
      h2.get? _ = some { cls := .type _, dict := none, data := .seq ac c2, slots := #[] } ∧ ItemsOf _ ac _)
    (rd_src lo) hh (r.at fun o e => Heap.get?_push_of_some _ e) _ (Nat.ne_of_gt lt) (Nat.ne_of_gt lt) (.ref s.heap.objs.size) 0 l0
    (fun h2 tk ac c2 k e i => ⟨h2, tk, ac, c2, rfl, rfl, fun b o x => k b o (Nat.ne_of_lt (Heap.lt_size x)) (Heap.get?_push_of_some _ x), e, i⟩) z
  have fin : ∀ {h2 : Heap} {tk : Nat} {ac : Array Value} {c2 : Nat}, (∀ b o, s.heap.get? b = some o → h2.get? b = some o) → h2.get? _ = some { cls := .type "list", dict := none, data := .seq ac c2, slots := #[] } →
      ItemsOf _ ac _ → R _ _ := fun {h2 tk ac c2} k e i => q h2 tk ac (Heap.lt_size e) k i
  refine wpAny_mono go (fun fn s2 x => ?_) fun e s2 x => ?_
  · cases fn with
    | done f =>
      obtain ⟨h2, tk, ac, c2, e, rfl, k, y, i⟩ := x
      cases e
      exact wpAny_bind (wpAny_load y (wpAny_pure (fin k y i)))
    | again c1 =>
      refine ⟨x.1, codeAny_mono x.2 fun r2 s3 y => ?_⟩
      obtain ⟨h2, tk, ac, c2, rfl, rfl, k, y, i⟩ := y
      exact wpAny_bind (wpAny_load y (wpAny_pure (fin k y i)))
  grind
end
end L3

/-! A loop over a text. -/
namespace L3
open PySem PySem.Spec PyProof.Rows L2
noncomputable def Its (x : Str) : It := ⟨fun i _ => i < x.cps.size, fun i H v H' => H' = H ∧ ∃ c, x.cps[i]? = some c ∧ v = .str ⟨#[c]⟩, fun i _ => x.cps.size ≤ i⟩
theorem str_item {prog : Program} {w : World} {A : Around} {E : Value → Shared → Prop} {it : Addr} {x : Str} {t : Tok} {ty : String} (i : Nat) (s : Shared) {Q : Option Value → Shared → Prop} (hi : i < x.cps.size) (st : s.heap.IsStrIter it ty x t i) (hty : ty = "str_ascii_iterator" ∨ ty = "str_iterator")
    (h : ∀ (c : Nat) (h' : Heap), x.cps[i]? = some c → h'.IsStrIter it ty x t (i + 1) → (∀ b o, b ≠ it → s.heap.get? b = some o → h'.get? b = some o) → Q (some (.str ⟨#[c]⟩ s.toks)) { s with heap := h', toks := s.toks + 1 }) : wpAny (model prog w) A (pyNext (.ref it)) Q E s := by
  rcases hty with rfl | rfl
  · exact wpAny_pyNext_ascii_item st (c := x.cps[i]) (by simp [hi]) fun h' hit' hs' => h _ h' (by simp [hi]) hit' fun b o hb e => hs'.extBut b o hb e
  · exact wpAny_pyNext_wide_item st (c := x.cps[i]) (by simp [hi]) fun h' hit' hs' => h _ h' (by simp [hi]) hit' fun b o hb e => hs'.extBut b o hb e
theorem turn_str {P : Program} {w : World} {K : PySem.W.Frag} {tg : Expr} (it : Addr) (x : Str) (t : Tok) {ty : String} (hty : ty = "str_ascii_iterator" ∨ ty = "str_iterator") : Turn P w K tg (Its x) [it] it (fun i h => h.IsStrIter it ty x t i) where
  mem := by simp
  obj := fun i h st b hb => by
    obtain ⟨o, e, c, d⟩ := st
    simp_all
  keep := fun i h h' st k => let ⟨o, ho, r⟩ := st; ⟨o, k it (by simp) o ho, r⟩
  item := by
    intro X hP hw hK hc i pins s σ H E I hf st hg
    obtain ⟨f0, f1, f2, f3, f4, f5⟩ := hf it (by simp)
    refine str_item i s hg st hty fun c h' hcx st' kk => ?_
    have I1 : Inv X pins σ H { s with heap := h', toks := s.toks + 1 } := I.turned (fun b o hb e => kk b o (by simp_all) e) f0 f1 f3 f4 f5
    obtain ⟨o, e, cc, d⟩ := id st'
    exact ⟨_, rfl, go_of e cc d (by rcases hty with rfl | rfl <;> decide) ⟨.str _, H, I1, ⟨⟨_, Nat.ne_of_gt I.tk⟩, rfl⟩, ⟨rfl, c, hcx, rfl⟩, st', fun b hb => (hf b hb).1⟩⟩
  done := by
    intro X hP hw hK hc i pins s σ H E I hf st hg
    obtain ⟨f0, f1, f2, f3, f4, f5⟩ := hf it (by simp)
    have hx  := Array.getElem?_eq_none hg
    rcases hty with rfl | rfl
    · exact wpAny_pyNext_ascii_end (I.ok.hd hc) st hx fun h' eb => ⟨rfl, I.turned (fun b o hb e => eb b o hb e) f0 f1 f3 f4 f5⟩
    · exact wpAny_pyNext_wide_end (I.ok.hd hc) st hx fun h' eb => ⟨rfl, I.turned (fun b o hb e => eb b o hb e) f0 f1 f3 f4 f5⟩
  self := fun _ _ _ _ _ st h => by
    rcases hty with rfl | rfl
    · exact wpAny_pyIter_striter_ascii st h
    · exact wpAny_pyIter_striter_wide st h
section
variable {X : Cx} {tg : Expr}
noncomputable def iStr (tl : TE) : TI := fun σ H R => tl σ H fun x H1 => ∃ z, x = .str z ∧ R (Its z) H1
theorem pi_str {l : Expr} {tl : TE} (hl : PE X l tl) : PI X tg l (iStr tl) := by
  intro pins s σ H R I h
  refine thn (hl pins s σ H _ I h) fun v s1 ⟨x, H1, I1, r1, q1⟩ => ?_
  obtain ⟨z, e, q⟩ := q1
  subst e
  obtain ⟨t, rfl⟩ := r1
  have fp : ∀ b ∈ [s1.heap.objs.size], FpOk X pins H1 b := fun b hb => by
    have e  := by simpa using hb
    subst e
    exact I1.fpOk (Nat.le_refl _) (I1.hok.fresh (Nat.le_refl _))
  cases ha : z.cps.all (· < 128)
  · exact wpAny_pyIter_wide ha ⟨s1.heap.objs.size, [s1.heap.objs.size], _, _, H1, rfl, I1.kept fun b o e => Heap.get?_push_of_some _ e, turn_str _ z t (.inr rfl), ⟨_, Heap.get?_push_size _ rfl, rfl, rfl⟩, fp, q⟩
  · exact wpAny_pyIter_ascii ha ⟨s1.heap.objs.size, [s1.heap.objs.size], _, _, H1, rfl, I1.kept fun b o e => Heap.get?_push_of_some _ e, turn_str _ z t (.inl rfl), ⟨_, Heap.get?_push_size _ rfl, rfl, rfl⟩, fp, q⟩
end
end L3

/-! Dicts in calls: len(d), list(d), sorted(d). -/
namespace L3
open PySem PySem.Spec PyProof.Rows L2 PySem.W
theorem paired_at {α β : Type} {F : α → β → Prop} : ∀ {l : List α} {m : List β} {i : Nat} {a : α}, Paired F l m → l[i]? = some a → ∃ b, m[i]? = some b ∧ F a b
  | _, _, _, _, .nil, e => by simp at e
  | _, _, 0, _, .cons r _, e => by simp_all
  | _, _, i + 1, a, .cons _ t, e => by
    obtain ⟨b, h1, h2⟩ := paired_at t (by simpa using e)
    simp_all
theorem vals_by {ys : List V} {us : List Value} (hl : us.length = ys.length) (h : ∀ (i : Nat) (u : Value) (y : V), us[i]? = some u → ys[i]? = some y → RelV y u) : Vals ys us := by
  induction ys generalizing us with
  | nil => cases us with | nil => exact .nil | cons _ _ => cases hl
  | cons y ys ih =>
    cases us with
    | nil => cases hl
    | cons u us => exact .cons (h 0 u y rfl rfl) (ih (Nat.succ.inj hl) fun i u' y' e1 e2 => h (i + 1) u' y' (by assumption) (by assumption))
section
variable {X : Cx} {pins : List (Addr × Obj)} {σ : L2.St} {H : Hp} {s : Shared} {a : Addr}
theorem raw_k {kvs : List (Key × V)} (I : Inv X pins σ H s) (e : H a = some (.dK kvs)) : kvs.length ≤ sizeLine ∧ (a == sysModules) = false ∧ ∃ es p, RawD a es p s.heap ∧ es.size = kvs.length ∧ ∀ (i : Nat) (x : DictEntry) (kv : Key × V), es[i]? = some x → kvs[i]? = some kv → keyIs kv.1 x.key = true := by
  obtain ⟨z, lo, vs, r, o, es, p, h1, h2, h3, h4, h5, h6⟩ := (show ObjOk _ X.w H _ a _ from I.hok a _ e)
  have hsz : es.size = kvs.length := by rw [r.length, ← h5.length]; simp
  refine ⟨z, lo, es, p, ⟨o, h1, h2, h3⟩, hsz, fun i x kv ex ek => ?_⟩
  obtain ⟨q, hq, ⟨e1, _⟩⟩ := paired_at r ek
  have hk := (h5.get? (e := x) (by simp_all) hq).1
  rw [e1]
  exact hk
theorem raw_t {kvs : List (List Key × V)} (I : Inv X pins σ H s) (e : H a = some (.dT kvs)) : kvs.length ≤ sizeLine ∧ (a == sysModules) = false ∧ ∃ es p, RawD a es p s.heap ∧ es.size = kvs.length ∧
    ∃ bs : List Addr, Paired (fun (kv : List Key × V) b => H b = some (.tup (kv.1.map kV))) kvs bs ∧ ∀ (i : Nat) (x : DictEntry) (b : Addr), es[i]? = some x → bs[i]? = some b → x.key = .ref b := by
  obtain ⟨z, lo, xs, r, o, es, p, h1, h2, h3, h4, h9⟩ := (show ObjOk _ X.w H _ a _ from I.hok a _ e)
  have hsz : es.size = kvs.length := by rw [Paired.length r, ← Array.length_toList, h4, List.length_map]
  refine ⟨z, lo, es, p, ⟨o, h1, h2, h3⟩, hsz, xs.map (·.2.1), ?_, fun i x b ex eb => ?_⟩
  · clear h4 h9 hsz z e
    induction r with
    | nil => exact .nil
    | cons q _ ih => exact .cons q.2.1 ih
  · rw [← Array.getElem?_toList, h4, List.getElem?_map] at ex
    rw [List.getElem?_map] at eb
    cases hx : xs[i]? with
    | none => simp_all
    | some q =>
      rw [hx] at ex eb
      cases ex
      cases eb
      rfl
def DLen (H : Hp) (a : Addr) (n : Nat) : Prop := (∃ kvs, H a = some (.dK kvs) ∧ n = kvs.length) ∨ ∃ kvs, H a = some (.dT kvs) ∧ n = kvs.length
theorem call_len_d : CallR X (.builtin "len") (fun xs H Q => ∃ a n, xs = [.ref a] ∧ DLen H a n ∧ Q (.int n) H) := by
  intro pins s σ H xs us Q I r h
  obtain ⟨a, n, rfl, hd, q⟩ := h
  obtain ⟨u, rfl, ru⟩ := vals1 r
  cases ru
  rcases hd with ⟨kvs, e, rfl⟩ | ⟨kvs, e, rfl⟩
  · obtain ⟨z, lo, es, p, rr, hs, _⟩ := raw_k I e
    refine wpTk I.tk (rd_len lo rr (by simp_all) fun t s' _ e' h0 => ?_)
    rw [e', hs]
    rw [e'] at h0
    exact ⟨.int _, H, I.tok _, ⟨t, rfl⟩, q⟩
  · obtain ⟨z, lo, es, p, rr, hs, _⟩ := raw_t I e
    refine wpTk I.tk (rd_len lo rr (by simp_all) fun t s' _ e' h0 => ?_)
    rw [e', hs]
    rw [e'] at h0
    exact ⟨.int _, H, I.tok _, ⟨t, rfl⟩, q⟩
def rListD : List V → Hp → VK → Prop := fun xs H Q => ∃ a, xs = [.ref a] ∧
  ((∃ kvs, H a = some (.dK kvs) ∧ False ∧ ∀ l, H l = none → Q (.ref l) (upd H l (.lst (kvs.map fun kv => kV kv.1)))) ∨
   ∃ kvs, H a = some (.dT kvs) ∧ ∀ (bs : List Addr) l, Paired (fun (kv : List Key × V) b => H b = some (.tup (kv.1.map kV))) kvs bs → H l = none → Q (.ref l) (upd H l (.lst (bs.map V.ref))))
theorem call_list_d (hc : X.calm = true) : CallR X (.type "list") rListD := by
  intro pins s σ H xs us Q I r h
  obtain ⟨a, rfl, h⟩ := h
  obtain ⟨u, rfl, ru⟩ := vals1 r
  cases ru
  have fin : ∀ (ys : List V) (es : Array _) (h' : Heap) (tk : Nat) (acc : Array Value) (c : Nat), ys.length ≤ sizeLine → es.size = ys.length → (∀ (i : Nat) (x : DictEntry) (y : V), es[i]? = some x → ys[i]? = some y → RelV y x.key) →
      (∀ b o, s.heap.get? b = some o → h'.get? b = some o) → h'.get? _ = some { cls := .type _, dict := none, data := .seq acc c, slots := #[] } → ItemsOf (fun i v => ∃ e, es[i]? = some e ∧ v = e.key) acc es.size → 0 < tk →
      (∀ l, H l = none → Q _ (upd H l _)) → EP X pins σ Q (.ref _) _ := fun ys es h' tk acc c z hs hr kp e it h0 q => by
    refine ⟨.ref _, _, I.laid (t' := tk) (o := .lst ys) kp (Nat.le_refl _) ⟨z, acc.toList, c, vals_by (by rw [Array.length_toList, it.1, hs]) fun i u y e1 e2 => ?_, ?_⟩, rfl, q _ (I.hok.fresh (Nat.le_refl _))⟩
    · obtain ⟨x, ex, rfl⟩ := it.2 i u (by simp_all)
      exact hr i x y ex e2
    assumption
  rcases h with ⟨_, _, z, _⟩ | ⟨kvs, e, q⟩
  · exact z.elim
  · obtain ⟨z, lo, es, p, rr, hs, bs, pb, hr⟩ := raw_t I e
    have hb := Paired.length pb
    refine wpTk I.tk (kdl_call (rd_src lo) (I.ok.hd hc) rr (by rw [hs]; exact z) fun h' tk acc c kp e' it h0 => fin _ es h' tk acc c (by rw [List.length_map, ← hb]; exact z) (by grind) (fun i x y ex ey => ?_) kp e' it h0 fun l hl => q bs l pb hl)
    rw [List.getElem?_map] at ey
    cases hk : bs[i]? with
    | none => rw [hk] at ey; cases ey
    | some b => rw [hk] at ey; cases ey; exact hr i x b ex hk
end
end L3
namespace L3
open PySem PySem.Spec PyProof.Rows L2
theorem bt_sorted : bootBuiltins "sorted" = some (.builtin "sorted") := by decide +kernel
theorem for_str {x : Str} {g : TG} {tb : TS} {D : Ends} {σ : L2.St} {H : Hp} (Pv : Nat → L2.St → Hp → Prop) (h0 : Pv 0 σ H)
    (hs : ∀ i c σ H, x.cps.toList[i]? = some c → Pv i σ H → g (.str ⟨#[c]⟩) σ H fun σ2 H2 => tb { D with nx := Pv (i + 1), ct := Pv (i + 1), bk := D.nx } σ2 H2) (hd : ∀ σ H, Pv x.cps.toList.length σ H → D.nx σ H) :
    ∃ W : Nat → Nat → L2.St → Hp → Prop, (∃ m, W 0 m σ H) ∧ ∀ i m σ H, W i m σ H →
      ((Its x).stop i H ∧ D.nx σ H) ∨ ((Its x).go i H ∧ ∃ N : L2.St → Hp → Prop, (∀ σ' H', N σ' H' → ∃ m', m' < m ∧ W (i + 1) m' σ' H') ∧ ∀ v H', (Its x).yld i H v H' → g v σ H' fun σ2 H2 => tb { D with nx := N, ct := N, bk := D.nx } σ2 H2) := by
  refine ⟨fun i m σ H => m = x.cps.size - i ∧ i ≤ x.cps.size ∧ Pv i σ H, ⟨x.cps.size, by simp, Nat.zero_le _, h0⟩, ?_⟩
  rintro i m σ H ⟨rfl, hi, p⟩
  by_cases c : i < x.cps.size
  · refine .inr ⟨c, Pv _, fun σ' H' p' => ⟨x.cps.size - (i + 1), by omega, rfl, c, p'⟩, fun v H' y => ?_⟩
    obtain ⟨rfl, k, hk, rfl⟩ := y
    exact hs i k σ _ (by grind) p
  · have e : i = x.cps.toList.length := by grind
    refine .inl ⟨Nat.le_of_not_lt c, hd σ H (e ▸ p)⟩
end L3

/-! merging, told of lists: what is out, what is left of the one and of the other. -/
namespace L3
section
variable {α : Type} {r : α → α → Prop}
structure MInv (r : α → α → Prop) (T O X Y : List α) : Prop where
  so : O.Pairwise r
  sx : X.Pairwise r
  sy : Y.Pairwise r
  ox : ∀ o, o ∈ O → ∀ x, x ∈ X → r o x
  oy : ∀ o, o ∈ O → ∀ y, y ∈ Y → r o y
  pm : (O ++ X ++ Y).Perm T
variable {T O X Y X1 X2 Y1 Y2 : List α}
theorem MInv.swap (h : MInv r T O X Y) : MInv r T O Y X :=
  ⟨h.so, h.sy, h.sx, h.oy, h.ox, ((List.append_assoc O Y X) ▸ (List.Perm.append_left O (List.perm_append_comm (l₁ := Y)))).trans ((List.append_assoc O X Y) ▸ h.pm)⟩
theorem MInv.takeX (h : MInv r T O (X1 ++ X2) Y) (hh : ∀ x, x ∈ X1 → ∀ y, y ∈ Y → r x y) : MInv r T (O ++ X1) X2 Y := by
  have s := List.pairwise_append.mp h.sx
  refine ⟨List.pairwise_append.mpr ⟨h.so, s.1, fun o ho x hx => h.ox o ho x (List.mem_append_left _ hx)⟩, s.2.1, h.sy, ?_, ?_, ?_⟩
  · intro o ho x hx
    rcases List.mem_append.mp ho with ho | ho
    · exact h.ox o ho x (List.mem_append_right _ hx)
    simp_all
  · intro o ho y hy
    rcases List.mem_append.mp ho with ho | ho
    · exact h.oy o ho y hy
    · exact hh o ho y hy
  · have e : O ++ X1 ++ X2 ++ Y = O ++ (X1 ++ X2) ++ Y := by rw [List.append_assoc O X1 X2]
    rw [e]; exact h.pm
theorem MInv.takeY (h : MInv r T O X (Y1 ++ Y2)) (hh : ∀ y, y ∈ Y1 → ∀ x, x ∈ X → r y x) : MInv r T (O ++ Y1) X Y2 :=
  (h.swap.takeX hh).swap
theorem MInv.endX (h : MInv r T O X Y) (hh : ∀ x, x ∈ X → ∀ y, y ∈ Y → r x y) : (O ++ X ++ Y).Pairwise r ∧ (O ++ X ++ Y).Perm T := by
  refine ⟨List.pairwise_append.mpr ⟨List.pairwise_append.mpr ⟨h.so, h.sx, h.ox⟩, h.sy, fun o ho y hy => ?_⟩, h.pm⟩
  rcases List.mem_append.mp ho with ho | ho
  · exact h.oy o ho y hy
  · exact hh o ho y hy
theorem MInv.endY (h : MInv r T O X Y) (hh : ∀ y, y ∈ Y → ∀ x, x ∈ X → r y x) : (O ++ Y ++ X).Pairwise r ∧ (O ++ Y ++ X).Perm T := h.swap.endX hh
theorem MInv.headX {x : α} (h : MInv r T O (x :: X) Y) : ∀ x', x' ∈ X → r x x' := (List.pairwise_cons.mp h.sx).1
theorem MInv.headY {y : α} (h : MInv r T O X (y :: Y)) : ∀ y', y' ∈ Y → r y y' := (List.pairwise_cons.mp h.sy).1
end
end L3

/-! the sort's gallop: the boundary of what is true first and false behind. -/
namespace L3
open PySem PyProof.Rows
def KLt (prog : Program) (w : World) (A : Around) (s : Shared) (κ : KeyKind) (kd : SortKind) : Prop :=
  ∀ (E : Value → Shared → Prop) (x y : Value) (a b : κ.α) {Q : Bool → Shared → Prop}, κ.keyOf x = some a → κ.keyOf y = some b → Q (κ.blt a b) s → wpAny (model prog w) A (keyLt' kd x y) Q E s
theorem klt_one {κ : KeyKind} {prog : Program} {w : World} {A : Around} {s : Shared} (h : κ.OneLt) : KLt prog w A s κ oneType' := fun E x y a b _ hx hy q => by
  exact h prog w A E s x y a b hx hy q
theorem wpS_ite {M : Model} {A : Around} {E : Value → Shared → Prop} {s : Shared} {σ α : Type} {c : Prop} [Decidable c] {x y : StateT σ Sem α} {Q : α → σ → Prop} {st : σ} (h : c → wpS M A E s x Q st) (k : ¬ c → wpS M A E s y Q st) : wpS M A E s (if c then x else y) Q st := by
  split
  · exact h ‹_›
  · exact k ‹_›
section
variable {kd : SortKind} {κ : KeyKind} {prog : Program} {w : World} {A : Around} {E : Value → Shared → Prop} {s : Shared}
noncomputable def ky (κ : KeyKind) (p : Keyed) : κ.α := (κ.keyOf p.1).getD κ.dflt
def Rk (κ : KeyKind) (p q : Keyed) : Prop := κ.kle (ky κ p) (ky κ q)
def Ko (κ : KeyKind) (p : Keyed) : Prop := ∃ a, κ.keyOf p.1 = some a
theorem Ko.eq {p : Keyed} (h : Ko κ p) : κ.keyOf p.1 = some (ky κ p) := by
  obtain ⟨a, h⟩ := h
  unfold ky; rw [h]; rfl
theorem Rk.of_lt {p q : Keyed} (h : κ.blt (ky κ p) (ky κ q) = true) : Rk κ p q := KeyOrd.klt_asymm h
theorem Rk.trans {p q t : Keyed} (h : Rk κ p q) (h' : Rk κ q t) : Rk κ p t := KeyOrd.kle_trans h h'
theorem wpS_lt2 (hO : KLt prog w A s κ kd) {st : SortSt} {x y : Keyed} {Q : Option Bool → SortSt → Prop} (hk : kindOf st = kd) (hx : Ko κ x) (hy : Ko κ y)
    (h : Q (some (κ.blt (ky κ x) (ky κ y))) st) : wpS (model prog w) A E s (lt' x y) Q st := by
  rw [lt'_eq]
  refine wpS_bind (wpS_get ?_)
  rw [hk]
  exact wpS_bind (wpS_lift (wpAny_attempt (hO _ _ _ _ _ hx.eq hy.eq ⟨rfl, wpS_pure h⟩)))
theorem wpS_elem {M : Model} {st : SortSt} {arr : Array Keyed} {i : Nat} {p : Keyed} {Q : Keyed → SortSt → Prop} (hi : arr[i]? = some p) (h : Q p st) : wpS M A E s (elem' arr i) Q st := by
  rw [elem'_eq, hi]; exact wpS_pure h
noncomputable def gallop' : Bool → Keyed → Array Keyed → Nat → Nat → Nat → StateT SortSt Sem (Option Nat) := sortPriv% PySem.Builtin.gallop
theorem wpS_gallop {M : Model} {left : Bool} {key : Keyed} {arr : Array Keyed} {base n hint : Nat} {st : SortSt} {P : Nat → Bool} (hh : hint < n)
    (hb : ∀ i, i < n → ∃ p, arr[base + i]? = some p ∧ ∀ {Q : Option Bool → SortSt → Prop}, Q (some (P i)) st → wpS M A E s (if left then lt' p key else do return (← lt' key p).map (!·)) Q st)
    (mono : ∀ i j, i ≤ j → j < n → P j = true → P i = true) {Q : Option Nat → SortSt → Prop}
    (h : ∀ c, c ≤ n → (∀ i, i < c → P i = true) → (∀ i, c ≤ i → i < n → P i = false) → Q (some c) st) : wpS M A E s (gallop' left key arr base n hint) Q st := by
  have mono2 : ∀ i j, i ≤ j → j < n → P i = false → P j = false := fun i j h1 h2 h3 => by
    cases c : P j with
    | false => rfl
    | true => rw [mono i j h1 h2 c] at h3; cases h3
  have hb' : ∀ i, i < n → ∀ {Q : Option Bool → SortSt → Prop}, Q (some _) st → wpS M A E s (do
      let x ← elem' arr _
      if left = true then lt' x key else do
        let y ← lt' key x
        pure (Option.map _ y)) Q st := fun i hi Q hq => by
    obtain ⟨p, hp, hb⟩ := hb i hi
    exact wpS_bind (wpS_elem hp (hb hq))
  refine wpS_bind (hb' hint hh ?_)
  dsimp -zeta only
  extract_lets +onlyGivenNames jp
  have fin : ∀ l o lo hi , lo ≤ hi → hi ≤ n → (∀ i, i < lo → P i = true) → (∀ i, hi ≤ i → i < n → P i = false) → wpS M A E s (jp () l o lo hi) Q st := by
    intro _ _ lo hi h1 h2 h3 h4
    refine wpS_bind (wpS_mono (wpS_forRange (I := fun x c st' => st' = st ∧ ∃ lo hi : Nat, c = (none, lo, hi) ∧ lo ≤ hi ∧ hi ≤ n ∧ hi - lo ≤ n - x ∧ (∀ i, i < lo → P i = true) ∧ (∀ i, hi ≤ i → i < n → P i = false))
      (Q := fun c st' => st' = st ∧ ∃ lo hi : Nat, c = (none, lo, hi) ∧ hi ≤ n ∧ (∀ i, i < hi → P i = true) ∧ (∀ i, hi ≤ i → i < n → P i = false)) ?step0 ?fin0 ⟨rfl, lo, hi, rfl, h1, h2, by omega, h3, h4⟩) ?post0)
    case post0 =>
      rintro c st' ⟨rfl, lo, hi, rfl, a, b, d⟩
      exact wpS_pure (h hi a b d)
    case fin0 =>
      rintro c st' ⟨rfl, lo, hi, rfl, a, b, d, e, f⟩
      grind
    case step0 =>
      rintro x c st' _ hx ⟨rfl, lo, hi, rfl, a, b, d, e, f⟩
      dsimp only
      refine wpS_ite (fun hge => ?_) fun hge => ?_
      · have : lo = hi := by omega
        subst this
        exact wpS_pure ⟨rfl, lo, lo, rfl, b, e, f⟩
      · refine wpS_bind (hb' _ (by omega) ?_)
        cases hm : P _ with
        | true => exact wpS_pure ⟨rfl, _, hi, rfl, by omega, b, by omega, fun i hi' => mono i _ (by omega) (by omega) hm, f⟩
        | false => exact wpS_pure ⟨rfl, lo, _, rfl, by omega, by omega, by omega, e, fun i h5 h6 => mono2 _ i h5 h6 hm⟩
  clear_value jp
  cases hr : P hint with
  | true =>
    refine wpS_bind (wpS_mono (wpS_forRange (I := fun x c st' => st' = st ∧ ∃ l o : Nat, c = (none, l, o) ∧ hint + l < n ∧ P (hint + l) = true ∧ l < o ∧ x + 1 ≤ o)
      (Q := fun c st' => st' = st ∧ ∃ l o : Nat, c = (none, l, o) ∧ hint + l < n ∧ P (hint + l) = true ∧ l < o ∧ (o ≥ n - hint ∨ P (hint + o) = false)) ?step ?fin ⟨rfl, 0, 1, rfl, hh, hr, by omega, by omega⟩) ?post)
    case post =>
      rintro c st' ⟨rfl, l, o, rfl, a, b, d, e⟩
      refine fin _ _ (hint + l + 1) (hint + min o _) (by omega) (by omega) (fun i hi => mono i _ (by omega) a b) fun i h1 h2 => ?_
      rcases e with e | e
      · grind
      · grind
    case fin =>
      grind
    case step =>
      rintro x c st' _ hx ⟨rfl, l, o, rfl, a, b, d, e⟩
      dsimp only
      refine wpS_ite (fun hge => ?_) fun hge => ?_
      · exact wpS_pure ⟨rfl, l, o, rfl, a, b, d, .inl hge⟩
      · refine wpS_bind (hb' _ (by omega) ?_)
        cases hm : P _ with
        | true => exact wpS_pure ⟨rfl, o, 2 * o + 1, rfl, by omega, hm, by omega, by omega⟩
        | false => exact wpS_pure ⟨rfl, l, o, rfl, a, b, d, .inr hm⟩
  | false =>
    refine wpS_bind (wpS_mono (wpS_forRange (I := fun x c st' => st' = st ∧ ∃ l o : Nat, c = (none, l, o) ∧ l ≤ hint ∧ P (hint - l) = false ∧ l < o ∧ x + 1 ≤ o)
      (Q := fun c st' => st' = st ∧ ∃ l o : Nat, c = (none, l, o) ∧ l ≤ hint ∧ P (hint - l) = false ∧ l < o ∧ (o ≥ hint + 1 ∨ P (hint - o) = true)) ?step2 ?fin2 ⟨rfl, 0, 1, rfl, by omega, hr, by omega, by omega⟩) ?post2)
    case post2 =>
      rintro c st' ⟨rfl, l, o, rfl, a, b, d, e⟩
      refine fin _ _ (hint + 1 - min o _) (hint - l) (by omega) (by omega) (fun i hi => ?_) fun i h1 h2 => mono2 _ i h1 h2 b
      rcases e with e | e
      · grind
      · grind
    case fin2 =>
      grind
    case step2 =>
      rintro x c st' _ hx ⟨rfl, l, o, rfl, a, b, d, e⟩
      dsimp only
      refine wpS_ite (fun hge => ?_) fun hge => ?_
      · exact wpS_pure ⟨rfl, l, o, rfl, a, b, d, .inl hge⟩
      · refine wpS_bind (hb' _ (by omega) ?_)
        cases hm : P _ with
        | true => exact wpS_pure ⟨rfl, l, o, rfl, a, b, d, .inr hm⟩
        | false => exact wpS_pure ⟨rfl, o, 2 * o + 1, rfl, by omega, hm, by omega, by omega⟩
noncomputable def bpK (κ : KeyKind) (left : Bool) (key p : Keyed) : Bool := if left then κ.blt (ky κ p) (ky κ key) else !κ.blt (ky κ key) (ky κ p)
theorem bpK_mono {left : Bool} {key p q : Keyed} (h : Rk κ p q) (hq : bpK κ left key q = true) : bpK κ left key p = true := by
  unfold bpK at hq ⊢
  cases left with
  | true => exact KeyOrd.klt_of_kle_of_klt h hq
  | false =>
    simp only [Bool.false_eq_true, if_false, Bool.not_eq_true'] at hq ⊢
    exact KeyOrd.kle_trans h hq
theorem wpS_gallopK (hO : KLt prog w A s κ kd) {left : Bool} {key : Keyed} {arr : Array Keyed} {base n hint : Nat} {st : SortSt} {L : List Keyed} (hk : kindOf st = kd) (hkey : Ko κ key) (hL : ∀ p, p ∈ L → Ko κ p)
    (hn : L.length = n) (ha : ∀ i, i < n → arr[base + i]? = L[i]?) (srt : L.Pairwise (Rk κ)) (hh : hint < n) {Q : Option Nat → SortSt → Prop}
    (h : ∀ c, c ≤ n → (∀ p, p ∈ L.take c → bpK κ left key p = true) → (∀ p, p ∈ L.drop c → bpK κ left key p = false) → Q (some c) st) : wpS (model prog w) A E s (gallop' left key arr base n hint) Q st := by
  subst hn
  have hg : ∀ i (hi : i < L.length), L[i]? = some _ := fun i hi => List.getElem?_eq_getElem hi
  refine wpS_gallop (P := fun i => match L[i]? with | some p => bpK κ left key p | none => false) hh (fun i hi => ⟨L[i], by rw [ha i hi, hg i hi], fun {Q} hq => ?_⟩) (fun i j hij hj hp => ?_) fun c hc h1 h2 => h c hc ?_ ?_
  · rw [hg i hi] at hq
    have ko := hL _ (List.getElem_mem hi)
    cases left with
    | true => exact wpS_lt2 hO hk ko hkey hq
    | false => exact wpS_bind (wpS_lt2 hO hk hkey ko (wpS_pure hq))
  · rw [hg j hj] at hp
    rw [hg i (by omega)]
    by_cases e : i = j
    · subst e; exact hp
    · exact bpK_mono (List.pairwise_iff_getElem.mp srt i j _ hj (by omega)) hp
  · intro p hp
    obtain ⟨i, hi, rfl⟩ := List.mem_iff_getElem.mp hp
    have := List.length_take_le c L
    have hi' : i < L.length := by rw [List.length_take] at hi; omega
    have e := h1 i (by rw [List.length_take] at hi; omega)
    rw [hg i hi'] at e
    rw [List.getElem_take]; exact e
  · intro p hp
    obtain ⟨i, hi, rfl⟩ := List.mem_iff_getElem.mp hp
    simp_all
end
end L3

/-! merging from the front. -/
namespace L3
open PySem PyProof.Rows
section
variable {kd : SortKind} {κ : KeyKind} {prog : Program} {w : World} {A : Around} {E : Value → Shared → Prop} {s : Shared}
def Sm (st st' : SortSt) : Prop := kindOf st' = kindOf st ∧ arrOf st' = arrOf st ∧ pendingOf st' = pendingOf st ∧ failedOf st' = failedOf st
noncomputable abbrev setGal (st : SortSt) (g : Nat) : SortSt := SortSt.mk' (kindOf st) (arrOf st) (pendingOf st) g (failedOf st)
theorem Sm.refl (st : SortSt) : Sm st st := ⟨rfl, rfl, rfl, rfl⟩
theorem ar_drop {α : Type} {a : Array α} {i : Nat} {p : α} (h : a[i]? = some p) : a.toList.drop i = p :: a.toList.drop (i + 1) := by
  rw [← Array.getElem?_toList] at h
  obtain ⟨hi, e⟩ := List.getElem?_eq_some_iff.mp h
  rw [List.drop_eq_getElem_cons hi, e]
theorem ar_some {α : Type} {a : Array α} {i : Nat} (h : i < a.size) : ∃ p, a[i]? = some p := ⟨a[i], getElem?_pos a i h⟩
theorem ar_cut {α : Type} (l : List α) (i k : Nat) : l.drop i = (l.drop i).take k ++ l.drop (i + k) := by
  rw [← List.drop_drop, List.take_append_drop]
theorem ar_ext {α : Type} (a : Array α) (i k : Nat) : (a.extract i (i + k)).toList = (a.toList.drop i).take k := by simp_all
theorem ar_ext2 {α : Type} (a : Array α) (i : Nat) : (a.extract i a.size).toList = a.toList.drop i := by
  rw [Array.toList_extract, List.extract_eq_take_drop, List.take_of_length_le (by simp_all)]
theorem ar_mem {α : Type} {a : Array α} {i : Nat} {p : α} (h : a[i]? = some p) : p ∈ a.toList := by
  rw [← Array.getElem?_toList] at h
  exact List.mem_of_getElem? h
def Gd (κ : KeyKind) (T : List Keyed) (r : Array Keyed) : Prop := r.toList.Pairwise (Rk κ) ∧ r.toList.Perm T
structure Lo (κ : KeyKind) (a b : Array Keyed) (o : Array Keyed) (ia ib : Nat) : Prop where
  na : ia + 1 < a.size
  nb : ib < b.size
  inv : MInv (Rk κ) (a.toList ++ b.toList) o.toList (a.toList.drop ia) (b.toList.drop ib)
section
variable {a b o : Array Keyed} {ia ib : Nat}
abbrev LoI (κ : KeyKind) (a b o : Array Keyed) (ia ib : Nat) : Prop := MInv (Rk κ) (a.toList ++ b.toList) o.toList (a.toList.drop ia) (b.toList.drop ib)
theorem Lo.done (h : LoI κ a b o ia ib) (e : ib = b.size ∨ ia = a.size) : Gd κ (a.toList ++ b.toList) (o ++ a.extract ia a.size ++ b.extract ib b.size) := by
  unfold Gd
  rw [Array.toList_append, Array.toList_append, ar_ext2, ar_ext2]
  refine h.endX fun x hx y hy => ?_
  rcases e with e | e
  · rw [List.drop_eq_nil_of_le (by simp_all)] at hy; cases hy
  · rw [List.drop_eq_nil_of_le (by simp_all)] at hx; cases hx
theorem Lo.last (h : LoI κ a b o ia ib) (e : ia + 1 = a.size) (hl : ∀ p, a[a.size - 1]? = some p → ∀ y, y ∈ b.toList → Rk κ y p) : Gd κ (a.toList ++ b.toList) (o ++ b.extract ib b.size ++ a.extract ia a.size) := by
  unfold Gd
  rw [Array.toList_append, Array.toList_append, ar_ext2, ar_ext2]
  obtain ⟨p, hp⟩ := ar_some (a := a) (i := ia) (by lia)
  refine h.endY fun y hy x hx => ?_
  rw [ar_drop hp, List.drop_eq_nil_of_le (by simp_all)] at hx
  rw [List.mem_singleton.mp hx]
  exact hl p (by rw [← e]; exact hp) y (List.mem_of_mem_drop hy)
theorem Lo.pushB {p : Keyed} (h : LoI κ a b o ia ib) (hp : b[ib]? = some p) (hx : ∀ x, x ∈ a.toList.drop ia → Rk κ p x) : LoI κ a b (o.push p) ia (ib + 1) := by
  unfold LoI at h ⊢
  rw [ar_drop hp] at h
  rw [Array.toList_push]
  exact MInv.takeY h fun y hy x hx' => by rw [List.mem_singleton.mp hy]; exact hx x hx'
theorem Lo.pushA {p : Keyed} (h : LoI κ a b o ia ib) (hp : a[ia]? = some p) (hy : ∀ y, y ∈ b.toList.drop ib → Rk κ p y) : LoI κ a b (o.push p) (ia + 1) ib := by
  unfold LoI at h ⊢
  rw [ar_drop hp] at h
  rw [Array.toList_push]
  exact MInv.takeX h fun x hx y hy' => by rw [List.mem_singleton.mp hx]; exact hy y hy'
theorem Lo.moreA {k : Nat} (h : LoI κ a b o ia ib) (hx : ∀ x, x ∈ (a.toList.drop ia).take k → ∀ y, y ∈ b.toList.drop ib → Rk κ x y) : LoI κ a b (o ++ a.extract ia (ia + k)) (ia + k) ib := by
  unfold LoI at h ⊢
  rw [ar_cut _ ia k] at h
  rw [Array.toList_append, ar_ext]
  exact MInv.takeX h hx
theorem Lo.moreB {k : Nat} (h : LoI κ a b o ia ib) (hy : ∀ y, y ∈ (b.toList.drop ib).take k → ∀ x, x ∈ a.toList.drop ia → Rk κ y x) : LoI κ a b (o ++ b.extract ib (ib + k)) ia (ib + k) := by
  unfold LoI at h ⊢
  rw [ar_cut _ ib k] at h
  rw [Array.toList_append, ar_ext]
  exact MInv.takeY h hy
theorem Lo.leA {p : Keyed} (h : LoI κ a b o ia ib) (hp : a[ia]? = some p) : ∀ x, x ∈ a.toList.drop ia → Rk κ p x := by
  unfold LoI at h
  rw [ar_drop hp] at h ⊢
  intro x hx
  rcases List.mem_cons.mp hx with rfl | hx
  · exact KeyOrd.kle_refl _
  · exact h.headX x hx
theorem Lo.leB {p : Keyed} (h : LoI κ a b o ia ib) (hp : b[ib]? = some p) : ∀ y, y ∈ b.toList.drop ib → Rk κ p y := by
  unfold LoI at h
  rw [ar_drop hp] at h ⊢
  intro x hx
  rcases List.mem_cons.mp hx with rfl | hx
  · exact KeyOrd.kle_refl _
  · exact h.headY x hx
end
theorem bpK_rt {key p : Keyed} (h : bpK κ false key p = true) : Rk κ p key := by
  unfold bpK at h; exact show κ.blt _ _ = false by simpa using h
theorem bpK_rf {key p : Keyed} (h : bpK κ false key p = false) : Rk κ key p := by
  unfold bpK at h; exact Rk.of_lt (by simpa using h)
theorem bpK_lt {key p : Keyed} (h : bpK κ true key p = true) : Rk κ p key := by
  unfold bpK at h; exact Rk.of_lt (by simpa using h)
theorem bpK_lf {key p : Keyed} (h : bpK κ true key p = false) : Rk κ key p := by
  assumption
theorem ar_slice {α : Type} (a : Array α) (i k : Nat) : a[i + k]? = (a.toList.drop i)[k]? := by simp_all
section
variable {τ : Type} {κ : KeyKind} {a b g o : Array Keyed} {ka kb n : Nat} {t : τ}
def MF (κ : KeyKind) (a b : Array Keyed) (c : Option (Array Keyed) × τ) : Prop := ∃ g t, c = (some g, t) ∧ Gd κ (a.toList ++ b.toList) g
def LoS (κ : KeyKind) (a b : Array Keyed) (n : Nat) (c : Option (Array Keyed) × Array Keyed × Nat × Nat × τ) : Prop := ∃ o ka kb t, c = (none, o, ka, kb, t) ∧ Lo κ a b o ka kb ∧ n ≤ ka + kb
theorem MF.i (h : Gd κ (a.toList ++ b.toList) g) : MF κ a b (some g, t) := ⟨_, _, rfl, h⟩
theorem LoS.i (l : Lo κ a b o ka kb) (h : n ≤ ka + kb) : LoS κ a b n (none, o, ka, kb, t) := ⟨_, _, _, _, rfl, l, h⟩
end
def LoQ (κ : KeyKind) (a b : Array Keyed) (st : SortSt) (n n' : Nat) : ForInStep (Option (Array Keyed) × Array Keyed × Nat × Nat × Nat × Nat × Nat) → SortSt → Prop
  | .done c, st' => Sm st st' ∧ (MF κ a b c ∨ LoS κ a b n c)
  | .yield c, st' => Sm st st' ∧ LoS κ a b n' c
theorem nbq {m n : Nat} (c : ¬ (m == n) = true) : ¬ m = n := fun e => c (beq_iff_eq.mpr e)
noncomputable def mergeLo' : Array Keyed → Array Keyed → StateT SortSt Sem (Array Keyed) := sortPriv% PySem.Builtin.mergeLo
theorem wpS_mergeLo (hO : KLt prog w A s κ kd) {a b : Array Keyed} {st : SortSt} (hk : kindOf st = kd) (ka : ∀ p, p ∈ a.toList → Ko κ p) (kb : ∀ p, p ∈ b.toList → Ko κ p) (sa : a.toList.Pairwise (Rk κ)) (sb : b.toList.Pairwise (Rk κ))
    (na : 0 < a.size) (nb : 0 < b.size) (hf : ∀ p, b[0]? = some p → ∀ x, x ∈ a.toList → Rk κ p x) (hl : ∀ p, a[a.size - 1]? = some p → ∀ y, y ∈ b.toList → Rk κ y p) {Q : Array Keyed → SortSt → Prop}
    (h : ∀ o st', Sm st st' → Gd κ (a.toList ++ b.toList) o → Q o st') : wpS (model prog w) A E s (mergeLo' a b) Q st := by
  delta mergeLo'
  refine wpS_bind (wpS_lift (wpAny_rule ⟨rfl, ?_⟩))
  extract_lets +onlyGivenNames total done last
  obtain ⟨b0, hb0⟩ := ar_some nb
  refine wpS_bind (wpS_elem hb0 ?_)
  have i0 : LoI κ a b #[] 0 0 := ⟨List.Pairwise.nil, sa, sb, (fun o ho => nomatch ho), (fun o ho => nomatch ho), List.Perm.refl _⟩
  have i1 : LoI κ a b #[b0] 0 1 := Lo.pushB i0 hb0 fun x hx => hf b0 hb0 x hx
  extract_lets +onlyGivenNames out ia ib
  refine wpS_ite (fun c1 => wpS_pure (h _ _ (Sm.refl _) (Lo.done i1 (.inl (by simpa using c1))))) fun c1 => ?_
  refine wpS_ite (fun c2 => wpS_pure (h _ _ (Sm.refl _) (Lo.last i1 (by simpa using c2) hl))) fun c2 => ?_
  refine wpS_bind (wpS_get ?_)
  have h1 : ¬ 0 + 1 = a.size := by simpa using c2
  have h2 : ¬ 1 = b.size := by simpa using c1
  have l1 : Lo κ a b #[b0] 0 1 := ⟨by lia, by lia, i1⟩
  have tot : total = a.size + b.size := rfl
  clear_value total
  refine wpS_bind (wpS_mono (wpS_forRange (a := 0) (b := total) (I := fun x c st' => Sm st st' ∧ LoS κ a b x c) (Q := fun c st' => Sm st st' ∧ MF κ a b c) ?step ?fin ⟨Sm.refl _, .i l1 (Nat.zero_le _)⟩) ?post)
  case post =>
    rintro c st' ⟨sm, g, t, rfl, hg⟩
    exact wpS_pure (h _ _ sm hg)
  case fin =>
    rintro c st' ⟨sm, o, ia, ib, mg, rfl, l, hx⟩
    have := l.na; have := l.nb
    lia
  case step =>
    rintro x c st1 _ hx ⟨sm, o, ia, ib, mg, rfl, l, hxx⟩
    have hk1 : kindOf st1 = kd := sm.1.trans hk
    refine wpS_bind (wpS_mono (wpS_forRange (a := 0) (b := total) (I := fun x c st' => st' = st1 ∧ LoS κ a b (ia + ib + x) c) (Q := fun c st' => st' = st1 ∧ (MF κ a b c ∨ LoS κ a b (ia + ib + 1) c)) ?step1 ?fin1 ⟨rfl, .i l (Nat.le_refl _)⟩) ?post1)
    case fin1 =>
      rintro c st' ⟨rfl, o, ja, jb, t, rfl, l, hx⟩
      have := l.na; have := l.nb
      lia
    case step1 =>
      rintro y c st2 _ hy ⟨rfl, o, ja, jb, ⟨ac, bc⟩, rfl, l, hyy⟩
      have n1 := l.na
      have n2 := l.nb
      obtain ⟨p, hp⟩ := ar_some n2
      obtain ⟨q, hq⟩ := ar_some (a := a) (i := ja) (by lia)
      refine wpS_bind (wpS_elem hp (wpS_bind (wpS_elem hq (wpS_bind (wpS_lt2 hO hk1 (kb p (ar_mem hp)) (ka q (ar_mem hq)) ?_)))))
      dsimp -zeta only
      cases hw : κ.blt _ _ with
      | true =>
        refine wpS_bind (wpS_elem hp ?_)
        have inv := Lo.pushB l.inv hp fun x hx => (Rk.of_lt hw).trans (Lo.leA l.inv hq x hx)
        refine wpS_ite (fun c => wpS_pure ⟨rfl, .inl (.i (Lo.done inv (.inl (by simpa using c))))⟩) fun c => ?_
        have l' : Lo κ a b _ ja _ := ⟨n1, by lia, inv⟩
        exact wpS_ite (fun c => wpS_pure ⟨rfl, .inr (.i l' (by lia))⟩) fun c => wpS_pure ⟨rfl, .i l' (by lia)⟩
      | false =>
        refine wpS_bind (wpS_elem hq ?_)
        have inv := Lo.pushA l.inv hq fun y hy => Rk.trans (hw) (Lo.leB l.inv hp y hy)
        refine wpS_ite (fun c => wpS_pure ⟨rfl, .inl (.i (Lo.last inv (by simpa using c) hl))⟩) fun c => ?_
        have l' : Lo κ a b _ _ jb := ⟨by lia, n2, inv⟩
        exact wpS_ite (fun c => wpS_pure ⟨rfl, .inr (.i l' (by lia))⟩) fun c => wpS_pure ⟨rfl, .i l' (by lia)⟩
    case post1 =>
      rintro c st2 ⟨rfl, ⟨g, ⟨o, ja, jb, ac, bc⟩, rfl, hg⟩ | ⟨o, ja, jb, ⟨ac, bc⟩, rfl, l, hj⟩⟩
      · exact wpS_pure ⟨sm, .i hg⟩
      refine wpS_bind (wpS_lift (wpAny_rule ⟨rfl, ?_⟩))
      refine wpS_bind (wpS_mono (wpS_forRange (a := 0) (b := total) (I := fun x c st' => Sm st st' ∧ LoS κ a b (ja + jb + x) c) (Q := fun c st' => Sm st st' ∧ (MF κ a b c ∨ LoS κ a b (ja + jb) c)) ?step2 ?fin2 ⟨sm, .i l (Nat.le_refl _)⟩) ?post2)
      case fin2 =>
        rintro c st' ⟨sm, o, ja, jb, t, rfl, l, hx⟩
        have := l.na; have := l.nb
        lia
      case post2 =>
        rintro c st2 ⟨sm, ⟨g, ⟨o, ka, kb, mg, ac, bc⟩, rfl, hg⟩ | ⟨o, ka, kb, ⟨mg, ac, bc⟩, rfl, l, hj⟩⟩
        · exact wpS_pure ⟨sm, .i hg⟩
        · exact wpS_bind (wpS_modify (wpS_pure ⟨sm, .i l (show x + 1 ≤ ka + kb by lia)⟩))
      case step2 =>
        rintro y c st2 _ hy ⟨sm, o, ja', jb', ⟨mg, ac, bc⟩, rfl, l, hyy⟩
        dsimp -zeta only
        extract_lets +onlyGivenNames z1 o z2 ia z3 ib z4 mg z5 ac bc ib2 jp
        have n1 := l.na
        have n2 := l.nb
        obtain ⟨p, hp⟩ := ar_some (a := b) (i := jb') n2
        refine wpS_mono (Q := LoQ κ a b st (ja + jb) (ja + jb + (y + 1))) ?_ fun r st' h => by cases r <;> exact h
        have step : ∀ m, wpS (model prog w) A E s (jp () m) (LoQ κ a b st (ja + jb) (ja + jb + (y + 1))) st2 := by
          intro m
          refine wpS_bind (wpS_modify ?_)
          have sm3 : Sm st (setGal st2 m) := sm
          show wpS (model prog w) A E s _ _ (setGal st2 m)
          generalize setGal st2 m = st3 at sm3 ⊢
          have hk2 : kindOf st3 = kd := sm3.1.trans hk
          refine wpS_bind (wpS_elem (i := jb') hp ?_)
          refine wpS_bind (wpS_gallopK (κ := κ) hO (n := a.size - ja') (hint := 0) (L := a.toList.drop ja') hk2 (kb p (ar_mem hp)) (fun q hq => ka q (List.mem_of_mem_drop hq)) (by simp_all) (fun i _ => ar_slice a ja' i) l.inv.sx (by lia) ?_)
          intro k hk3 kt kf
          dsimp -zeta only
          extract_lets +onlyGivenNames acount jp2
          have step2 : ∀ (o' : Array Keyed) (ia' : Nat), ia' + 1 < a.size → ja' ≤ ia' → LoI κ a b o' ia' jb' → (∀ x, x ∈ a.toList.drop ia' → Rk κ p x) → wpS (model prog w) A E s (jp2 () o' ia') (LoQ κ a b st (ja + jb) (ja + jb + (y + 1))) st3 := by
            intro o' ia' ha' hle hi hx
            refine wpS_bind (wpS_elem hp ?_)
            have inv2 := Lo.pushB hi hp hx
            refine wpS_ite (fun c => wpS_pure ⟨sm3, .inl (.i (Lo.done inv2 (.inl (eq_of_beq c))))⟩) fun c => ?_
            obtain ⟨q, hq⟩ := ar_some (a := a) (i := ia') (by lia)
            refine wpS_bind (wpS_elem hq ?_)
            refine wpS_bind (wpS_gallopK hO (n := b.size - (jb' + 1)) (L := b.toList.drop _) hk2 (ka q (ar_mem hq)) (fun q hq => kb q (List.mem_of_mem_drop hq)) (by simp_all) (fun i _ => ar_slice b _ i) inv2.sy (by lia) ?_)
            intro k2 hk4 kt2 kf2
            dsimp -zeta only
            extract_lets +onlyGivenNames bcount ia4 jp3
            have step3 : ∀ (o3 : Array Keyed) (ib3 : Nat), ib3 < b.size → jb' + 1 ≤ ib3 → LoI κ a b o3 ia' ib3 → (∀ y, y ∈ b.toList.drop ib3 → Rk κ q y) → wpS (model prog w) A E s (jp3 () o3 ib3) (LoQ κ a b st (ja + jb) (ja + jb + (y + 1))) st3 := by
              intro o3 ib3 hb3 hle3 hi3 hy3
              refine wpS_bind (wpS_elem hq ?_)
              have inv3 := Lo.pushA hi3 hq hy3
              refine wpS_ite (fun c => wpS_pure ⟨sm3, .inl (.i (Lo.last inv3 (eq_of_beq c) hl))⟩) fun c => ?_
              have l' : Lo κ a b _ _ ib3 := ⟨by lia, hb3, inv3⟩
              exact wpS_ite (fun c => wpS_pure ⟨sm3, .inr (.i l' (by lia))⟩) fun c => wpS_pure ⟨sm3, .i l' (by lia)⟩
            refine wpS_ite (fun c => ?_) fun c => ?_
            · have inv3 := Lo.moreB inv2 fun y hy x hx => (bpK_lt (kt2 y hy)).trans (Lo.leA hi hq x hx)
              refine wpS_ite (fun c => wpS_pure ⟨sm3, .inl (.i (Lo.done inv3 (.inl (eq_of_beq c))))⟩) fun c => ?_
              exact step3 _ _ (show jb' + 1 + k2 < b.size by lia) (show jb' + 1 ≤ jb' + 1 + k2 by lia) inv3 fun y hy => bpK_lf (kf2 y (by rw [List.drop_drop]; exact hy))
            · have : k2 = 0 := by lia
              subst this
              exact step3 _ _ (show jb' + 1 < b.size by lia) (Nat.le_refl _) inv2 fun y hy => bpK_lf (kf2 y hy)
          clear_value jp2
          refine wpS_ite (fun c => ?_) fun c => ?_
          · have inv1 := Lo.moreA l.inv fun x hx y hy => (bpK_rt (kt x hx)).trans (Lo.leB l.inv hp y hy)
            extract_lets +onlyGivenNames out5 ia5
            refine wpS_ite (fun c => wpS_pure ⟨sm3, .inl (.i (Lo.last inv1 (eq_of_beq c) hl))⟩) fun c => ?_
            refine wpS_ite (fun c' => wpS_pure ⟨sm3, .inl (.i (Lo.done inv1 (.inr (eq_of_beq c'))))⟩) fun c' => ?_
            have n4 : ¬ ja' + k + 1 = a.size := nbq c
            have n5 : ¬ ja' + k = a.size := nbq c'
            exact step2 _ _ (show ja' + k + 1 < a.size by lia) (show ja' ≤ ja' + k by lia) inv1 fun x hx => bpK_rf (kf x (by rw [List.drop_drop]; exact hx))
          · have : k = 0 := by lia
            subst this
            exact step2 _ _ n1 (Nat.le_refl _) l.inv fun x hx => bpK_rf (kf x hx)
        clear_value jp
        exact wpS_ite (fun c => step (mg - 1)) fun c => step mg
end
end L3

/-! merging from the back. -/
namespace L3
open PySem PyProof.Rows
section
variable {kd : SortKind} {κ : KeyKind} {prog : Program} {w : World} {A : Around} {E : Value → Shared → Prop} {s : Shared}
theorem ar_take {α : Type} {a : Array α} {i : Nat} {p : α} (h : a[i]? = some p) : (a.toList.take (i + 1)).reverse = p :: (a.toList.take i).reverse := by
  rw [← Array.getElem?_toList] at h
  rw [List.take_add_one, h, List.reverse_append]; rfl
theorem ar_cut2 {α : Type} (l : List α) {c n : Nat} (h : c ≤ n) : (l.take n).reverse = ((l.take n).drop c).reverse ++ (l.take c).reverse := by
  have e := List.take_append_drop c (l.take n)
  grind
theorem ar_ext3 {α : Type} (a : Array α) (c n : Nat) : (a.extract c n).toList = (a.toList.take n).drop c := by
  rw [Array.toList_extract, List.drop_take]
abbrev HiI (κ : KeyKind) (a b o : Array Keyed) (na nb : Nat) : Prop := MInv (fun p q => Rk κ q p) (a.toList ++ b.toList) o.toList (a.toList.take na).reverse (b.toList.take nb).reverse
structure Hi (κ : KeyKind) (a b : Array Keyed) (o : Array Keyed) (ia ib : Nat) : Prop where
  na : 0 < ia
  nb : 1 < ib
  la : ia ≤ a.size
  lb : ib ≤ b.size
  inv : HiI κ a b o ia ib
section
variable {a b o : Array Keyed} {na nb : Nat}
theorem Hi.done (h : HiI κ a b o na nb) (e : na = 0 ∨ nb = 0) : Gd κ (a.toList ++ b.toList) (a.extract 0 na ++ b.extract 0 nb ++ o.reverse) := by
  have h2 := h.endY fun y hy x hx => by grind
  have er : (a.extract 0 na ++ b.extract 0 nb ++ o.reverse).toList = (o.toList ++ (b.toList.take nb).reverse ++ (a.toList.take na).reverse).reverse := by simp_all
  unfold Gd
  rw [er]
  exact ⟨List.pairwise_reverse.mpr h2.1, (List.reverse_perm _).trans h2.2⟩
theorem Hi.first (h : HiI κ a b o na nb) (e : nb = 1) (hf : ∀ p, b[0]? = some p → ∀ x, x ∈ a.toList → Rk κ p x) : Gd κ (a.toList ++ b.toList) (b.extract 0 nb ++ a.extract 0 na ++ o.reverse) := by
  have h2 := h.endX fun x hx y hy => by
    have hy' := List.mem_reverse.mp hy
    obtain ⟨i, hi, rfl⟩ := List.mem_iff_getElem.mp hy'
    have hi0 : i = 0 := by grind
    subst hi0
    refine hf _ ?_ x (List.mem_of_mem_take (List.mem_reverse.mp hx))
    have hl : 0 < b.toList.length := by grind
    rw [← Array.getElem?_toList, List.getElem?_eq_getElem hl, List.getElem_take]
  have er : (b.extract 0 nb ++ a.extract 0 na ++ o.reverse).toList = (o.toList ++ (a.toList.take na).reverse ++ (b.toList.take nb).reverse).reverse := by simp_all
  unfold Gd
  rw [er]
  exact ⟨List.pairwise_reverse.mpr h2.1, (List.reverse_perm _).trans h2.2⟩
theorem Hi.pushB {p : Keyed} (h : HiI κ a b o na nb) (h0 : 0 < nb) (hp : b[nb - 1]? = some p) (hx : ∀ x, x ∈ a.toList.take na → Rk κ x p) : HiI κ a b (o.push p) na (nb - 1) := by
  unfold HiI at h ⊢
  have e := ar_take hp
  rw [Nat.sub_add_cancel h0] at e
  rw [e] at h
  rw [Array.toList_push]
  exact MInv.takeY h fun y hy x hx' => by simp_all
theorem Hi.pushA {p : Keyed} (h : HiI κ a b o na nb) (h0 : 0 < na) (hp : a[na - 1]? = some p) (hy : ∀ y, y ∈ b.toList.take nb → Rk κ y p) : HiI κ a b (o.push p) (na - 1) nb := by
  unfold HiI at h ⊢
  have e := ar_take hp
  rw [Nat.sub_add_cancel h0] at e
  rw [e] at h
  rw [Array.toList_push]
  exact MInv.takeX h fun x hx y hy' => by simp_all
theorem Hi.moreA {c : Nat} (h : HiI κ a b o na nb) (hc : c ≤ na) (hx : ∀ x, x ∈ (a.toList.take na).drop c → ∀ y, y ∈ b.toList.take nb → Rk κ y x) : HiI κ a b (o ++ (a.extract c na).reverse) c nb := by
  unfold HiI at h ⊢
  rw [ar_cut2 _ hc] at h
  rw [Array.toList_append, Array.toList_reverse, ar_ext3]
  exact MInv.takeX h fun x hx' y hy => hx x (List.mem_reverse.mp hx') y (List.mem_reverse.mp hy)
theorem Hi.moreB {c : Nat} (h : HiI κ a b o na nb) (hc : c ≤ nb) (hy : ∀ y, y ∈ (b.toList.take nb).drop c → ∀ x, x ∈ a.toList.take na → Rk κ x y) : HiI κ a b (o ++ (b.extract c nb).reverse) na c := by
  unfold HiI at h ⊢
  rw [ar_cut2 _ hc] at h
  rw [Array.toList_append, Array.toList_reverse, ar_ext3]
  exact MInv.takeY h fun y hy' x hx => hy y (List.mem_reverse.mp hy') x (List.mem_reverse.mp hx)
theorem ge_last {a : Array Keyed} {n : Nat} {p : Keyed} (h0 : 0 < n) (hp : a[n - 1]? = some p) (hs : ((a.toList.take n).reverse).Pairwise fun p q => Rk κ q p) : ∀ x, x ∈ a.toList.take n → Rk κ x p := by
  intro x hx
  have e := ar_take hp
  rw [Nat.sub_add_cancel h0] at e
  have hx' := List.mem_reverse.mpr hx
  rw [e] at hx'
  rcases List.mem_cons.mp hx' with rfl | hx'
  · exact KeyOrd.kle_refl _
  simp_all
end
def HiS {τ : Type} (κ : KeyKind) (a b : Array Keyed) (n m : Nat) (c : Option (Array Keyed) × Nat × Nat × Array Keyed × τ) : Prop := ∃ ka kb o t, c = (none, ka, kb, o, t) ∧ Hi κ a b o ka kb ∧ ka + kb + n ≤ m
theorem HiS.i {τ : Type} {κ : KeyKind} {a b o : Array Keyed} {ka kb n m : Nat} {t : τ} (l : Hi κ a b o ka kb) (h : ka + kb + n ≤ m) : HiS κ a b n m (none, ka, kb, o, t) := ⟨_, _, _, _, rfl, l, h⟩
def HiQ (κ : KeyKind) (a b : Array Keyed) (st : SortSt) (n n' t : Nat) : ForInStep (Option (Array Keyed) × Nat × Nat × Array Keyed × Nat × Nat × Nat) → SortSt → Prop
  | .done c, st' => Sm st st' ∧ (MF κ a b c ∨ HiS κ a b n t c)
  | .yield c, st' => Sm st st' ∧ HiS κ a b n' t c
theorem ar_slice0 {α : Type} (a : Array α) {i n : Nat} (h : i < n) : a[0 + i]? = (a.toList.take n)[i]? := by simp_all
theorem len_take0 {α : Type} {a : Array α} {n : Nat} (h : n ≤ a.size) : (a.toList.take n).length = n := by
  grind
theorem take_le {α : Type} (l : List α) {c n : Nat} (h : c ≤ n) : (l.take n).take c = l.take c := by rw [List.take_take, Nat.min_eq_left h]
noncomputable def mergeHi' : Array Keyed → Array Keyed → StateT SortSt Sem (Array Keyed) := sortPriv% PySem.Builtin.mergeHi
theorem wpS_mergeHi (hO : KLt prog w A s κ kd) {a b : Array Keyed} {st : SortSt} (hk : kindOf st = kd) (ka : ∀ p, p ∈ a.toList → Ko κ p) (kb : ∀ p, p ∈ b.toList → Ko κ p) (sa : a.toList.Pairwise (Rk κ)) (sb : b.toList.Pairwise (Rk κ))
    (na : 0 < a.size) (nb : 0 < b.size) (hf : ∀ p, b[0]? = some p → ∀ x, x ∈ a.toList → Rk κ p x) (hl : ∀ p, a[a.size - 1]? = some p → ∀ y, y ∈ b.toList → Rk κ y p) {Q : Array Keyed → SortSt → Prop}
    (h : ∀ o st', Sm st st' → Gd κ (a.toList ++ b.toList) o → Q o st') : wpS (model prog w) A E s (mergeHi' a b) Q st := by
  delta mergeHi'
  refine wpS_bind (wpS_lift (wpAny_rule ⟨rfl, ?_⟩))
  extract_lets +onlyGivenNames total done first na0 nb0
  obtain ⟨a0, ha0⟩ := ar_some (a := a) (i := a.size - 1) (by lia)
  refine wpS_bind (wpS_elem ha0 ?_)
  have i0 : HiI κ a b #[] a.size b.size := by
    unfold HiI
    rw [List.take_of_length_le (Nat.le_of_eq Array.length_toList), List.take_of_length_le (Nat.le_of_eq Array.length_toList)]
    exact ⟨List.Pairwise.nil, List.pairwise_reverse.mpr sa, List.pairwise_reverse.mpr sb, (fun o ho => nomatch ho), (fun o ho => nomatch ho), List.Perm.append (List.reverse_perm _) (List.reverse_perm _)⟩
  have i1 : HiI κ a b #[a0] (a.size - 1) b.size := Hi.pushA i0 na ha0 fun y hy => hl a0 ha0 y (List.mem_of_mem_take hy)
  extract_lets +onlyGivenNames out
  refine wpS_ite (fun c1 => wpS_pure (h _ _ (Sm.refl _) (Hi.done i1 (.inl (eq_of_beq c1))))) fun c1 => ?_
  refine wpS_ite (fun c2 => wpS_pure (h _ _ (Sm.refl _) (Hi.first i1 (eq_of_beq c2) hf))) fun c2 => ?_
  refine wpS_bind (wpS_get ?_)
  have m1 : ¬ a.size - 1 = 0 := nbq c1
  have m2 : ¬ b.size = 1 := nbq c2
  have l1 : Hi κ a b #[a0] (a.size - 1) b.size := ⟨by lia, by lia, by lia, by lia, i1⟩
  have tot : total = a.size + b.size := rfl
  clear_value total
  refine wpS_bind (wpS_mono (wpS_forRange (a := 0) (b := total) (I := fun x c st' => Sm st st' ∧ HiS κ a b x total c) (Q := fun c st' => Sm st st' ∧ MF κ a b c) ?step ?fin ⟨Sm.refl _, .i l1 (show a.size - 1 + b.size + 0 ≤ total by lia)⟩) ?post)
  case post =>
    rintro c st' ⟨sm, g, t, rfl, hg⟩
    exact wpS_pure (h _ _ sm hg)
  case fin =>
    rintro c st' ⟨sm, ia, ib, o, mg, rfl, l, hx⟩
    have := l.na; grind
  case step =>
    rintro x c st1 _ hx ⟨sm, ia, ib, o, mg, rfl, l, hxx⟩
    have hk1 : kindOf st1 = kd := sm.1.trans hk
    refine wpS_bind (wpS_mono (wpS_forRange (a := 0) (b := total) (I := fun y c st' => st' = st1 ∧ HiS κ a b y (ia + ib) c) (Q := fun c st' => st' = st1 ∧ (MF κ a b c ∨ HiS κ a b 1 (ia + ib) c)) ?step1 ?fin1 ⟨rfl, .i l (Nat.le_refl _)⟩) ?post1)
    case fin1 =>
      rintro c st' ⟨rfl, ja, jb, o, t, rfl, l, hx⟩
      have := l.na; grind
    case step1 =>
      rintro y c st2 _ hy ⟨rfl, ja, jb, o, ⟨ac, bc⟩, rfl, l, hyy⟩
      have n1 := l.na
      have n2 := l.nb
      have n3 := l.la
      have n4 := l.lb
      obtain ⟨p, hp⟩ := ar_some (a := b) (i := jb - 1) (by lia)
      obtain ⟨q, hq⟩ := ar_some (a := a) (i := ja - 1) (by lia)
      refine wpS_bind (wpS_elem hp (wpS_bind (wpS_elem hq (wpS_bind (wpS_lt2 hO hk1 (kb p (ar_mem hp)) (ka q (ar_mem hq)) ?_)))))
      dsimp -zeta only
      cases hw : κ.blt _ _ with
      | true =>
        refine wpS_bind (wpS_elem hq ?_)
        have inv := Hi.pushA l.inv n1 hq fun y hy => (ge_last (by lia) hp l.inv.sy y hy).trans (Rk.of_lt hw)
        refine wpS_ite (fun c => wpS_pure ⟨rfl, .inl (.i (Hi.done inv (.inl (eq_of_beq c))))⟩) fun c => ?_
        have l' : Hi κ a b _ _ jb := ⟨by lia, n2, by lia, n4, inv⟩
        exact wpS_ite (fun c => wpS_pure ⟨rfl, .inr (.i l' (by lia))⟩) fun c => wpS_pure ⟨rfl, .i l' (by lia)⟩
      | false =>
        refine wpS_bind (wpS_elem hp ?_)
        have inv := Hi.pushB l.inv (by lia) hp fun x hx => (ge_last n1 hq l.inv.sx x hx).trans (hw)
        refine wpS_ite (fun c => wpS_pure ⟨rfl, .inl (.i (Hi.first inv (eq_of_beq c) hf))⟩) fun c => ?_
        have l' : Hi κ a b _ ja _ := ⟨n1, by lia, n3, by lia, inv⟩
        exact wpS_ite (fun c => wpS_pure ⟨rfl, .inr (.i l' (by lia))⟩) fun c => wpS_pure ⟨rfl, .i l' (by lia)⟩
    case post1 =>
      rintro c st2 ⟨rfl, ⟨g, ⟨ja, jb, o, ac, bc⟩, rfl, hg⟩ | ⟨ja, jb, o, ⟨ac, bc⟩, rfl, l, hj⟩⟩
      · exact wpS_pure ⟨sm, .i hg⟩
      refine wpS_bind (wpS_lift (wpAny_rule ⟨rfl, ?_⟩))
      refine wpS_bind (wpS_mono (wpS_forRange (a := 0) (b := total) (I := fun y c st' => Sm st st' ∧ HiS κ a b y (ja + jb) c) (Q := fun c st' => Sm st st' ∧ (MF κ a b c ∨ HiS κ a b 0 (ja + jb) c)) ?step2 ?fin2 ⟨sm, .i l (Nat.le_refl _)⟩) ?post2)
      case fin2 =>
        rintro c st' ⟨sm, ja, jb, o, t, rfl, l, hx⟩
        grind
      case post2 =>
        rintro c st2 ⟨sm, ⟨g, ⟨ka, kb, o, mg, ac, bc⟩, rfl, hg⟩ | ⟨ka, kb, o, ⟨mg, ac, bc⟩, rfl, l, hj⟩⟩
        · exact wpS_pure ⟨sm, .i hg⟩
        · exact wpS_bind (wpS_modify (wpS_pure ⟨sm, .i l (show ka + kb + (x + 1) ≤ total by lia)⟩))
      case step2 =>
        rintro y c st2 _ hy ⟨sm, ja', jb', o, ⟨mg, ac, bc⟩, rfl, l, hyy⟩
        dsimp -zeta only
        extract_lets +onlyGivenNames z1 ia z2 ib z3 o z4 mg z5 ac bc nb2 jp
        have n1 := l.na
        have n2 := l.nb
        have n3 := l.la
        have n4 := l.lb
        obtain ⟨p, hp⟩ := ar_some (a := b) (i := jb' - 1) (by lia)
        refine wpS_mono (Q := HiQ κ a b st 0 (y + 1) (ja + jb)) ?_ fun r st' h => by cases r <;> exact h
        have step : ∀ m, wpS (model prog w) A E s (jp () m) (HiQ κ a b st 0 (y + 1) (ja + jb)) st2 := by
          intro m
          refine wpS_bind (wpS_modify ?_)
          have sm3 : Sm st (setGal st2 m) := sm
          show wpS (model prog w) A E s _ _ (setGal st2 m)
          generalize setGal st2 m = st3 at sm3 ⊢
          have hk2 : kindOf st3 = kd := sm3.1.trans hk
          refine wpS_bind (wpS_elem (i := jb' - 1) hp ?_)
          refine wpS_bind (wpS_gallopK (κ := κ) hO (n := ja') (hint := ja' - 1) (L := a.toList.take ja') hk2 (kb p (ar_mem hp)) (fun q hq => ka q (List.mem_of_mem_take hq)) (len_take0 n3) (fun i hi => ar_slice0 a hi) (sa.sublist (List.take_sublist _ _)) (by lia) ?_)
          intro k hk3 kt kf
          rw [take_le _ hk3] at kt
          dsimp -zeta only
          extract_lets +onlyGivenNames kk acount jp2
          have step2 : ∀ (ia' : Nat) (o' : Array Keyed), 0 < ia' → ia' ≤ ja' → HiI κ a b o' ia' jb' → (∀ x, x ∈ a.toList.take ia' → Rk κ x p) → wpS (model prog w) A E s (jp2 () ia' o') (HiQ κ a b st 0 (y + 1) (ja + jb)) st3 := by
            intro ia' o' ha' hle hi hx
            refine wpS_bind (wpS_elem hp ?_)
            have inv2 := Hi.pushB hi (by lia) hp hx
            refine wpS_ite (fun c => wpS_pure ⟨sm3, .inl (.i (Hi.first inv2 (eq_of_beq c) hf))⟩) fun c => ?_
            obtain ⟨q, hq⟩ := ar_some (a := a) (i := ia' - 1) (by lia)
            refine wpS_bind (wpS_elem hq ?_)
            refine wpS_bind (wpS_gallopK hO (L := b.toList.take _) hk2 (ka q (ar_mem hq)) (fun q hq => kb q (List.mem_of_mem_take hq)) (len_take0 (by lia)) (fun i hi => ar_slice0 b hi) (sb.sublist (List.take_sublist _ _)) (by lia) ?_)
            intro k2 hk4 kt2 kf2
            rw [take_le _ hk4] at kt2
            dsimp -zeta only
            extract_lets +onlyGivenNames kk2 bcount na4 jp3
            have step3 : ∀ (ib3 : Nat) (o3 : Array Keyed), 1 < ib3 → ib3 ≤ jb' - 1 → HiI κ a b o3 ia' ib3 → (∀ y, y ∈ b.toList.take ib3 → Rk κ y q) → wpS (model prog w) A E s (jp3 () ib3 o3) (HiQ κ a b st 0 (y + 1) (ja + jb)) st3 := by
              intro ib3 o3 hb3 hle3 hi3 hy3
              refine wpS_bind (wpS_elem hq ?_)
              have inv3 := Hi.pushA hi3 ha' hq hy3
              refine wpS_ite (fun c => wpS_pure ⟨sm3, .inl (.i (Hi.done inv3 (.inl (eq_of_beq c))))⟩) fun c => ?_
              have l' : Hi κ a b _ _ ib3 := ⟨by lia, hb3, by lia, by lia, inv3⟩
              exact wpS_ite (fun c => wpS_pure ⟨sm3, .inr (.i l' (by lia))⟩) fun c => wpS_pure ⟨sm3, .i l' (by lia)⟩
            refine wpS_ite (fun c => ?_) fun c => ?_
            · have inv3 := Hi.moreB inv2 hk4 fun y hy x hx => (ge_last ha' hq hi.sx x hx).trans (bpK_lf (kf2 y hy))
              refine wpS_ite (fun c => wpS_pure ⟨sm3, .inl (.i (Hi.first inv3 (eq_of_beq c) hf))⟩) fun c => ?_
              refine wpS_ite (fun c' => wpS_pure ⟨sm3, .inl (.i (Hi.done inv3 (.inr (eq_of_beq c'))))⟩) fun c' => ?_
              exact step3 _ _ (show 1 < k2 by lia) hk4 inv3 fun y hy => bpK_lt (kt2 y hy)
            · have e : k2 = jb' - 1 := by lia
              rw [e] at kt2
              exact step3 _ _ (show 1 < jb' - 1 by lia) (Nat.le_refl _) inv2 fun y hy => bpK_lt (kt2 y hy)
          clear_value jp2
          refine wpS_ite (fun c => ?_) fun c => ?_
          · have inv1 := Hi.moreA l.inv hk3 fun x hx y hy => (ge_last (by lia) hp l.inv.sy y hy).trans (bpK_rf (kf x hx))
            extract_lets +onlyGivenNames out5 ia5
            refine wpS_ite (fun c => wpS_pure ⟨sm3, .inl (.i (Hi.done inv1 (.inl (eq_of_beq c))))⟩) fun c => ?_
            have n5 : ¬ k = 0 := nbq c
            exact step2 _ _ (show 0 < k by lia) hk3 inv1 fun x hx => bpK_rt (kt x hx)
          · have c' : ¬ ja' - k > 0 := c
            have e : k = ja' := by lia
            rw [e] at kt
            exact step2 _ _ n1 (Nat.le_refl _) l.inv fun x hx => bpK_rt (kt x hx)
        clear_value jp
        exact wpS_ite (fun c => step (mg - 1)) fun c => step mg
end
end L3

/-! two runs side by side become one. -/
namespace L3
open PySem PyProof.Rows
section
variable {kd : SortKind} {κ : KeyKind} {prog : Program} {w : World} {A : Around} {E : Value → Shared → Prop} {s : Shared}
theorem mrg_fin {α : Type} {r : α → α → Prop} {X1 X2 Y1 Y2 m : List α} (hX : (X1 ++ X2).Pairwise r) (hY : (Y1 ++ Y2).Pairwise r) (h1 : ∀ x, x ∈ X1 → ∀ y, y ∈ Y1 ++ Y2 → r x y)
    (h2 : ∀ x, x ∈ X1 ++ X2 → ∀ y, y ∈ Y2 → r x y) (hm : m.Pairwise r) (pm : m.Perm (X2 ++ Y1)) : (X1 ++ m ++ Y2).Pairwise r ∧ (X1 ++ m ++ Y2).Perm ((X1 ++ X2) ++ (Y1 ++ Y2)) := by
  have sx := List.pairwise_append.mp hX
  have sy := List.pairwise_append.mp hY
  refine ⟨List.pairwise_append.mpr ⟨List.pairwise_append.mpr ⟨sx.1, hm, fun x hx z hz => ?_⟩, sy.2.1, fun z hz y hy => ?_⟩, ?_⟩
  · rcases List.mem_append.mp (pm.mem_iff.mp hz) with hz | hz
    · exact sx.2.2 x hx z hz
    · exact h1 x hx z (List.mem_append_left _ hz)
  · rcases List.mem_append.mp hz with hz | hz
    · exact h2 z (List.mem_append_left _ hz) y hy
    · rcases List.mem_append.mp (pm.mem_iff.mp hz) with hz | hz
      · exact h2 z (List.mem_append_right _ hz) y hy
      · exact sy.2.2 z hz y hy
  · have e : X1 ++ X2 ++ (Y1 ++ Y2) = X1 ++ (X2 ++ Y1) ++ Y2 := by simp_all
    rw [e]
    exact (pm.append_left X1).append_right Y2
theorem put_back {α : Type} : ∀ (l : List α) (n sa : Nat) (a : Array α) (P X S : List α), a.toList = P ++ X ++ S → P.length = sa + n → X.length = l.length →
    ((l.zipIdx n).foldl (fun a (x : α × Nat) => a.setIfInBounds (sa + x.2) x.1) a).toList = P ++ l ++ S
  | [], n, sa, a, P, X, S, h, _, hx => by
    simp_all
  | p :: l, n, sa, a, P, [], S, h, hp, hx => by cases hx
  | p :: l, n, sa, a, P, x :: X, S, h, hp, hx => by
    have e := put_back l (n + 1) sa (a.setIfInBounds (sa + n) p) (P ++ [p]) X S (by
      simp_all) (by rw [List.length_append, hp]; rfl) (Nat.succ.inj hx)
    simp_all
theorem wpS_set {M : Model} {σ : Type} {x : σ} {Q : PUnit → σ → Prop} {st : σ} (h : Q ⟨⟩ x) : wpS M A E s (set x : StateT σ Sem PUnit) Q st := by
  exact wpAny_pure ⟨rfl, h⟩
theorem wpS_mergeAt (hO : KLt prog w A s κ kd) {st : SortSt} {P X Y S : List Keyed} {ps1 ps2 : List (Nat × Nat × Nat)} {pw q : Nat} (hk : kindOf st = kd) (hfl : failedOf st = none) (ha : (arrOf st).toList = P ++ X ++ Y ++ S)
    (hp : (pendingOf st).toList = ps1 ++ (P.length, X.length, pw) :: (P.length + X.length, Y.length, q) :: ps2) (ko : ∀ p, p ∈ (arrOf st).toList → Ko κ p) (sX : X.Pairwise (Rk κ)) (sY : Y.Pairwise (Rk κ)) (nX : 0 < X.length) (nY : 0 < Y.length)
    {Q : Bool → SortSt → Prop}
    (h : ∀ st' M, kindOf st' = kd → failedOf st' = none → (arrOf st').toList = P ++ M ++ S → (pendingOf st').toList = ps1 ++ (P.length, X.length + Y.length, pw) :: ps2 → M.Pairwise (Rk κ) → M.Perm (X ++ Y) → Q true st') :
    wpS (model prog w) A E s (mergeAt' ps1.length) Q st := by
  refine wpS_bind (wpS_get ?_)
  have g1 : (pendingOf st)[ps1.length]? = some (P.length, X.length, pw) := by
    rw [← Array.getElem?_toList, hp]; simp
  have g2 : (pendingOf st)[ps1.length + 1]? = some (P.length + X.length, Y.length, q) := by
    rw [← Array.getElem?_toList, hp]; simp
  rw [g1, g2]
  refine wpS_bind (wpS_set ?_)
  have hp' : (((pendingOf st).setIfInBounds ps1.length (P.length, X.length + Y.length, pw)).eraseIdxIfInBounds (ps1.length + 1)).toList = ps1 ++ (P.length, X.length + Y.length, pw) :: ps2 := by
    rw [Array.toList_eraseIdxIfInBounds, Array.toList_setIfInBounds, hp]
    simp only [List.set_append, Nat.lt_irrefl, if_false, Nat.sub_self, List.eraseIdx_append]
    rw [if_neg (by lia), Nat.add_sub_cancel_left]
    rfl
  show wpS _ A E s _ _ (setPending st (((pendingOf st).setIfInBounds _ _).eraseIdxIfInBounds _))
  have hst2 : ∃ st2, st2 = setPending st (((pendingOf st).setIfInBounds ps1.length (P.length, X.length + Y.length, pw)).eraseIdxIfInBounds (ps1.length + 1)) ∧ kindOf st2 = kd ∧ failedOf st2 = none ∧ arrOf st2 = arrOf st ∧ (pendingOf st2).toList = ps1 ++ (P.length, X.length + Y.length, pw) :: ps2 := ⟨_, rfl, hk, hfl, rfl, hp'⟩
  obtain ⟨st2, e2, hk2, hf2, ha2, hp2⟩ := hst2
  rw [← e2]
  have gX : ∀ i, i < X.length → (arrOf st)[P.length + i]? = X[i]? := fun i hi => by
    rw [← Array.getElem?_toList, ha, List.append_assoc, List.append_assoc, List.getElem?_append_right (by lia), Nat.add_sub_cancel_left, List.getElem?_append_left hi]
  have gY : ∀ i, i < Y.length → (arrOf st)[P.length + X.length + i]? = Y[i]? := fun i hi => by
    rw [← Array.getElem?_toList, ha, List.append_assoc, List.getElem?_append_right (by grind), List.length_append, Nat.add_sub_cancel_left, List.getElem?_append_left hi]
  have koX : ∀ p, p ∈ X → Ko κ p := fun p hp => ko p (by rw [ha]; simp [hp])
  have koY : ∀ p, p ∈ Y → Ko κ p := fun p hp => ko p (by grind)
  obtain ⟨y0, Y', rfl⟩ : ∃ y0 Y', Y = y0 :: Y' := by
    cases Y with
    | nil => cases nY
    | cons y0 Y' => exact ⟨y0, Y', rfl⟩
  have y0le : ∀ y, y ∈ y0 :: Y' → Rk κ y0 y := fun y hy => by
    rcases List.mem_cons.mp hy with rfl | hy
    · exact KeyOrd.kle_refl _
    · exact (List.pairwise_cons.mp sY).1 y hy
  refine wpS_bind (wpS_elem (gY 0 nY) ?_)
  refine wpS_bind (wpS_gallopK hO hk2 (koY y0 (List.mem_cons_self ..)) koX rfl gX sX nX ?_)
  intro k hk3 kt kf
  have h1  := fun x hx y hy => (bpK_rt (kt x hx)).trans (y0le y hy)
  refine wpS_ite (fun c => ?_) fun c => ?_
  · have e : k = X.length := by grind
    rw [e, List.take_length] at h1
    refine wpS_pure (h st2 _ hk2 hf2 (by rw [ha2, ha]; simp only [List.append_assoc]) hp2 (List.pairwise_append.mpr ⟨sX, sY, h1⟩) (List.Perm.refl _))
  obtain ⟨xl, hxl⟩ : ∃ p, X[X.length - 1]? = some p := ⟨_, List.getElem?_eq_getElem (by lia)⟩
  have xlle : ∀ x, x ∈ X → Rk κ x xl := fun x hx => by
    obtain ⟨i, hi, rfl⟩ := List.mem_iff_getElem.mp hx
    obtain ⟨hl, el⟩ := List.getElem?_eq_some_iff.mp hxl
    by_cases e : i = X.length - 1
    · subst e; rw [el]; exact KeyOrd.kle_refl _
    · rw [← el]; exact List.pairwise_iff_getElem.mp sX i _ hi hl (by lia)
  refine wpS_bind (wpS_elem (by rw [show P.length + k + (X.length - k) - 1 = P.length + (X.length - 1) by lia]; exact (gX _ (by lia)).trans hxl) ?_)
  refine wpS_bind (wpS_gallopK hO hk2 (koX xl (List.mem_of_getElem? hxl)) koY rfl gY sY (by lia) ?_)
  intro k2 hk4 kt2 kf2
  have h2  := fun x hx y hy => (xlle x hx).trans (bpK_lf (kf2 y hy))
  refine wpS_ite (fun c => ?_) fun c => ?_
  · have e  := eq_of_beq c
    rw [e] at h2
    exact wpS_pure (h st2 _ hk2 hf2 (by rw [ha2, ha]; simp only [List.append_assoc]) hp2 (List.pairwise_append.mpr ⟨sX, sY, h2⟩) (List.Perm.refl _))
  extract_lets +onlyGivenNames x y jp
  have ex  := by
    show ((arrOf st).extract (P.length + k) (P.length + X.length)).toList = X.drop k
    rw [ar_ext3, ha]
    simp [List.drop_append, List.take_append]
  have ey : y.toList = (y0 :: Y').take k2 := by
    rw [ar_ext, ha, List.append_assoc, List.drop_append_of_le_length (by grind), List.drop_of_length_le (by simp_all), List.nil_append, List.take_append_of_le_length hk4]
  have fin : ∀ m st3, Sm st2 st3 → Gd κ (x.toList ++ y.toList) m → wpS (model prog w) A E s (jp m) Q st3 := by
    rintro m st3 ⟨s1, s2, s3, s4⟩ ⟨g1, g2⟩
    refine wpS_bind (wpS_modify (wpS_bind (wpS_get (wpS_pure ?_))))
    show Q (failedOf st3).isNone _
    rw [s4, hf2]
    rw [ex, ey] at g2
    have eX := List.take_append_drop k X
    have eY := List.take_append_drop k2 (y0 :: Y')
    obtain ⟨m1, m2⟩ := mrg_fin (by rw [eX]; exact sX) (by rw [eY]; exact sY) (by rw [eY]; exact h1) (by rw [eX]; exact h2) g1 g2
    rw [eX, eY] at m2
    refine h _ (X.take k ++ m.toList ++ (y0 :: Y').drop k2) (s1.trans hk2) (s4.trans hf2) ?_ (by rw [← hp2]; exact congrArg _ s3) m1 m2
    have pb := put_back _ 0 (P.length + k) (arrOf st3) (P ++ X.take k) _ ((y0 :: Y').drop k2 ++ S) (by
      grind) (by simp_all) (g2.length_eq).symm
    refine Eq.trans (Eq.trans ?_ pb) (by simp only [List.append_assoc])
    rfl
  have kx : ∀ p, p ∈ x.toList → Ko κ p := fun p hp => koX p (by rw [ex] at hp; exact List.mem_of_mem_drop hp)
  have ky' : ∀ p, p ∈ y.toList → Ko κ p := fun p hp => koY p (by rw [ey] at hp; exact List.mem_of_mem_take hp)
  have sx : x.toList.Pairwise (Rk κ) := by rw [ex]; exact sX.sublist (List.drop_sublist _ _)
  have sy : y.toList.Pairwise (Rk κ) := by rw [ey]; exact sY.sublist (List.take_sublist _ _)
  have nx : 0 < x.size := by rw [← Array.length_toList, ex, List.length_drop]; lia
  have ny : 0 < y.size := by rw [← Array.length_toList, ey, List.length_take]; lia
  have hf : ∀ p, y[0]? = some p → ∀ z, z ∈ x.toList → Rk κ p z := fun p hp z hz => by
    rw [← Array.getElem?_toList, ey, List.getElem?_take_of_lt (by lia)] at hp
    cases hp
    rw [ex] at hz
    exact bpK_rf (kf z hz)
  have hl : ∀ p, x[x.size - 1]? = some p → ∀ z, z ∈ y.toList → Rk κ z p := fun p hp z hz => by
    rw [← Array.getElem?_toList, ← Array.length_toList, ex, List.length_drop, List.getElem?_drop, show k + (X.length - k - 1) = X.length - 1 by lia, hxl] at hp
    cases hp
    rw [ey] at hz
    exact bpK_lt (kt2 z hz)
  exact wpS_ite (fun c => wpS_bind (wpS_mergeLo hO hk2 kx ky' sx sy nx ny hf hl fun o st' sm g => fin o st' sm g)) fun c => wpS_bind (wpS_mergeHi hO hk2 kx ky' sx sy nx ny hf hl fun o st' sm g => fin o st' sm g)
end
end L3

/-! runs and insertions from any place on. -/
namespace L3
open PySem PyProof.Rows
section
variable {kd : SortKind} {κ : KeyKind} {prog : Program} {w : World} {A : Around} {E : Value → Shared → Prop} {s : Shared} {a₀ : Array Keyed} {pd : Array (Nat × Nat × Nat)} {F : Nat → Option Keyed} {lo : Nat}
structure SB (kd : SortKind) (a₀ : Array Keyed) (pd : Array (Nat × Nat × Nat)) (F : Nat → Option Keyed) (lo : Nat) (st : SortSt) : Prop where
  perm : (arrOf st).Perm a₀
  kind : kindOf st = kd
  failed : failedOf st = none
  pend : pendingOf st = pd
  pre : ∀ i, i < lo → (arrOf st)[i]? = F i
theorem SB.size {st : SortSt} (h : SB kd a₀ pd F lo st) : (arrOf st).size = a₀.size := h.perm.size_eq
theorem SB.mir {st : SortSt} (h : SB kd a₀ pd F lo st) {i j : Nat} (hi : lo ≤ i) (hj : j ≤ a₀.size) : SB kd a₀ pd F lo (setArr st (mirror (arrOf st) i j ((j - i) / 2))) :=
  ⟨(mirror_perm _ _ _ _).trans h.perm, h.kind, h.failed, h.pend, fun k hk => by
    rw [getElem?_mirror_all (by rw [h.size]; exact hj), if_neg (by lia)]; exact h.pre k hk⟩
theorem SB.bub {st : SortSt} (h : SB kd a₀ pd F lo st) {k d : Nat} (hk : k < a₀.size) (hd : d ≤ k) (hl : lo ≤ k - d) : SB kd a₀ pd F lo (setArr st (bubble (arrOf st) k d)) :=
  ⟨(bubble_perm _ _ _).trans h.perm, h.kind, h.failed, h.pend, fun i hi => by
    rw [getElem?_bubble (by rw [h.size]; exact hk) d hd, if_neg (by lia), if_neg (by lia)]; exact h.pre i hi⟩
def SF (κ : KeyKind) (xs : Array Keyed) (lo n : Nat) : Prop := ∀ i j, lo ≤ i → i ≤ j → j < lo + n → κ.kle (KK κ xs i) (KK κ xs j)
def NF (κ : KeyKind) (xs : Array Keyed) (lo n : Nat) : Prop := ∀ i j, lo ≤ i → i ≤ j → j < lo + n → κ.kle (KK κ xs j) (KK κ xs i)
theorem KK_some {xs : Array Keyed} {i : Nat} {p : Keyed} (h : xs[i]? = some p) : KK κ xs i = ky κ p := by unfold KK ky; rw [h]
theorem wpS_ltG {st : SortSt} {i j : Nat} {Q : Option Bool → SortSt → Prop} (hO : KLt prog w A s κ kd) (hB : SB kd a₀ pd F lo st) (h0 : ∀ p, p ∈ a₀.toList → Ko κ p) (hi : i < a₀.size) (hj : j < a₀.size)
    (h : Q (some (κ.blt (KK κ (arrOf st) i) (KK κ (arrOf st) j))) st) : wpS (model prog w) A E s (ltAt' i j) Q st := by
  obtain ⟨p, hp⟩ := ar_some (by rw [hB.size]; exact hi)
  obtain ⟨q, hq⟩ := ar_some (by rw [hB.size]; exact hj)
  rw [KK_some hp, KK_some hq] at h
  have mm : ∀ {x}, x ∈ (arrOf st).toList → Ko κ x := fun hx => h0 _ ((Array.perm_iff_toList_perm.mp hB.perm).mem_iff.mp hx)
  exact wpS_bind (wpS_get (wpS_bind (wpS_elem hp (wpS_bind (wpS_elem hq (wpS_lt2 hO hB.kind (mm (ar_mem hp)) (mm (ar_mem hq)) h))))))
theorem wpS_rev {M : Model} {st : SortSt} {i j : Nat} {Q : Unit → SortSt → Prop} (h : Q () (setArr st (mirror (arrOf st) i j ((j - i) / 2)))) : wpS M A E s (reverseSlice' i j) Q st := wpS_modify h
theorem SF.one {xs : Array Keyed} {n : Nat} (h : n ≤ 1) : SF κ xs lo n := fun i j h1 h2 h3 => by
  have : i = j := by lia
  subst this; exact KeyOrd.kle_refl _
theorem wpS_binG {st : SortSt} {n ok : Nat} {Q : Bool → SortSt → Prop} (hO : KLt prog w A s κ kd) (h0 : ∀ p, p ∈ a₀.toList → Ko κ p) (hn : lo + n ≤ a₀.size) (hok : ok ≤ n) (hB : SB kd a₀ pd F lo st) (hs : SF κ (arrOf st) lo ok)
    (h : ∀ st', SB kd a₀ pd F lo st' → SF κ (arrOf st') lo n → Q true st') : wpS (model prog w) A E s (binarySort' lo n ok) Q st := by
  refine wpS_bind (wpS_mono (wpS_forRange (I := fun k c st' => c = (none, ()) ∧ SB kd a₀ pd F lo st' ∧ SF κ (arrOf st') lo (min k n))
    (Q := fun c st' => c = (none, ()) ∧ SB kd a₀ pd F lo st' ∧ SF κ (arrOf st') lo n) ?step ?fin ?init) ?post)
  case post =>
    rintro c st' ⟨rfl, hB', hs'⟩
    exact wpS_pure (h st' hB' hs')
  case init =>
    refine ⟨rfl, hB, ?_⟩
    by_cases h1 : ok = 0
    · exact SF.one (by lia)
    · grind
  case fin =>
    grind
  case step =>
    rintro k c st' hak hkn ⟨rfl, hB', hs'⟩
    rw [show min k n = k by lia] at hs'
    have hk : lo + k < a₀.size := by lia
    refine wpS_bind (wpS_mono (wpS_forRange (I := fun x c st'' => st'' = st' ∧ ∃ l r, c = (none, l, r) ∧ l ≤ r ∧ r ≤ k ∧ r - l ≤ k - x ∧
        (∀ i, lo ≤ i → i < lo + l → κ.kle (KK κ (arrOf st') i) (KK κ (arrOf st') (lo + k))) ∧ (∀ i, lo + r ≤ i → i < lo + k → κ.klt (KK κ (arrOf st') (lo + k)) (KK κ (arrOf st') i)))
      (Q := fun c st'' => st'' = st' ∧ ∃ l r, c = (none, l, r) ∧ l ≤ k ∧
        (∀ i, lo ≤ i → i < lo + l → κ.kle (KK κ (arrOf st') i) (KK κ (arrOf st') (lo + k))) ∧ (∀ i, lo + l ≤ i → i < lo + k → κ.klt (KK κ (arrOf st') (lo + k)) (KK κ (arrOf st') i))) ?istep ?ifin ?iinit) ?ipost)
    case iinit => lia
    case ifin =>
      rintro c st'' ⟨rfl, l, r, rfl, hlr, hrk, hm, hlo, hhi⟩
      grind
    case istep =>
      rintro x c st'' _ hxk ⟨rfl, l, r, rfl, hlr, hrk, hm, hlo, hhi⟩
      refine wpS_ite (fun hge => ?_) fun hge => ?_
      · have : l = r := by lia
        subst this
        exact wpS_pure ⟨rfl, l, l, rfl, hrk, hlo, hhi⟩
      · refine wpS_bind (wpS_ltG hO hB' h0 hk (by lia) ?_)
        cases hless : κ.blt (KK κ _ _) (KK κ _ _) with
        | true =>
          exact wpS_pure ⟨rfl, l, (l + r) / 2, rfl, by lia, by lia, by lia, hlo, fun i h1 h2 => KeyOrd.klt_of_klt_of_kle hless (hs' _ _ (by lia) h1 h2)⟩
        | false =>
          exact wpS_pure ⟨rfl, (l + r) / 2 + 1, r, rfl, by lia, by lia, by lia, fun i hl h1 => KeyOrd.kle_trans (hs' i _ hl (by lia) (by lia)) (hless), hhi⟩
    case ipost =>
      rintro c st'' ⟨rfl, l, r, rfl, hlk, hlo, hhi⟩
      refine wpS_bind (wpS_modify (wpS_pure ⟨rfl, hB'.bub hk (by lia) (by lia), ?_⟩))
      have hks : lo + k < (arrOf st'').size := by rw [hB'.size]; exact hk
      intro i j hl hij hj
      show κ.kle (KK κ (bubble _ _ _) i) (KK κ (bubble _ _ _) j)
      rw [KK_bubble hks (by lia), KK_bubble hks (by lia)]
      repeat' split
      all_goals first
        | grind
        | exact KeyOrd.kle_refl _
        | grind
        | exact KeyOrd.kle_of_klt (hhi _ (by lia) (by lia))
        | exact hs' _ _ (by lia) (by lia) (by lia)
theorem SF.snoc {xs : Array Keyed} {n : Nat} (h : SF κ xs lo n) (h1 : 1 ≤ n) (hb : κ.blt (KK κ xs (lo + n)) (KK κ xs (lo + n - 1)) = false) : SF κ xs lo (n + 1) := fun i j hl hij hj => by
  by_cases hjx : j < lo + n
  · exact h i j hl hij hjx
  · have hj' : j = lo + n := by lia
    subst hj'
    by_cases hi' : i = lo + n
    · subst hi'; exact KeyOrd.kle_refl _
    · exact KeyOrd.kle_trans (h i _ hl (by lia) (by lia)) hb
theorem NF.snoc {xs : Array Keyed} {n : Nat} (h : NF κ xs lo n) (h1 : 1 ≤ n) (hb : κ.kle (KK κ xs (lo + n)) (KK κ xs (lo + n - 1))) : NF κ xs lo (n + 1) := fun i j hl hij hj => by
  by_cases hjx : j < lo + n
  · exact h i j hl hij hjx
  · have hj' : j = lo + n := by lia
    subst hj'
    by_cases hi' : i = lo + n
    · subst hi'; exact KeyOrd.kle_refl _
    · exact KeyOrd.kle_trans hb (h i _ hl (by lia) (by lia))
theorem NF.congr {xs ys : Array Keyed} {n : Nat} (h : NF κ xs lo n) (e : ∀ k, KK κ ys k = KK κ xs k) : NF κ ys lo n := fun i j hl hij hj => by rw [e, e]; exact h i j hl hij hj
theorem wpS_cntG {st : SortSt} {nrem : Nat} {Q : Option Nat → SortSt → Prop} (hO : KLt prog w A s κ kd) (h0 : ∀ p, p ∈ a₀.toList → Ko κ p) (hn : lo + nrem ≤ a₀.size) (h1 : 1 ≤ nrem) (hB : SB kd a₀ pd F lo st)
    (h : ∀ m st', SB kd a₀ pd F lo st' → 1 ≤ m → m ≤ nrem → SF κ (arrOf st') lo m → Q (some m) st') :
    wpS (model prog w) A E s (countRun' lo nrem) Q st := by
  delta countRun'
  refine wpS_bind (wpS_mono (wpS_forRange (a := 1) (b := nrem) (I := fun x c st' => st' = st ∧ c = (none, x) ∧ SF κ (arrOf st) lo x)
    (Q := fun c st' => st' = st ∧ ∃ n, c = (none, n) ∧ 1 ≤ n ∧ n ≤ nrem ∧ SF κ (arrOf st) lo n ∧ (n = nrem ∨ κ.klt (KK κ (arrOf st) (lo + n)) (KK κ (arrOf st) (lo + n - 1)))) ?step ?fin ⟨rfl, rfl, SF.one (Nat.le_refl _)⟩) ?post)
  case fin =>
    grind
  case step =>
    rintro x c st' hax hxn ⟨rfl, rfl, hs'⟩
    refine wpS_bind (wpS_ltG hO hB h0 (by lia) (by lia) ?_)
    cases hless : κ.blt (KK κ _ _) (KK κ _ _) with
    | true => exact wpS_pure ⟨rfl, x, rfl, hax, by lia, hs', .inr hless⟩
    | false => exact wpS_pure ⟨rfl, rfl, hs'.snoc hax hless⟩
  case post =>
    rintro c st' ⟨rfl, n, rfl, hn1, hn2, hsn, hor⟩
    dsimp -zeta only
    extract_lets +onlyGivenNames r n'
    refine wpS_ite (fun c => wpS_pure (h n _ hB hn1 hn2 hsn)) fun c => ?_
    have nn  := fun e => c (beq_iff_eq.mpr e)
    have hlt : κ.klt (KK κ _ _) (KK κ _ _) := hor.resolve_left nn
    extract_lets +onlyGivenNames n1 q0 jp
    have fin : ∀ st2, SB kd a₀ pd F lo st2 → NF κ (arrOf st2) lo (n + 1) → wpS (model prog w) A E s (jp ()) Q st2 := by
      intro st2 hB2 hs2
      refine wpS_bind (wpS_lift (wpAny_rule ⟨rfl, ?_⟩))
      refine wpS_bind (wpS_mono (wpS_forRange (I := fun x c st' => ∃ neq, c = (none, x, neq) ∧ SB kd a₀ pd F lo st' ∧ NF κ (arrOf st') lo x ∧ neq + 1 ≤ x ∧
          (∀ i, lo + x - (neq + 1) ≤ i → i < lo + x → KK κ (arrOf st') i = KK κ (arrOf st') (lo + x - 1)))
        (Q := fun c st' => ∃ m neq, c = (none, m, neq) ∧ SB kd a₀ pd F lo st' ∧ n + 1 ≤ m ∧ m ≤ nrem ∧ NF κ (arrOf st') lo m ∧ neq + 1 ≤ m ∧
          (∀ i, lo + m - (neq + 1) ≤ i → i < lo + m → KK κ (arrOf st') i = KK κ (arrOf st') (lo + m - 1))) ?step2 ?fin2 ⟨0, rfl, hB2, hs2, by lia, fun i h1 h2 => by congr 1; lia⟩) ?post2)
      case fin2 =>
        grind
      case step2 =>
        rintro x c st3 hax hxn ⟨neq, rfl, hB', hs', hq, he⟩
        have hsz : lo + x ≤ (arrOf st3).size := by rw [hB'.size]; lia
        refine wpS_bind (wpS_ltG hO hB' h0 (by lia) (by lia) ?_)
        cases hless : κ.blt (KK κ _ _) (KK κ _ _) with
        | true =>
          have nx : NF κ _ lo _ := hs'.snoc (by lia) (KeyOrd.kle_of_klt hless)
          show wpS _ A E s (if neq > 0 then (reverseSlice' _ _ >>= fun _ => pure (ForInStep.yield _)) else pure (ForInStep.yield _)) _ st3
          exact wpS_ite (fun hneq => wpS_bind (wpS_rev (wpS_pure ⟨0, rfl, hB'.mir (by lia) (by lia), nx.congr (KK_mirror_equal hsz he), by lia, fun i h1 h2 => by congr 1; lia⟩))) fun hneq => wpS_pure ⟨0, rfl, hB', nx, by lia, fun i h1 h2 => by congr 1; lia⟩
        | false =>
          refine wpS_bind (wpS_ltG hO hB' h0 (by lia) (by lia) ?_)
          cases hlarger : κ.blt (KK κ _ _) (KK κ _ _) with
          | true => exact wpS_pure ⟨x, neq, rfl, hB', hax, by lia, hs', hq, he⟩
          | false =>
            have heqx : KK κ _ _ = KK κ _ _ := KeyOrd.kle_antisymm hlarger hless
            refine wpS_pure ⟨neq + 1, rfl, hB', hs'.snoc (by lia) hlarger, by lia, fun i h1 h2 => ?_⟩
            rw [show lo + (x + 1) - 1 = lo + x by lia]
            by_cases hix : i = lo + x
            · subst hix; rfl
            · rw [heqx]; exact he i (by lia) (by lia)
      case post2 =>
        rintro c st3 ⟨m, neq, rfl, hB', hm1, hm2, hs', hq, he⟩
        have hsz : lo + m ≤ (arrOf st3).size := by rw [hB'.size]; lia
        dsimp -zeta only
        extract_lets +onlyGivenNames z2 m' neq' jp2
        have fin2 : ∀ st4, SB kd a₀ pd F lo st4 → NF κ (arrOf st4) lo m → wpS (model prog w) A E s (jp2 ()) Q st4 := by
          intro st4 hB4 hs4
          have hsz4 : lo + m ≤ (arrOf st4).size := by rw [hB4.size]; lia
          refine wpS_bind (wpS_rev ?_)
          have hB5 := hB4.mir (j := lo + m) (Nat.le_refl _) (by lia)
          have hs5 : SF κ (mirror (arrOf st4) lo (lo + m) ((lo + m - lo) / 2)) lo m := by
            intro i j hl hij hj
            rw [KK_mirror hsz4, KK_mirror hsz4, if_pos (by lia), if_pos (by lia)]
            exact hs4 _ _ (by lia) (by lia) (by lia)
          revert hB5
          have hs6 : SF κ (arrOf (setArr st4 (mirror _ lo _ _))) lo m := hs5
          generalize setArr st4 (mirror _ lo _ _) = st5 at hs6 ⊢
          intro hB5
          refine wpS_bind (wpS_mono (wpS_forRange (I := fun x c st' => st' = st5 ∧ c = (none, x) ∧ SF κ _ lo x)
            (Q := fun c st' => st' = st5 ∧ ∃ n, c = (none, n) ∧ 1 ≤ n ∧ n ≤ nrem ∧ SF κ (arrOf st5) lo n) ?step3 ?fin3 ⟨rfl, rfl, hs6⟩) ?post3)
          case fin3 =>
            grind
          case step3 =>
            rintro x c st' hax hxn ⟨rfl, rfl, hs'⟩
            refine wpS_bind (wpS_ltG hO hB5 h0 (by lia) (by lia) ?_)
            cases hless : κ.blt (KK κ _ _) (KK κ _ _) with
            | true => exact wpS_pure ⟨rfl, x, rfl, by lia, by lia, hs'⟩
            | false => exact wpS_pure ⟨rfl, rfl, hs'.snoc (by lia) hless⟩
          case post3 =>
            rintro c st' ⟨rfl, k, rfl, hk1, hk2, hsk⟩
            exact wpS_pure (h k _ hB5 hk1 hk2 hsk)
        exact wpS_ite (fun hneq => wpS_bind (wpS_rev (fin2 _ (hB'.mir (by lia) (by lia)) (hs'.congr (KK_mirror_equal hsz he))))) fun hneq => fin2 _ hB' hs'
    refine wpS_ite (fun hgt => ?_) fun hgt => ?_
    · refine wpS_bind (wpS_ltG hO hB h0 (by lia) (show lo + n - 1 < _ by lia) ?_)
      cases hrose : κ.blt (KK κ _ lo) (KK κ _ _) with
      | true => exact wpS_pure (h n _ hB hn1 hn2 hsn)
      | false =>
        have hsz : lo + n ≤ (arrOf st').size := by rw [hB.size]; lia
        have hall : ∀ k, lo ≤ k → k < lo + n → KK κ (arrOf st') k = KK κ (arrOf st') (lo + n - 1) := by
          intro k hl hk
          exact KeyOrd.kle_antisymm (hsn k _ hl (by lia) (by lia)) (KeyOrd.kle_trans hrose (hsn lo k (Nat.le_refl _) hl hk))
        refine wpS_bind (wpS_rev (fin _ (hB.mir (Nat.le_refl _) (by lia)) (NF.snoc ?_ hn1 ?_)))
        · exact NF.congr (fun i j hl hij hj => by rw [hall i hl (by lia), hall j (by lia) hj]; exact KeyOrd.kle_refl _) (KK_mirror_equal hsz hall)
        · rw [KK_mirror_equal hsz hall, KK_mirror_equal hsz hall]; exact KeyOrd.kle_of_klt hlt
    · refine fin _ hB (NF.snoc (fun i j hl hij hj => ?_) hn1 (KeyOrd.kle_of_klt hlt))
      have : i = j := by lia
      subst this; exact KeyOrd.kle_refl _
end
end L3

/-! the whole sort, for any number of items. -/
namespace L3
open PySem PyProof.Rows
section
variable {kd : SortKind} {κ : KeyKind} {prog : Program} {w : World} {A : Around} {E : Value → Shared → Prop} {s : Shared}
def RunsAt (κ : KeyKind) : Nat → List (Nat × Nat × Nat) → List (List Keyed) → Prop
  | _, [], [] => True
  | o, p :: ps, r :: rs => p.1 = o ∧ p.2.1 = r.length ∧ 0 < r.length ∧ r.Pairwise (Rk κ) ∧ RunsAt κ (o + r.length) ps rs
  | _, _, _ => False
theorem RunsAt.app : ∀ {ps ps' : List (Nat × Nat × Nat)} {o : Nat} {R : List (List Keyed)}, RunsAt κ o (ps ++ ps') R → ∃ R1 R2, R = R1 ++ R2 ∧ RunsAt κ o ps R1 ∧ RunsAt κ (o + R1.flatten.length) ps' R2
  | [], ps', o, R, h => ⟨[], R, rfl, trivial, h⟩
  | p :: ps, ps', o, [], h => h.elim
  | p :: ps, ps', o, r :: R, h => by
    obtain ⟨h1, h2, h3, h4, h5⟩ := h
    obtain ⟨R1, R2, rfl, a, b⟩ := RunsAt.app h5
    refine ⟨r :: R1, R2, rfl, ⟨h1, h2, h3, h4, a⟩, ?_⟩
    rw [List.flatten_cons, List.length_append, ← Nat.add_assoc]; exact b
theorem RunsAt.mk : ∀ {ps ps' : List (Nat × Nat × Nat)} {o : Nat} {R1 R2 : List (List Keyed)}, RunsAt κ o ps R1 → RunsAt κ (o + R1.flatten.length) ps' R2 → RunsAt κ o (ps ++ ps') (R1 ++ R2)
  | [], ps', o, [], R2, _, h' => h'
  | [], ps', o, r :: R1, R2, h, _ => h.elim
  | p :: ps, ps', o, [], R2, h, _ => h.elim
  | p :: ps, ps', o, r :: R1, R2, h, h' => by
    obtain ⟨h1, h2, h3, h4, h5⟩ := h
    refine ⟨h1, h2, h3, h4, RunsAt.mk h5 ?_⟩
    rw [List.flatten_cons, List.length_append, ← Nat.add_assoc] at h'; exact h'
theorem RunsAt.modify {f : Nat × Nat × Nat → Nat × Nat × Nat} (hf : ∀ p, (f p).1 = p.1 ∧ (f p).2.1 = p.2.1) : ∀ {ps : List (Nat × Nat × Nat)} {i o : Nat} {R : List (List Keyed)}, RunsAt κ o ps R → RunsAt κ o (ps.modify i f) R
  | [], i, o, R, h => by simp_all
  | p :: ps, i, o, [], h => h.elim
  | p :: ps, 0, o, r :: R, h => by
    obtain ⟨h1, h2, h3⟩ := h
    exact ⟨(hf p).1.trans h1, (hf p).2.trans h2, h3⟩
  | p :: ps, i + 1, o, r :: R, h => by
    obtain ⟨h1, h2, h3, h4, h5⟩ := h
    exact ⟨h1, h2, h3, h4, RunsAt.modify hf h5⟩
theorem RunsAt.len : ∀ {ps : List (Nat × Nat × Nat)} {o : Nat} {R : List (List Keyed)}, RunsAt κ o ps R → ps.length ≤ R.flatten.length
  | [], _, _, _ => Nat.zero_le _
  | p :: ps, _, [], h => h.elim
  | p :: ps, _, r :: R, h => by
    obtain ⟨h1, h2, h3, h4, h5⟩ := h
    have := h5.len
    grind
structure SB0 (kd : SortKind) (a₀ : Array Keyed) (st : SortSt) : Prop where
  perm : (arrOf st).Perm a₀
  kind : kindOf st = kd
  failed : failedOf st = none
  pend : pendingOf st = #[]
theorem SB0.size {a₀ : Array Keyed} {st : SortSt} (h : SB0 kd a₀ st) : (arrOf st).size = a₀.size := h.perm.size_eq
structure SI (kd : SortKind) (κ : KeyKind) (a₀ : Array Keyed) (R : List (List Keyed)) (rest : List Keyed) (st : SortSt) : Prop where
  kind : kindOf st = kd
  failed : failedOf st = none
  arr : (arrOf st).toList = R.flatten ++ rest
  runs : RunsAt κ 0 (pendingOf st).toList R
  perm : (arrOf st).toList.Perm a₀.toList
theorem SI.size {a₀ : Array Keyed} {R : List (List Keyed)} {rest : List Keyed} {st : SortSt} (h : SI kd κ a₀ R rest st) : (arrOf st).size = a₀.size := by
  rw [← Array.length_toList, ← Array.length_toList, h.perm.length_eq]
theorem SI.len {a₀ : Array Keyed} {R : List (List Keyed)} {rest : List Keyed} {st : SortSt} (h : SI kd κ a₀ R rest st) : R.flatten.length + rest.length = a₀.size := by
  rw [← h.size, ← Array.length_toList, h.arr, List.length_append]
theorem wpS_mrg (hO : KLt prog w A s κ kd) {a₀ : Array Keyed} (h0 : ∀ p, p ∈ a₀.toList → Ko κ p) {st : SortSt} {R : List (List Keyed)} {rest : List Keyed} {i : Nat} (hi : i + 1 < (pendingOf st).size) (h : SI kd κ a₀ R rest st) {Q : Bool → SortSt → Prop}
    (hq : ∀ st' R', SI kd κ a₀ R' rest st' → (pendingOf st').size + 1 = (pendingOf st).size → R'.flatten.length = R.flatten.length → Q true st') : wpS (model prog w) A E s (mergeAt' i) Q st := by
  have e1  := by
    have a1 := (List.take_append_drop i (pendingOf st).toList).symm
    rw [List.drop_eq_getElem_cons (by grind), List.drop_eq_getElem_cons (by assumption)] at a1
    simpa using a1
  have el : ((pendingOf st).toList.take i).length = i := by grind
  generalize (pendingOf st).toList.take i = ps1 at e1 el
  generalize (pendingOf st).toList.drop _ = ps2 at e1
  generalize (pendingOf st)[i] = p at e1
  generalize (pendingOf st)[i + 1] = q at e1
  subst el
  have r := h.runs
  rw [e1] at r
  obtain ⟨R1, R2, rfl, r1, r2⟩ := r.app
  match R2, r2 with
  | X :: Y :: R2, r2 =>
    obtain ⟨x1, x2, x3, x4, y1, y2, y3, y4, r3⟩ := r2
    obtain ⟨p1, p2, p3⟩ := p
    obtain ⟨q1, q2, q3⟩ := q
    rw [Nat.zero_add] at x1 y1
    subst x1; subst x2; subst y1; subst y2
    refine wpS_mergeAt hO (S := R2.flatten ++ rest) h.kind h.failed (by rw [h.arr]; grind)
      e1 (fun p hp => h0 p (h.perm.mem_iff.mp hp)) x4 y4 x3 y3 fun st' M k1 k2 k3 k4 k5 k6 => ?_
    have ml : M.length = X.length + Y.length := by rw [k6.length_eq, List.length_append]
    refine hq st' (R1 ++ M :: R2) ⟨k1, k2, by simp_all, ?_, ?_⟩ ?_ ?_
    · rw [k4]
      refine RunsAt.mk r1 ⟨(Nat.zero_add _).symm, ml.symm, by lia, k5, ?_⟩
      rw [ml, ← Nat.add_assoc]; exact r3
    · refine List.Perm.trans ?_ h.perm
      rw [k3, h.arr]
      simp only [List.flatten_append, List.flatten_cons, List.append_assoc]
      refine List.Perm.append_left _ ?_
      rw [← List.append_assoc X Y]
      exact k6.append_right _
    · rw [← Array.length_toList, ← Array.length_toList, e1]; grind
    grind
theorem minRun_pos : ∀ (f n r : Nat), 1 ≤ n → 1 ≤ minRun' f n r
  | 0, n, r, h => show 1 ≤ n + r by lia
  | f + 1, n, r, h => by
    rw [minRun'_succ]
    split
    · lia
    · exact minRun_pos f _ _ (by lia)
theorem SI.next {a₀ : Array Keyed} {R : List (List Keyed)} {rest : List Keyed} {st st2 : SortSt} {n : Nat} (h : SI kd κ a₀ R rest st) (hB : SB kd (arrOf st) (pendingOf st) (fun i => (arrOf st)[i]?) R.flatten.length st2) (hs : SF κ (arrOf st2) R.flatten.length n)
    : ∃ rest2, SI kd κ a₀ R rest2 st2 ∧ (rest2.take n).Pairwise (Rk κ) := by
  have e : (arrOf st2).toList.take R.flatten.length = R.flatten := by
    have e2 : (arrOf st).toList.take R.flatten.length = R.flatten := by rw [h.arr, List.take_left]
    refine Eq.trans ?_ e2
    refine List.ext_getElem? fun i => ?_
    by_cases hi : i < R.flatten.length
    · rw [List.getElem?_take_of_lt hi, List.getElem?_take_of_lt hi, Array.getElem?_toList, Array.getElem?_toList]; exact hB.pre i hi
    · grind
  refine ⟨(arrOf st2).toList.drop R.flatten.length, ⟨hB.kind, hB.failed, ?_, by rw [hB.pend]; exact h.runs, (Array.perm_iff_toList_perm.mp hB.perm).trans h.perm⟩, ?_⟩
  · rw [← List.take_append_drop _ (arrOf st2).toList, e, List.drop_left]
  · refine List.pairwise_iff_getElem.mpr fun i j hi hj hij => ?_
    rw [List.length_take, List.length_drop] at hi hj
    rw [List.getElem_take, List.getElem_take, List.getElem_drop, List.getElem_drop]
    have := hs (R.flatten.length + i) (R.flatten.length + j) (by lia) (by lia) (by lia)
    rw [KK_some (p := (arrOf st2).toList[R.flatten.length + i]) (by simp_all), KK_some (p := (arrOf st2).toList[R.flatten.length + j]) (by simp_all)] at this
    exact this
def SQ (kd : SortKind) (κ : KeyKind) (a₀ : Array Keyed) (n : Nat) : ForInStep (Option Unit × Nat) → SortSt → Prop
  | .done c', st' => ∃ R n, SI kd κ a₀ R [] st' ∧ c' = (none, n)
  | .yield c', st' => ∃ R rest, SI kd κ a₀ R rest st' ∧ c' = (none, R.flatten.length) ∧ n ≤ R.flatten.length
theorem wpS_sortG {a₀ : Array Keyed} {st : SortSt} {Q : Unit → SortSt → Prop} (hO : KLt prog w A s κ kd) (h0 : ∀ p, p ∈ a₀.toList → Ko κ p) (hB : SB0 kd a₀ st) (h2 : 1 ≤ a₀.size)
    (h : ∀ st', (arrOf st').Perm a₀ → failedOf st' = none → (arrOf st').toList.Pairwise (Rk κ) → Q () st') : wpS (model prog w) A E s sortRuns' Q st := by
  refine wpS_bind (wpS_get ?_)
  have i0 : SI kd κ a₀ [] _ st := ⟨hB.kind, hB.failed, rfl, by rw [hB.pend]; exact trivial, Array.perm_iff_toList_perm.mp hB.perm⟩
  rw [hB.size]
  extract_lets +onlyGivenNames size minrun lo
  refine wpS_bind (wpS_mono (wpS_forRange (I := fun x c st' => ∃ R rest, SI kd κ a₀ R rest st' ∧ c = (none, R.flatten.length) ∧ x ≤ R.flatten.length)
    (Q := fun c st' => ∃ R n, SI kd κ a₀ R [] st' ∧ c = (none, n)) ?step ?fin ⟨[], _, i0, rfl, Nat.le_refl _⟩) ?post)
  case fin =>
    rintro c st' ⟨R, rest, hi, rfl, hx⟩
    have e : rest = [] := List.eq_nil_of_length_eq_zero (by have := hi.len; lia)
    subst e
    exact ⟨R, _, hi, rfl⟩
  case post =>
    rintro c st' ⟨R, n, hi, rfl⟩
    have b0 : (pendingOf st').size + 0 ≤ size + 1 := by
      have a1 := hi.runs.len
      have a2 := hi.len
      grind
    refine wpS_bind (wpS_mono (wpS_forRange (I := fun x c st' => c = (none, ()) ∧ ∃ R, SI kd κ a₀ R [] st' ∧ (pendingOf st').size + x ≤ size + 1)
      (Q := fun c st' => c = (none, ()) ∧ ∃ R, SI kd κ a₀ R [] st' ∧ (pendingOf st').size ≤ 1) ?step2 ?fin2 ⟨rfl, R, hi, b0⟩) ?post2)
    case fin2 =>
      grind
    case step2 =>
      rintro x c st2 _ hx ⟨rfl, R, hi, hxx⟩
      refine wpS_bind (wpS_get ?_)
      refine wpS_ite (fun c => wpS_pure ⟨rfl, R, hi, c⟩) fun c => ?_
      extract_lets +onlyGivenNames i1 bf i2
      have hi2 : i2 + 1 < (pendingOf st2).size := by grind
      refine wpS_bind (wpS_mrg hO h0 hi2 hi fun st3 R' hi3 hs3 _ => ?_)
      exact wpS_pure ⟨rfl, R', hi3, by lia⟩
    case post2 =>
      rintro c st2 ⟨rfl, R, hi, hx⟩
      refine wpS_pure (h st2 (Array.perm_iff_toList_perm.mpr hi.perm) hi.failed ?_)
      rw [hi.arr, List.append_nil]
      have hr := hi.runs
      match R, hp : (pendingOf st2).toList, hr with
      | [], _, _ => simp_all
      | r :: R, [], hr => exact hr.elim
      | [r], _ :: _, hr =>
        rw [List.flatten_cons, List.flatten_nil, List.append_nil]
        exact hr.2.2.2.1
      | r :: r' :: R, [_], hr => exact hr.2.2.2.2.elim
      | r :: r' :: R, a :: b :: ps, hr =>
        rw [← Array.length_toList] at hx
        grind
  case step =>
    rintro x c st1 _ hx ⟨R, rest, hi, rfl, hxx⟩
    have hl := hi.len
    refine wpS_ite (fun c => ?_) fun c => ?_
    · have e : rest = [] := List.eq_nil_of_length_eq_zero (by lia)
      subst e
      exact wpS_pure ⟨R, _, hi, rfl⟩
    have B0 : SB kd _ _ _ R.flatten.length st1 := ⟨Array.Perm.refl _, hi.kind, hi.failed, rfl, fun _ _ => rfl⟩
    have ko  := fun p hp => h0 p (hi.perm.mem_iff.mp hp)
    refine wpS_bind (wpS_cntG hO ko (show R.flatten.length + (size - R.flatten.length) ≤ (arrOf st1).size by rw [hi.size]; lia) (show 1 ≤ size - R.flatten.length by lia) B0 fun m st2 B2 hm1 hm2 hs2 => ?_)
    dsimp -zeta only
    extract_lets +onlyGivenNames n jp
    have fin : ∀ k st3, SB kd (arrOf st1) (pendingOf st1) (fun i => (arrOf st1)[i]?) R.flatten.length st3 → SF κ (arrOf st3) R.flatten.length k → 1 ≤ k → k ≤ size - R.flatten.length →
        wpS (model prog w) A E s (jp () k) (SQ kd κ a₀ (x + 1)) st3 := by
      intro k st3 B3 hs3 hk1 hk2
      obtain ⟨rest2, hi3, hp3⟩ := hi.next B3 hs3
      refine wpS_bind (wpS_get ?_)
      extract_lets +onlyGivenNames lo2 jp2
      have fin2 : ∀ st4 R', SI kd κ a₀ R' rest2 st4 → R'.flatten.length = R.flatten.length → wpS (model prog w) A E s (jp2 ()) (SQ kd κ a₀ (x + 1)) st4 := by
        intro st4 R' hi4 hl4
        have l4 := hi4.len
        have lk : (rest2.take k).length = k := by grind
        refine wpS_bind (wpS_modify (wpS_pure ⟨R' ++ [rest2.take k], rest2.drop k, ⟨hi4.kind, hi4.failed, ?_, ?_, hi4.perm⟩, ?_, ?_⟩))
        · rw [List.flatten_append, List.flatten_cons, List.flatten_nil, List.append_nil, List.append_assoc, List.take_append_drop]; exact hi4.arr
        · rw [Array.toList_push]
          exact RunsAt.mk hi4.runs ⟨show R.flatten.length = 0 + R'.flatten.length by lia, lk.symm, by lia, hp3, trivial⟩
        · show (none, R.flatten.length + k) = _
          simp_all
        · grind
      rcases hb : (pendingOf st3).back? with _ | ⟨s1, n1, p1⟩
      · exact fin2 st3 R hi3 rfl
      dsimp -zeta only
      extract_lets +onlyGivenNames pw
      refine wpS_bind (wpS_mono (wpS_forRange (I := fun _ c st' => c = (none, ()) ∧ ∃ R', SI kd κ a₀ R' rest2 st' ∧ R'.flatten.length = R.flatten.length) ?step3 (fun _ _ h => h) ⟨rfl, R, hi3, rfl⟩) ?post3)
      case step3 =>
        rintro y c st4 _ _ ⟨rfl, R', hi4, hl4⟩
        refine wpS_bind (wpS_get ?_)
        extract_lets +onlyGivenNames p
        by_cases c : p.size > 1
        · rw [if_pos c]
          rcases hg : p[p.size - 2]? with _ | ⟨f1, f2, older⟩
          · exact wpS_pure ⟨rfl, R', hi4, hl4⟩
          · dsimp only
            by_cases co : older ≤ pw
            · rw [if_pos co]; exact wpS_pure ⟨rfl, R', hi4, hl4⟩
            · rw [if_neg co]
              exact wpS_bind (wpS_mrg hO h0 (show (pendingOf st4).size - 2 + 1 < _ by lia) hi4 fun st5 R5 hi5 _ hl5 => wpS_pure ⟨rfl, R5, hi5, hl5.trans hl4⟩)
        · rw [if_neg c]
          exact wpS_pure ⟨rfl, R', hi4, hl4⟩
      case post3 =>
        rintro c st4 ⟨rfl, R', hi4, hl4⟩
        refine wpS_bind (wpS_modify (fin2 _ R' ⟨hi4.kind, hi4.failed, hi4.arr, ?_, hi4.perm⟩ hl4))
        rw [Array.toList_modify]
        exact RunsAt.modify (f := fun x => (x.1, x.2.1, pw)) (fun p => ⟨rfl, rfl⟩) hi4.runs
    refine wpS_ite (fun c => ?_) fun c => ?_
    · refine wpS_bind (wpS_lift (wpAny_rule ⟨rfl, ?_⟩))
      refine wpS_bind (wpS_binG (n := min _ _) hO ko (by rw [hi.size]; lia) (show m ≤ _ by lia) B2 hs2 fun st3 B3 hs3 => ?_)
      exact wpS_mono (fin (min _ _) st3 B3 hs3 (by lia) (by lia)) fun r st' h => by cases r <;> exact h
    · exact wpS_mono (fin m st2 B2 hs2 hm1 hm2) fun r st' h => by cases r <;> exact h
end
end L3

/-! list.sort and what comes out of it, for any number of texts. -/
namespace L3
open PySem PyProof.Rows
section
variable {prog : Program} {w : World} {A : Around} {E : Value → Shared → Prop} {s : Shared}
theorem sort_gen {κ : KeyKind} {kd : SortKind} {a : Addr} {vs : List Value} {n : Nat} {P : Fin → Shared → Prop} (ho : s.heap.get? a = some (seqObj "list" vs.toArray n)) (h0 : KeysOf κ (pairsOf vs))
    (hO : ∀ h', (∀ b o, b ≠ a → s.heap.get? b = some o → h'.get? b = some o) → KLt prog w A { s with heap := h' } κ kd)
    (hkk : ∀ h', (∀ b o, b ≠ a → s.heap.get? b = some o → h'.get? b = some o) → 2 ≤ vs.length → ∀ {Q : SortKind → Shared → Prop}, Q kd { s with heap := h' } → wpAny (model prog w) A (keyKind' vs.toArray) Q E { s with heap := h' }) (hz : vs.length ≤ sizeLine)
    (h : ∀ st' : SortSt, (arrOf st').Perm (pairsOf vs) → (arrOf st').toList.Pairwise (Rk κ) → P (.done (.ret .none)) { s with heap := sortedHeap s.heap a vs ((arrOf st').map (·.2)) }) :
    wpAny (model prog w) A (Builtin.«list.sort» ⟨[.ref a], []⟩) P E s := by
  rw [list_sort_plain]
  obtain ⟨e1, ho1⟩ : ∃ e1, (s.heap.update a (Obj.mapSeq _)).get? a = some (seqObj _ _ e1) := ⟨_, get?_update_seq ho (fun _ => #[])⟩
  have ho6 : (((s.heap.update a (Obj.mapSeq _)).push (seqObj "tuple" vs.toArray 0)).push (seqObj "list" #[] 0)).get? a = some (seqObj _ _ e1) :=
    Heap.get?_push_of_some _ (Heap.get?_push_of_some _ ho1)
  have hsz : vs.toArray.size = vs.length := List.size_toArray
  refine wpAny_bind (listItems_at ho rfl (wpAny_bind (listUpdate_at ho rfl (wpAny_bind (seqEpoch_at ho1 rfl (wpAny_bind (wpAny_newTuple (wpAny_bind (wpAny_newList (wpAny_holding ?_))) ?_)))))))
  · dsimp only
    by_cases h2 : vs.toArray.size < 2
    · rw [if_pos h2, if_pos h2]
      refine wpAny_bind (wpAny_pure ?_)
      refine wpAny_bind (wpAny_pure (wpAny_bind (seqEpoch_at ho6 rfl (wpAny_bind (listUpdate_at ho6 rfl ?_ (hsz2 := ?_))))))
      · simp only [bne_self_eq_false, if_false]
        refine wpAny_pure (h (SortSt.mk' _ (vs.toArray.zip _) _ 7 none) (Array.Perm.refl _) ?_)
        show (pairsOf vs).toList.Pairwise _
        rw [List.pairwise_iff_getElem]
        intro i j hi hj hij
        rw [Array.length_toList, pairsOf_size] at hj
        omega
      · rw [Array.size_map]; show (pairsOf vs).size ≤ _; rw [pairsOf_size]; exact Nat.le_succ_of_le hz
    · rw [if_neg h2, if_neg h2]
      have h2' : 2 ≤ vs.length := by grind
      have kp : ∀ b o, b ≠ a → s.heap.get? b = some o → (((s.heap.update a (Obj.mapSeq fun _ => #[])).push (seqObj "tuple" vs.toArray 0)).push (seqObj "list" #[] 0)).get? b = some o := fun b o hb e =>
        Heap.get?_push_of_some _ (Heap.get?_push_of_some _ (by rw [Heap.get?_update_ne _ _ _ _ hb]; exact e))
      refine wpAny_bind (hkk _ kp h2' (wpAny_bind (wpAny_mono (wpS_sortG (hO _ kp) (st := SortSt.mk' kd (vs.toArray.zip _) _ 7 none)
        (Q := fun _ st' => (arrOf st').Perm _ ∧ failedOf st' = none ∧ (arrOf st').toList.Pairwise _)
        h0 ⟨Array.Perm.refl _, rfl, rfl, rfl⟩ (by rw [pairsOf_size]; omega) fun st' a1 a2 a3 => ⟨a1, a2, a3⟩) ?_ fun _ _ e => e)))
      rintro ⟨⟨⟩, st'⟩ s' ⟨rfl, hp, hf, hs⟩
      refine wpAny_bind (seqEpoch_at ho6 rfl (wpAny_bind (listUpdate_at ho6 rfl ?_ (hsz2 := ?_))))
      · rw [hf]
        simp only [bne_self_eq_false, if_false]
        exact wpAny_pure (h st' hp hs)
      · exact Nat.le_trans (Nat.le_of_eq ((Array.size_map ..).trans (hp.size_eq.trans (pairsOf_size _)))) (Nat.le_succ_of_le hz)
  · exact hz
theorem sort_any {κ : KeyKind} (hO : κ.OneLt) {a : Addr} {vs : List Value} {n : Nat} {P : Fin → Shared → Prop} (ho : s.heap.get? a = some (seqObj "list" vs.toArray n)) (h0 : KeysOf κ (pairsOf vs))
    (hkk : ∀ v₁ v₂ rest, vs = v₁ :: v₂ :: rest → keyKind' (v₁ :: v₂ :: rest).toArray = pure oneType') (hz : vs.length ≤ sizeLine)
    (h : ∀ st' : SortSt, (arrOf st').Perm (pairsOf vs) → (arrOf st').toList.Pairwise (Rk κ) → P (.done (.ret .none)) { s with heap := sortedHeap s.heap a vs ((arrOf st').map (·.2)) }) :
    wpAny (model prog w) A (Builtin.«list.sort» ⟨[.ref a], []⟩) P E s :=
  sort_gen (kd := oneType') ho h0 (fun _ _ => klt_one hO) (fun h' _ h2 Q q => by
    obtain ⟨v₁, v₂, rest, rfl⟩ : ∃ v₁ v₂ rest, vs = v₁ :: v₂ :: rest := by
      match vs, h2 with
      | [], h2 => simp_all
      | [_], h2 => simp_all
      | v₁ :: v₂ :: rest, _ => exact ⟨v₁, v₂, rest, rfl⟩
    rw [hkk _ _ _ rfl]
    exact wpAny_pure q) hz h
def leT (a b : Str) : Prop := decide (b.cps.toList < a.cps.toList) = false
theorem sort_out {vs : List Value} {ss : List Str} (hS : StrsAre vs ss) {xs : Array Keyed} (hp : xs.Perm (pairsOf vs)) (hs : xs.toList.Pairwise (Rk strKind)) :
    ∃ ss', StrsAre (xs.map (·.2)).toList ss' ∧ ss'.Perm ss ∧ ss'.Pairwise leT := by
  obtain ⟨ss', h1, h2, _⟩ := sorted_out_str hS hp (by
    intro i j hij hj
    rw [← hp.size_eq] at hj
    by_cases e : i = j
    · subst e; exact KeyOrd.kle_refl _
    · rw [KK_some (p := xs[i]) (getElem?_pos _ _ _), KK_some (p := xs[j]) (getElem?_pos _ _ _)]
      exact List.pairwise_iff_getElem.mp hs i j _ _ (by omega))
  refine ⟨ss', h1, h2, ?_⟩
  have e := h1.strs
  rw [Array.toList_map, List.map_map] at e
  rw [← e]
  refine List.pairwise_map.mpr (List.Pairwise.imp_of_mem ?_ hs)
  intro p q hp' hq' r
  have mm : ∀ {x : Keyed}, x ∈ xs.toList → ∃ z t, x.1 = .str z t ∧ x.2 = .str z t := fun {x} hx => by
    have hm := mem_zip_self (by rw [← pairsOf_toList]; exact (Array.perm_iff_toList_perm.mp hp).mem_iff.mp hx)
    obtain ⟨z, t, ez⟩ := hS.all _ hm.2
    exact ⟨z, t, ez, by rw [← hm.1]; exact ez⟩
  obtain ⟨z, t, e1, e2⟩ := mm hp'
  obtain ⟨z', t', e3, e4⟩ := mm hq'
  show decide ((strOf q.2).cps.toList < (strOf p.2).cps.toList) = false
  rw [e2, e4]
  have r' : decide ((ky _ q) < (ky strKind p)) = false := r
  unfold ky at r'
  rw [e1, e3] at r'
  exact r'
theorem leT_antisymm {a b : Str} (h : leT a b) (h' : leT b a) : a = b := by
  have e  := strKind.total _ _ h' h
  obtain ⟨⟨x⟩⟩ := a
  simp_all
theorem sort_uniq : ∀ {xs ys : List Str}, xs.Perm ys → xs.Pairwise leT → ys.Pairwise leT → xs = ys
  | [], ys, p, _, _ => (List.nil_perm.mp p).symm
  | x :: xs, [], p, _, _ => absurd p.length_eq (by simp)
  | x :: xs, y :: ys, p, h, h' => by
    have e : x = y := by
      rcases List.mem_cons.mp (p.mem_iff.mp (List.mem_cons_self ..)) with e | e
      · exact e
      · rcases List.mem_cons.mp (p.mem_iff.mpr (List.mem_cons_self ..)) with e' | e'
        · exact e'.symm
        · exact leT_antisymm ((List.pairwise_cons.mp h).1 y e') ((List.pairwise_cons.mp h').1 x e)
    subst e
    rw [sort_uniq (List.Perm.cons_inv p) (List.pairwise_cons.mp h).2 (List.pairwise_cons.mp h').2]
end
end L3

/-! set(texts) of any number, and sorted of it: the order is the text's, or drawn. -/
namespace PySem
open PyProof.Rows PySem.W
namespace SW
theorem entry_set_iter : entryFor table "set.__iter__" = some Builtin.«frozenset.__iter__» :=
  entryFor_alias (id' := "frozenset.__iter__") (by kernel_rfl) (by first | rfl | decide +kernel | (unfold String.splitOn; simp +decide [String.splitOnAux])) (by decide +kernel) (by kernel_rfl)
theorem owner_si : Manifest.owners.lookup (String.ofList ['r', 'o', 't', 'a', 'r', 'e', 't', 'i', '_', 't', 'e', 's'].reverse) = some Manifest.sig_set_iterator := by kernel_rfl
theorem slot_next : Slot "set_iterator" "__next__" "set_iterator.__next__" :=
  .of (owner := "set_iterator") (n := "__next__") (by rw [typeLookup_type, builtinLookup_eq_fast]; kernel_rfl) (by decide +kernel) (by decide +kernel) (by decide +kernel)
    (by first | exact .inl (by decide +kernel) | exact .inr (by decide +kernel)) (by rw [isSubtype_type]; kernel_rfl)
theorem entry_next : entryFor table "set_iterator.__next__" = some Builtin.«set_iterator.__next__» := entryFor_of_tree (by kernel_rfl)
theorem args_next (a : Value) : argsOk "set_iterator.__next__" ⟨[a], []⟩ := by
  unfold argsOk; rw [signature?_of (id := "set_iterator.__next__") (n := ['_', '_', 't', 'x', 'e', 'n', '_', '_']) (o := ['r', 'o', 't', 'a', 'r', 'e', 't', 'i', '_', 't', 'e', 's']) (by kernel_rfl) owner_si]; kernel_rfl
theorem slot_iter : Slot "set_iterator" "__iter__" "set_iterator.__iter__" :=
  .of (owner := "set_iterator") (n := "__iter__") (by rw [typeLookup_type, builtinLookup_eq_fast]; kernel_rfl) (by decide +kernel) (by decide +kernel) (by decide +kernel)
    (by first | exact .inl (by decide +kernel) | exact .inr (by decide +kernel)) (by rw [isSubtype_type]; kernel_rfl)
theorem args_iter (a : Value) : argsOk "set_iterator.__iter__" ⟨[a], []⟩ := by
  unfold argsOk; rw [signature?_of (id := "set_iterator.__iter__") (n := ['_', '_', 'r', 'e', 't', 'i', '_', '_']) (o := ['r', 'o', 't', 'a', 'r', 'e', 't', 'i', '_', 't', 'e', 's']) (by kernel_rfl) owner_si]; kernel_rfl
theorem entry_iter : entryFor table "set_iterator.__iter__" = some Builtin.«dict_keyiterator.__iter__» :=
  entryFor_alias (id' := "dict_keyiterator.__iter__") (by kernel_rfl) (by first | rfl | decide +kernel | (unfold String.splitOn; simp +decide [String.splitOnAux])) (by decide +kernel) (by kernel_rfl)
end SW
theorem erase_perm {α : Type} : ∀ (l : List α) (i : Nat) (h : i < l.length), (l[i] :: l.eraseIdx i).Perm l
  | x :: l, 0, _ => .refl _
  | x :: l, i + 1, h => by
    have h' : i < l.length := by simpa using h
    rw [List.getElem_cons_succ, List.eraseIdx_cons_succ]
    exact (List.Perm.swap x _ _).trans ((erase_perm l i h').cons x)
theorem pick_go {α : Type} (next : Nat → Nat) : ∀ (fuel k : Nat) (left : List α) (out : Array α), left.length = fuel → (pickOrder.go next fuel k left out).toList.Perm (out.toList ++ left)
  | 0, k, left, out, h => by
    have : left = [] := List.length_eq_zero_iff.mp h
    subst this
    unfold pickOrder.go
    simp
  | fuel + 1, k, left, out, h => by
    unfold pickOrder.go
    have hi : next k % left.length < left.length := Nat.mod_lt _ (by omega)
    rw [List.getElem?_eq_getElem hi]
    dsimp only
    refine (pick_go next fuel (k + 1) _ _ (by rw [List.length_eraseIdx_of_lt hi]; omega)).trans ?_
    rw [Array.toList_push, List.append_assoc]
    exact (List.Perm.refl _).append (erase_perm left _ hi)
theorem pick_perm {α : Type} (next : Nat → Nat) (xs : Array α) : (pickOrder next xs).toList.Perm xs.toList := by
  unfold pickOrder
  have := pick_go next xs.size 0 xs.toList #[] (Array.length_toList)
  simpa using this
open ST in
theorem below_next {xs : Array Nat} (hr : Ris xs.toList) {i j : Nat} (h : xs[i]? = some j) : SetTable.below xs (j + 1) = i + 1 := by
  obtain ⟨hi, e⟩ := Array.getElem?_eq_some_iff.mp h
  obtain ⟨h1, h2, h3⟩ := below_spec hr (j + 1)
  rcases Nat.lt_trichotomy (SetTable.below xs (j + 1)) (i + 1) with c | c | c
  · have := h3 i hi (by omega)
    omega
  · exact c
  · have hi2 : i + 1 < xs.size := by omega
    have a := h2 (i + 1) hi2 (by omega)
    have b := hr.get hi hi2 (Nat.lt_succ_self i)
    omega
open ST in
theorem below_zero {xs : Array Nat} (hr : Ris xs.toList) : SetTable.below xs 0 = 0 := by
  obtain ⟨h1, h2, h3⟩ := below_spec hr 0
  rcases Nat.eq_zero_or_pos (SetTable.below xs 0) with c | c
  · exact c
  · have := h2 0 (by omega) c
    omega
noncomputable def byTx (w : World) : Bool := w.params.followText "set-order"
noncomputable def wlk (w : World) (a : Addr) (ep : Nat) (es : Array (Int × Value)) : Array (Int × Value) := if byTx w = true then pickOrder (w.params.setOrder a ep) es else es
theorem wlk_perm (w : World) (a : Addr) (ep : Nat) (es : Array (Int × Value)) : (wlk w a ep es).toList.Perm es.toList := by
  unfold wlk
  split
  · exact pick_perm _ _
  · exact .refl _
noncomputable def siObj (slot i : Nat) (d : Addr) (n ep : Nat) : Obj := { cls := .type "set_iterator", data := .fields #[rawInt slot, rawInt i, .ref d, rawInt n, rawInt ep] }
structure SsAt (w : World) (it d : Addr) (ns : List Str) (es : Array (Int × Value)) (ep : Nat) (t : SetTable) (i : Nat) (h : Heap) : Prop where
  ok : StrG w h d (!byTx w) ns es ep t
  it : ∃ slot, h.get? it = some (siObj slot i d es.size ep) ∧ (byTx w = false → SetTable.below t.place slot = i)
structure SbAt (w : World) (it tp d : Addr) (ord : List Nat) (ns : List Str) (es : Array (Int × Value)) (ep : Nat) (t : SetTable) (i : Nat) (h : Heap) : Prop where
  ok : StrG w h d (!byTx w) ns es ep t
  tup : ∃ o n, h.get? tp = some o ∧ o.data = .seq (ord.map fun (j : Nat) => rawInt j).toArray n
  it : h.get? it = some { cls := .type "set_iterator", data := .fields #[.ref tp, rawInt i, .ref d, rawInt es.size, rawInt ep] }
section
variable {prog : Program} {w : World} {A : Around} {E : Value → Shared → Prop} {s : Shared} {it tp d : Addr} {ns : List Str} {es : Array (Int × Value)} {ep : Nat} {t : SetTable} {ord : List Nat}
theorem code_set_new_l (a : Value) {Q₁ : Value → Shared → Prop}
    (h : Q₁ (.ref s.heap.objs.size) { s with heap := s.heap.push (newSetO (!byTx w)) }) :
    codeAny (model prog w) A (.call (.builtin "set.__new__") ⟨[.type "set", a], []⟩) (wants Q₁ E) s := by
  refine codeAny_of_tree ?_
  show wpAny _ A.in1 (do checkBuiltinCall "set.__new__" ⟨[.type "set", a], []⟩; again (.builtin "set.__new__" ⟨[.type "set", a], []⟩)) _ _ s
  refine wpAny_bind (wpAny_of_eq (F.newCall_set_1 a) (wpAny_pure ⟨plainId_quiet F.plain_set_new _, codeAny_builtin F.entry_set_new ?_⟩))
  rw [Around.under_plainId F.plain_set_new _]
  unfold Builtin.«set.__new__» Builtin.Frozenset.newClass
  have hsub := sub_set_self
  obtain ⟨hp, g, d, tk, os⟩ := s
  dsimp only
  wp_walk
  refine wpAny_askSetting (wpAny_pure ?_)
  dsimp only
  simp only [newObj]
  refine wpAny_bind (wpAny_alloc (wpAny_pure ?_))
  exact wpAny_pure h
set_option maxRecDepth 100000 in
set_option maxHeartbeats 3200000 in
theorem call_set_led {x : Value} {Q : Value → Shared → Prop}
    (up : ∀ (E' : Value → Shared → Prop), wpAny (model prog w) A.in1.in1 (Builtin.Frozenset.updateFrom "set.__init__" s.heap.objs.size x) (fun _ s2 => Q (.ref s.heap.objs.size) s2) E' { s with heap := s.heap.push (newSetO (!byTx w)) }) :
    wpAny (model prog w) A (call (.type "set") [x]) Q E s := by
  obtain ⟨c0, tl0, hm0⟩ := F.called_set.mro
  have made0 := F.called_set.made
  have sub0 := F.called_set.sub
  refine wpAny_call (codeAny_of_tree ?_)
  show wpAny _ _ (callAny (.type "set") _) _ _ _
  refine wpAny_pure ⟨Code.quiet_builtin _ (by decide +kernel), codeAny_builtin F.entry_type_call ?_⟩
  rw [Around.under_plain (weight_type_call_type "set" [x] []) rfl]
  have n0 := F.called_set.notType
  have n1 := F.called_set.canCreate
  have ct0 := F.typeCall_set_1 x
  repeat (any_goals (first | assumption | wp_step))
  refine codeAny_mono (code_set_new_l x (E := E) (Q₁ := fun v s1 => v = .ref s.heap.objs.size ∧ s1 = { s with heap := s.heap.push (newSetO (!byTx w)) }) ⟨rfl, rfl⟩) fun r0 s0 hr0 => ?_
  cases r0 with
  | error e => exact hr0
  | ok f0 =>
    cases f0 with
    | ret v0 =>
      obtain ⟨rfl, rfl⟩ := hr0
      have hS0 : (s.heap.push (newSetO (!byTx w))).get? s.heap.objs.size = some (newSetO (!byTx w)) := Heap.get?_push_size _ rfl
      have hT0 : Shared.TypeIs { s with heap := s.heap.push (newSetO (!byTx w)) } (.ref s.heap.objs.size) "set" := ⟨_, hS0, rfl⟩
      have li0 := F.called_set.init.lookup
      have bi0 := F.called_set.init.bind (.ref s.heap.objs.size)
      repeat (any_goals (first | assumption | wp_step))
      refine codeAny_mono (codeAny_call_builtin (R := wants (fun r s2 => r = .none ∧ Q (.ref s.heap.objs.size) s2) E) F.called_set.init.plain F.entry_set_init (check_set_init_1 hT0 ?_)) fun r1 s1 hr1 => ?_
      · unfold Builtin.«set.__init__» noKeywords
        have up0 := up
        generalize Builtin.Frozenset.updateFrom = UF at up0 ⊢
        wp_walk
        refine wpAny_mono (up0 _) (fun _ s2 hq => ?_) fun _ _ e => e
        first | exact wpAny_pure ⟨rfl, hq⟩ | exact wpAny_pure (wpAny_pure ⟨rfl, hq⟩) | exact wpAny_bind (wpAny_pure (wpAny_pure ⟨rfl, hq⟩))
      · cases r1 with
        | error e => exact hr1
        | ok f1 =>
          cases f1 with
          | ret r =>
            obtain ⟨rfl, hq⟩ := hr1
            repeat (any_goals (first | assumption | wp_step))
          | _ => exact hr1.elim
    | _ => exact hr0.elim
theorem StrG.at {h h' : Heap} {led : Bool} (I : StrG w h d led ns es ep t) (k : ∀ o, h.get? d = some o → h'.get? d = some o) : StrG w h' d led ns es ep t := by
  obtain ⟨o, ho, r⟩ := I.get
  exact ⟨⟨o, k o ho, r⟩, I.el, I.pm, I.good, I.led, I.pl, I.full, I.ms⟩
theorem StrG.fits {h : Heap} {led : Bool} (I : StrG w h d led ns es ep t) : t.fits es.size = true := by have := I.good.fits; rw [List.length_map, Array.length_toList] at this; exact this
theorem strG_new {h : Heap} (led : Bool) : StrG w (h.push (newSetO led)) h.objs.size led [] #[] 0 (.fresh 0 0 led) :=
  ⟨⟨_, Heap.get?_push_size _ rfl, ⟨rfl, rfl, rfl⟩, rfl⟩, (by intro e he; cases he), .nil, ⟨⟨3, Nat.le_refl _, rfl⟩, rfl, List.Pairwise.nil, (by intro j hj; cases hj), rfl, Nat.zero_le _, (by intro x hx; cases hx)⟩, rfl, (fun _ => rfl), (by show 0 * 5 < 7 * 3; decide), .inl rfl⟩
theorem wpAny_byText {Q : Bool → Shared → Prop} (h : Q (byTx w) s) : wpAny (model prog w) A setsByText Q E s := by
  unfold setsByText
  exact wpAny_bind (wpAny_askSetting (wpAny_pure h))
theorem wpAny_choose {src : Source} {n : Nat} {Q : Nat → Shared → Prop} (hn : n ≠ 0) (h : ∀ v d', v < n → Q v { s with drawn := d' }) : wpAny (model prog w) A (choose src n) Q E s := fun _ _ _ => ⟨hn, h _ _ (Nat.mod_lt _ (Nat.pos_of_ne_zero hn))⟩
theorem wpAny_drawOrder {α : Type} : ∀ (n : Nat) (xs : List α) (s : Shared) (Q : List α → Shared → Prop), xs.length = n → (∀ ys d', ys.Perm xs → Q ys { s with drawn := d' }) → wpAny (model prog w) A (drawOrder n xs) Q E s
  | 0, xs, s, Q, hl, h => by
    have := List.length_eq_zero_iff.mp hl
    subst this
    exact wpAny_pure (h [] s.drawn .nil)
  | n + 1, [], s, Q, hl, h => nomatch hl
  | n + 1, x :: xs, s, Q, hl, h => by
    unfold drawOrder
    refine wpAny_bind (wpAny_choose (n := (x :: xs).length) (by simp) fun v d1 hv => ?_)
    have e : (x :: xs)[v]? = some (x :: xs)[v] := List.getElem?_eq_getElem hv
    rw [e]
    dsimp only
    refine wpAny_bind (wpAny_drawOrder n _ _ _ (by rw [List.length_eraseIdx_of_lt hv]; simpa using hl) fun ys d2 hp => ?_)
    exact wpAny_pure (h _ d2 ((hp.cons _).trans (erase_perm (x :: xs) v hv)))
theorem ss_setNext {slot i : Nat} {Q : Option (Value × Nat) → Shared → Prop} (I : StrG w s.heap d (!byTx w) ns es ep t) (hdr : (!byTx w && decide (es.size > 1)) = false) (hb : byTx w = false → SetTable.below t.place slot = i)
    (h : ∀ nx, (byTx w = false → i < es.size → SetTable.below t.place nx = i + 1) → Q (((wlk w d ep es)[i]?).map fun e => (e.2, nx)) s) : wpAny (model prog w) A (setNext d slot i ep) Q E s := by
  obtain ⟨o, ho, hex, hd⟩ := I.get
  have hps : t.place.size = es.size := by have := I.good.len; simpa using this
  unfold setNext
  refine wpAny_bind (wpAny_setState_of ho hd I.fits ?_)
  dsimp only
  refine wpAny_bind (wpAny_byText ?_)
  cases hB : byTx w with
  | true =>
    simp only [if_true]
    rw [if_neg (by simp)]
    unfold setWalk
    refine wpAny_bind (wpAny_bind (wpAny_setState_of ho hd I.fits ?_))
    dsimp only
    refine wpAny_bind (wpAny_byText ?_)
    rw [hB]
    simp only [if_true]
    refine wpAny_bind (wpAny_askSetting (wpAny_pure (wpAny_pure ?_)))
    have := h slot (fun z => by rw [hB] at z; cases z)
    unfold wlk at this
    rw [if_pos hB] at this
    exact this
  | false =>
    simp only [Bool.false_eq_true, if_false]
    have hd1 : decide (es.size > 1) = false := by rw [hB] at hdr; simpa using hdr
    have hdr' : (!t.plain && decide (es.size > 1)) = false := by rw [hd1, Bool.and_false]
    show wpAny _ _ (if (!t.plain && decide (es.size > 1)) = true then _ else _) _ _ _
    rw [hdr', if_neg (by decide)]
    refine wpAny_bind ?_
    show wpAny _ _ (if (!t.led && !es.isEmpty) = true then _ else _) _ _ _
    have hled : (!t.led && !es.isEmpty) = false := by rw [I.led, hB]; rfl
    rw [hled, if_neg (by decide)]
    refine wpAny_pure ?_
    try dsimp only
    rw [hb hB]
    refine wpAny_pure ?_
    unfold wlk at h
    rw [if_neg (by rw [hB]; decide)] at h
    by_cases hi : i < es.size
    · have e1 : es[i]? = some es[i] := Array.getElem?_eq_getElem hi
      have e2 : t.place[i]? = some (t.place[i]'(by omega)) := Array.getElem?_eq_getElem (by omega)
      have := h (t.place[i]'(by omega) + 1) (fun _ _ => below_next I.good.ris e2)
      rw [e1] at this ⊢
      rw [e2]
      exact this
    · have e1 : es[i]? = none := Array.getElem?_eq_none (by omega)
      have := h 0 (fun _ z => absurd z hi)
      rw [e1] at this ⊢
      exact this
theorem ss_item {i : Nat} {Q : Option Value → Shared → Prop} {e : Int × Value} (hdr : (!byTx w && decide (es.size > 1)) = false) (st : SsAt w it d ns es ep t i s.heap) (hne : d ≠ it) (hx : (wlk w d ep es)[i]? = some e) (hi : i < es.size)
    (q : ∀ h', SsAt w it d ns es ep t (i + 1) h' → Heap.SameBut it s.heap h' → Q (some e.2) { s with heap := h' }) : wpAny (model prog w) A (pyNext (.ref it)) Q E s := by
  obtain ⟨I, slot, eb, hb⟩ := st
  obtain ⟨o, ho, hex, hd⟩ := I.get
  have ty : s.TypeIs (.ref it) "set_iterator" := ⟨_, eb, rfl⟩
  have db : (siObj slot i d es.size ep).data = .fields #[rawInt slot, rawInt i, .ref d, rawInt es.size, rawInt ep] := rfl
  unfold pyNext
  refine wpAny_bind (wpAny_attempt (wpAny_callSpecial?_slot (name := Str.ofString "__next__") ty SW.slot_next (wpAny_call_entry SW.slot_next ty SW.entry_next ?_ (SW.args_next _))))
  unfold Builtin.«set_iterator.__next__»
  refine wpAny_bind (wpAny_of_eq (a := (Value.ref it, [])) rfl ?_)
  dsimp only
  refine wpAny_bind (wpAny_fieldsOf eb db ?_)
  show wpAny _ _ (setEntries d >>= fun _ => _) _ _ _
  refine wpAny_bind (wpAny_setEntries_of ho hd I.fits ?_)
  rw [if_neg (by simp)]
  show wpAny _ _ (setNext d (slot : Int).toNat (i : Int).toNat (ep : Int).toNat >>= fun _ => _) _ _ _
  simp only [Int.toNat_natCast]
  refine wpAny_bind (ss_setNext I hdr hb fun nx hnx => ?_)
  rw [hx]
  dsimp only [Option.map]
  show wpAny _ _ (setField (.ref it) 0 (rawInt nx) >>= fun _ => _) _ _ _
  refine wpAny_bind (wpAny_setField_rec (cls := .type "set_iterator") (k := 0) eb (by simp) fun k1 z1 u1 => ?_)
  replace z1 : k1.get? it = some (siObj nx i d es.size ep) := z1
  replace u1 : Heap.SameBut it s.heap k1 := u1
  show wpAny _ _ (setField (.ref it) 1 (rawInt ((i : Int) + 1)) >>= fun _ => _) _ _ _
  refine wpAny_bind (wpAny_setField_rec (cls := .type "set_iterator") (k := 1) z1 (by simp) fun k2 z2 u2 => ?_)
  replace z2 : k2.get? it = some (siObj nx (i + 1) d es.size ep) := z2
  replace u2 : Heap.SameBut it k1 k2 := u2
  refine wpAny_pure ⟨_, rfl, wpAny_pure (q k2 ⟨I.at fun o e => (u1.trans u2).extBut _ _ hne e, nx, z2, fun z => hnx z hi⟩ (u1.trans u2))⟩
theorem si_selfS {o : Obj} {Q : Value → Shared → Prop} (ho : s.heap.get? it = some o) (hc : o.cls = .type "set_iterator") (h : Q (.ref it) s) : wpAny (model prog w) A (pyIter (.ref it)) Q E s := by
  have ty : s.TypeIs (.ref it) "set_iterator" := ⟨_, ho, hc⟩
  refine wpAny_pyIter_slot ty SW.slot_iter (wpAny_call_entry SW.slot_iter ty SW.entry_iter ?_ (SW.args_iter _))
  show wpAny _ _ (ret (.ref it)) _ _ s
  exact wpAny_pure ⟨_, rfl, "set_iterator", _, ty, SW.slot_next.lookup, h⟩
theorem raise_stop {α : Type} {h1 : Heap} {Q : α → Shared → Prop} {E' : Value → Shared → Prop} (hh : A.handled = none) (q : ∀ h' e, (∀ b o, h1.get? b = some o → h'.get? b = some o) → Shared.TypeIs { s with heap := h' } e "StopIteration" → E' e { s with heap := h' }) :
    wpAny (model prog w) A (newExc (.type "StopIteration") ([] : List Value) >>= fun e => (raiseNew e : Sem α)) Q E' { s with heap := h1 } := by
  refine wpAny_bind ?_
  simp only [newExc, newTuple]
  refine wpAny_bind (wpAny_newObj_type (wpAny_bind (m := firstArgMember _ _) (wpAny_of_eq (a := .none) (by first | rfl | (simp only [firstArgMember]; rfl)) (wpAny_newObj_type ?_ (by size_fits)))) (by size_fits))
  simp only [raiseNew]
  refine wpAny_bind (wpAny_handled ?_)
  rw [hh]
  refine wpAny_bind (wpAny_pure (wpAny_throw ?_))
  exact q _ _ (fun b o e => Heap.get?_push_of_some _ (Heap.get?_push_of_some _ e)) ⟨_, Heap.get?_push_size _ rfl, rfl⟩
theorem ss_end {i : Nat} {Q : Option Value → Shared → Prop} (hdr : (!byTx w && decide (es.size > 1)) = false) (hh : A.handled = none) (st : SsAt w it d ns es ep t i s.heap) (hx : (wlk w d ep es)[i]? = none)
    (q : ∀ h', (∀ b o, b ≠ it → s.heap.get? b = some o → h'.get? b = some o) → Q none { s with heap := h' }) : wpAny (model prog w) A (pyNext (.ref it)) Q E s := by
  obtain ⟨I, slot, eb, hb⟩ := st
  obtain ⟨o, ho, hex, hd⟩ := I.get
  have ty : s.TypeIs (.ref it) "set_iterator" := ⟨_, eb, rfl⟩
  have db : (siObj slot i d es.size ep).data = .fields #[rawInt slot, rawInt i, .ref d, rawInt es.size, rawInt ep] := rfl
  unfold pyNext
  refine wpAny_bind (wpAny_attempt (wpAny_callSpecial?_slot (name := Str.ofString "__next__") ty SW.slot_next (wpAny_call_entry SW.slot_next ty SW.entry_next ?_ (SW.args_next _))))
  unfold Builtin.«set_iterator.__next__»
  refine wpAny_bind (wpAny_of_eq (a := (Value.ref it, [])) rfl ?_)
  dsimp only
  refine wpAny_bind (wpAny_fieldsOf eb db ?_)
  show wpAny _ _ (setEntries d >>= fun _ => _) _ _ _
  refine wpAny_bind (wpAny_setEntries_of ho hd I.fits ?_)
  rw [if_neg (by simp)]
  show wpAny _ _ (setNext d (slot : Int).toNat (i : Int).toNat (ep : Int).toNat >>= fun _ => _) _ _ _
  simp only [Int.toNat_natCast]
  refine wpAny_bind (ss_setNext I hdr hb fun nx hnx => ?_)
  rw [hx]
  dsimp only [Option.map]
  show wpAny _ _ (setField (.ref it) 2 Value.none >>= fun _ => _) _ _ _
  refine wpAny_bind (wpAny_setField eb db (by simp) ?_)
  refine raise_stop (s := s) hh fun h' e k ty' => ?_
  refine wpAny_bind (wpAny_isInstance (b := true) (T := "StopIteration") ty' isSubtype_stop ?_)
  exact wpAny_pure (q h' fun b o hb e' => k b o ((Heap.SameBut.update ..).extBut b o hb e'))
noncomputable def sbObj (tp : Addr) (i : Nat) (d : Addr) (n ep : Nat) : Obj := { cls := .type "set_iterator", data := .fields #[.ref tp, rawInt i, .ref d, rawInt n, rawInt ep] }
theorem sb_item {i j : Nat} {Q : Option Value → Shared → Prop} {e : Int × Value} (st : SbAt w it tp d ord ns es ep t i s.heap) (hne : d ≠ it) (hnt : tp ≠ it) (hj : ord[i]? = some j) (hx : es[j]? = some e)
    (q : ∀ h', SbAt w it tp d ord ns es ep t (i + 1) h' → Heap.SameBut it s.heap h' → Q (some e.2) { s with heap := h' }) : wpAny (model prog w) A (pyNext (.ref it)) Q E s := by
  obtain ⟨I, tu, eb⟩ := st
  obtain ⟨ot, n, hot, htd⟩ := id tu
  obtain ⟨o, ho, hex, hd⟩ := I.get
  have ty : s.TypeIs (.ref it) "set_iterator" := ⟨_, eb, rfl⟩
  have db : (sbObj tp i d es.size ep).data = .fields #[.ref tp, rawInt i, .ref d, rawInt es.size, rawInt ep] := rfl
  unfold pyNext
  refine wpAny_bind (wpAny_attempt (wpAny_callSpecial?_slot (name := Str.ofString "__next__") ty SW.slot_next (wpAny_call_entry SW.slot_next ty SW.entry_next ?_ (SW.args_next _))))
  unfold Builtin.«set_iterator.__next__»
  refine wpAny_bind (wpAny_of_eq (a := (Value.ref it, [])) rfl ?_)
  dsimp only
  refine wpAny_bind (wpAny_fieldsOf eb db ?_)
  show wpAny _ _ (setEntries d >>= fun _ => _) _ _ _
  refine wpAny_bind (wpAny_setEntries_of ho hd I.fits ?_)
  rw [if_neg (by simp)]
  show wpAny _ _ (seqItems? (.ref tp) >>= fun _ => _) _ _ _
  refine wpAny_bind (wpAny_seqItems hot htd ?_)
  dsimp only
  have hpl : (ord.map fun (j : Nat) => rawInt j).toArray[(i : Int).toNat]? = some (rawInt j) := by
    rw [Int.toNat_natCast, List.getElem?_toArray, List.getElem?_map, hj]; rfl
  rw [hpl]
  show wpAny _ _ (setNextDrawn d (j : Int).toNat (ep : Int).toNat >>= fun _ => _) _ _ _
  simp only [Int.toNat_natCast]
  refine wpAny_bind ?_
  unfold setNextDrawn
  refine wpAny_bind (wpAny_setState_of ho hd I.fits ?_)
  dsimp only
  rw [if_neg (by simp), hx]
  refine wpAny_pure ?_
  show wpAny _ _ (setField (.ref it) 1 (rawInt ((i : Int) + 1)) >>= fun _ => _) _ _ _
  refine wpAny_bind (wpAny_setField_rec (cls := .type "set_iterator") (k := 1) eb (by simp) fun k2 z2 u2 => ?_)
  replace z2 : k2.get? it = some (sbObj tp (i + 1) d es.size ep) := z2
  replace u2 : Heap.SameBut it s.heap k2 := u2
  refine wpAny_pure ⟨_, rfl, wpAny_pure (q k2 ⟨I.at fun o e => u2.extBut _ _ hne e, ⟨ot, n, u2.extBut _ _ hnt hot, htd⟩, z2⟩ u2)⟩
theorem sb_end {i : Nat} {Q : Option Value → Shared → Prop} (hh : A.handled = none) (st : SbAt w it tp d ord ns es ep t i s.heap) (hj : ord[i]? = none)
    (q : ∀ h', (∀ b o, b ≠ it → s.heap.get? b = some o → h'.get? b = some o) → Q none { s with heap := h' }) : wpAny (model prog w) A (pyNext (.ref it)) Q E s := by
  obtain ⟨I, tu, eb⟩ := st
  obtain ⟨ot, n, hot, htd⟩ := id tu
  obtain ⟨o, ho, hex, hd⟩ := I.get
  have ty : s.TypeIs (.ref it) "set_iterator" := ⟨_, eb, rfl⟩
  have db : (sbObj tp i d es.size ep).data = .fields #[.ref tp, rawInt i, .ref d, rawInt es.size, rawInt ep] := rfl
  unfold pyNext
  refine wpAny_bind (wpAny_attempt (wpAny_callSpecial?_slot (name := Str.ofString "__next__") ty SW.slot_next (wpAny_call_entry SW.slot_next ty SW.entry_next ?_ (SW.args_next _))))
  unfold Builtin.«set_iterator.__next__»
  refine wpAny_bind (wpAny_of_eq (a := (Value.ref it, [])) rfl ?_)
  dsimp only
  refine wpAny_bind (wpAny_fieldsOf eb db ?_)
  show wpAny _ _ (setEntries d >>= fun _ => _) _ _ _
  refine wpAny_bind (wpAny_setEntries_of ho hd I.fits ?_)
  rw [if_neg (by simp)]
  show wpAny _ _ (seqItems? (.ref tp) >>= fun _ => _) _ _ _
  refine wpAny_bind (wpAny_seqItems hot htd ?_)
  dsimp only
  have hpl : (ord.map fun (j : Nat) => rawInt j).toArray[(i : Int).toNat]? = none := by
    rw [Int.toNat_natCast, List.getElem?_toArray, List.getElem?_map, hj]; rfl
  rw [hpl]
  show wpAny _ _ (setField (.ref it) 0 (rawInt 0) >>= fun _ => _) _ _ _
  refine wpAny_bind (wpAny_setField_rec (cls := .type "set_iterator") (k := 0) eb (by simp) fun k1 z1 u1 => ?_)
  replace z1 : k1.get? it = some (siObj 0 i d es.size ep) := z1
  replace u1 : Heap.SameBut it s.heap k1 := u1
  show wpAny _ _ (setField (.ref it) 2 Value.none >>= fun _ => _) _ _ _
  refine wpAny_bind (wpAny_setField (s := { s with heap := k1 }) z1 rfl (by simp) ?_)
  refine raise_stop (s := s) hh fun h' e k ty' => ?_
  refine wpAny_bind (wpAny_isInstance (b := true) (T := "StopIteration") ty' isSubtype_stop ?_)
  exact wpAny_pure (q h' fun b o hb e' => k b o ((Heap.SameBut.update ..).extBut b o hb (u1.extBut b o hb e')))
theorem set_iter {Q : Value → Shared → Prop} (I : StrG w s.heap d (!byTx w) ns es ep t) (hsz : es.size ≤ sizeLine)
    (q : ∀ (I0 : Addr) (h1 : Heap) (d1 : Drawn) (fp : List Addr) (St : Nat → Heap → Prop) (ws : List (Int × Value)), ws.Perm es.toList → (∀ b o, s.heap.get? b = some o → h1.get? b = some o) → s.heap.objs.size ≤ I0 → (∀ b ∈ fp, b = d ∨ s.heap.objs.size ≤ b) →
      (∀ A' : Around, A'.handled = none → Walks prog w A' I0 fp [I0] es.size (fun i v => ∃ e, ws[i]? = some e ∧ v = e.2) St) → St 0 h1 → Q (.ref I0) { s with heap := h1, drawn := d1 }) :
    wpAny (model prog w) A (pyIter (.ref d)) Q E s := by
  obtain ⟨o, ho, hex, hd⟩ := I.get
  have ty : s.TypeIs (.ref d) "set" := ⟨_, ho, hex.1⟩
  have hlt := Heap.lt_size ho
  refine wpAny_pyIter_slot ty F.slot_set_iter (wpAny_call_entry F.slot_set_iter ty SW.entry_set_iter ?_ (F.args_set_iter_1 _))
  unfold Builtin.«frozenset.__iter__» Builtin.Frozenset.slot0 slotArgs
  simp only [List.isEmpty_nil, Bool.not_true, Bool.false_eq_true, ↓reduceIte, bind_assoc, List.length_nil, bne_self_eq_false]
  unfold Builtin.Frozenset.addrOf Builtin.Frozenset.sizeOf
  refine wpAny_bind (wpAny_pure ?_)
  try dsimp only
  refine wpAny_bind (wpAny_pure ?_)
  refine wpAny_bind (wpAny_bind (wpAny_setEntries_of ho hd I.fits (wpAny_pure ?_)))
  unfold setDrawn
  refine wpAny_bind (wpAny_bind (wpAny_setState_of ho hd I.fits ?_))
  dsimp only
  refine wpAny_bind (wpAny_byText (wpAny_pure ?_))
  show wpAny _ _ (if (!byTx w && (!t.plain && decide (es.size > 1))) = true then _ else _) _ _ _
  have hpl : decide (es.size > 1) = true → t.plain = false := fun z => by
    cases hp : t.plain with
    | false => rfl
    | true =>
      have := I.pl hp
      have hz : es.size = ns.length := by have := I.pm.length_eq; simpa using this
      rw [this] at hz
      have z := of_decide_eq_true z
      rw [hz] at z; cases z
  cases hdr : (!byTx w && decide (es.size > 1)) with
  | false =>
    have hdr' : (!byTx w && (!t.plain && decide (es.size > 1))) = false := by
      cases hb : byTx w with
      | true => rfl
      | false => rw [hb] at hdr; have hdr : decide (es.size > 1) = false := by simpa using hdr
                 rw [hdr, Bool.and_false]; rfl
    rw [hdr', if_neg (by decide)]
    refine wpAny_bind (wpAny_pure ?_)
    refine wpAny_bind (wpAny_setEpoch_of ho hd I.fits ?_)
    refine wpAny_bind (wpAny_newObj_type ?_ (by size_fits))
    have hne : d ≠ s.heap.objs.size := Nat.ne_of_lt hlt
    refine wpAny_pure ⟨_, rfl, "set_iterator", _, ⟨_, Heap.get?_push_size _ rfl, rfl⟩, SW.slot_next.lookup, q _ _ s.drawn [s.heap.objs.size, d] (fun i h => SsAt w s.heap.objs.size d ns es ep t i h) (wlk w d ep es).toList (wlk_perm w d ep es) (fun b o e => Heap.get?_push_of_some _ e) (Nat.le_refl _) (fun b hb => ?_) (fun A' hA' => ?_) ⟨I.at fun o e => Heap.get?_push_of_some _ e, 0, Heap.get?_push_size _ rfl, fun _ => below_zero I.good.ris⟩⟩
    · simp at hb; rcases hb with rfl | rfl
      · exact .inr (Nat.le_refl _)
      · exact .inl rfl
    · exact {
        sub := fun b hb => by simp at hb; simp [hb]
        frame := fun _ _ _ st k => ⟨st.ok.at fun o e => k d (by simp) o e, let ⟨sl, e, r⟩ := st.it; ⟨sl, k s.heap.objs.size (by simp) _ e, r⟩⟩
        item := fun i s' Q' E' hi st q' => by
          have hz : (wlk w d ep es).size = es.size := by rw [← Array.length_toList, (wlk_perm w d ep es).length_eq, Array.length_toList]
          have hx : (wlk w d ep es)[i]? = some ((wlk w d ep es)[i]'(by omega)) := Array.getElem?_eq_getElem (by omega)
          exact ss_item hdr st hne hx hi fun h' st' sb => q' _ h' s'.toks ⟨_, by rw [Array.getElem?_toList]; exact hx, rfl⟩ st' fun b o hb e => sb.extBut b o (fun z => hb (by simp [z])) e
        done := fun s' Q' E' st q' => by
          have hz : (wlk w d ep es).size = es.size := by rw [← Array.length_toList, (wlk_perm w d ep es).length_eq, Array.length_toList]
          exact ss_end hdr hA' st (Array.getElem?_eq_none (by omega)) fun h' eb => q' h' s'.toks fun b o hb e => eb b o (fun z => hb (by simp [z])) e
        self := fun _ _ _ _ st q' => let ⟨_, e, _⟩ := st.it; si_selfS e rfl q' }
  | true =>
    obtain ⟨hb, hz1⟩ := Bool.and_eq_true_iff.mp hdr
    have hdr' : (!byTx w && (!t.plain && decide (es.size > 1))) = true := by rw [hb, hpl hz1, hz1]; rfl
    rw [hdr', if_pos rfl]
    refine wpAny_bind (wpAny_drawOrder es.size (List.range es.size) _ _ List.length_range fun ord d1 hp => ?_)
    have hol : ord.length = es.size := by rw [hp.length_eq, List.length_range]
    simp only [newTuple]
    refine wpAny_bind (wpAny_newObj_type ?_ (by show (List.map (fun (j : Nat) => rawInt j) ord).toArray.size ≤ sizeLine; rw [List.size_toArray, List.length_map, hol]; exact hsz))
    have I1 : StrG w (s.heap.push { cls := .type "tuple", data := .seq (ord.map fun (j : Nat) => rawInt j).toArray }) d (!byTx w) ns es ep t := I.at fun o e => Heap.get?_push_of_some _ e
    obtain ⟨o1, ho1, hex1, hd1⟩ := I1.get
    refine wpAny_bind (wpAny_setEpoch_of (s := { s with heap := s.heap.push { cls := .type "tuple", data := .seq (ord.map fun (j : Nat) => rawInt j).toArray }, drawn := d1 }) ho1 hd1 I1.fits ?_)
    refine wpAny_bind (wpAny_newObj_type ?_ (by size_fits))
    have hF : ∀ j, j < es.size → es[j]? = some ((es[j]?).getD (0, .none)) := fun j hj => by rw [Array.getElem?_eq_getElem hj]; rfl
    have hO : ∀ (i j : Nat), ord[i]? = some j → j < es.size := fun i j e => List.mem_range.mp (hp.mem_iff.mp (List.mem_of_getElem? e))
    have hne : d ≠ (s.heap.push { cls := .type "tuple", data := .seq (ord.map fun (j : Nat) => rawInt j).toArray }).objs.size := by rw [Heap.size_push]; exact Nat.ne_of_lt (Nat.lt_succ_of_lt hlt)
    have hnt : s.heap.objs.size ≠ (s.heap.push { cls := .type "tuple", data := .seq (ord.map fun (j : Nat) => rawInt j).toArray }).objs.size := by rw [Heap.size_push]; exact Nat.ne_of_lt (Nat.lt_succ_self _)
    refine wpAny_pure ⟨_, rfl, "set_iterator", _, ⟨_, Heap.get?_push_size _ rfl, rfl⟩, SW.slot_next.lookup, q _ _ d1 [(s.heap.push { cls := .type "tuple", data := .seq (ord.map fun (j : Nat) => rawInt j).toArray }).objs.size, s.heap.objs.size, d] (fun i h => SbAt w (s.heap.push { cls := .type "tuple", data := .seq (ord.map fun (j : Nat) => rawInt j).toArray }).objs.size s.heap.objs.size d ord ns es ep t i h) (ord.map fun j => (es[j]?).getD (0, .none)) ?_ (fun b o e => Heap.get?_push_of_some _ (Heap.get?_push_of_some _ e)) (by rw [Heap.size_push]; exact Nat.le_succ _) (fun b hb => ?_) (fun A' hA' => ?_) ⟨I1.at fun o e => Heap.get?_push_of_some _ e, ⟨_, 0, Heap.get?_push_of_some _ (Heap.get?_push_size _ rfl), rfl⟩, Heap.get?_push_size _ rfl⟩⟩
    · refine (hp.map _).trans ?_
      have : (List.range es.size).map (fun j => (es[j]?).getD (0, .none)) = es.toList := by
        apply List.ext_getElem?
        intro i
        have e2 : es.toList[i]? = es[i]? := by simp
        rw [List.getElem?_map, e2]
        by_cases c : i < es.size
        · rw [List.getElem?_range c, hF i c]; rfl
        · rw [List.getElem?_eq_none (by rw [List.length_range]; omega), Array.getElem?_eq_none (by omega)]; rfl
      rw [this]
    · simp at hb; rcases hb with rfl | rfl | rfl
      · exact .inr (Nat.le_succ _)
      · exact .inr (Nat.le_refl _)
      · exact .inl rfl
    · exact {
        sub := fun b hb => by simp at hb; simp [hb]
        frame := fun _ _ _ st k => ⟨st.ok.at fun o e => k d (by simp) o e, let ⟨o, n, e, r⟩ := st.tup; ⟨o, n, k s.heap.objs.size (by simp) _ e, r⟩, k _ (by simp) _ st.it⟩
        item := fun i s' Q' E' hi st q' => by
          obtain ⟨j, hj⟩ : ∃ j, ord[i]? = some j := ⟨_, List.getElem?_eq_getElem (by omega)⟩
          exact sb_item st hne hnt hj (hF j (hO i j hj)) fun h' st' sb => q' _ h' s'.toks ⟨_, by rw [List.getElem?_map, hj]; rfl, rfl⟩ st' fun b o hb e => sb.extBut b o (fun z => hb (by simp [z])) e
        done := fun s' Q' E' st q' => sb_end hA' st (List.getElem?_eq_none (by omega)) fun h' eb => q' h' s'.toks fun b o hb e => eb b o (fun z => hb (by simp [z])) e
        self := fun _ _ _ _ st q' => si_selfS st.it rfl q' }
theorem si_hintS {Q : Bool → Shared → Prop} {r : Addr} (hT : s.TypeIs (.ref r) "set") (h : Q false s) : wpAny (model prog w) A (Builtin.List.listLengthHint (.ref r)) Q E s := by
  unfold Builtin.List.listLengthHint
  refine wpAny_bind (wpAny_specialOf hT F.slot_set_len.lookup ?_)
  generalize hid : ("set.__len__" : String) = id0
  wp_delta
  rw [show splitId id0 = some ("set", "__len__") from by subst hid; decide +kernel]
  subst hid
  refine wpAny_bind (wpAny_isInstance (T := "set") (b := true) hT (by rw [isSubtype_type]; kernel_rfl) ?_)
  refine wpAny_ite_split (fun hab => absurd hab (by decide)) (fun _ => ?_)
  refine wpAny_ite_split (fun _ => ?_) (fun hab => absurd (by decide +kernel) hab)
  refine wpAny_bind (wpAny_typeOf hT ?_)
  exact wpAny_pure h
theorem set_extend {R : Result → Shared → Prop} (hh : A.handled = none) (I : StrG w s.heap d (!byTx w) ns es ep t) (hsz : es.size ≤ sizeLine) (S : Addr) (hSd : S ≠ d) (res : Value) (c₀ : Nat) (hS : s.heap.get? S = some { cls := .type "list", data := .seq #[] c₀ })
    (hR : ∀ h' tk d1 acc' c' (ws : List (Int × Value)), ws.Perm es.toList → (∀ b o, b ≠ S → s.heap.get? b = some o → h'.get? b = some o) → h'.get? S = some { cls := .type "list", dict := none, data := .seq acc' c', slots := #[] } → ItemsOf (fun i v => ∃ e, ws[i]? = some e ∧ v = e.2) acc' es.size → R (.ok (.ret res)) { s with heap := h', drawn := d1, toks := tk }) :
    wpAny (model prog w) A.in1 (Builtin.List.listExtendWith (.ref S) (.ref d) res)
      (fun fin s' => match fin with | .done f => R (.ok f) s' | .again c' => c'.quiet = true ∧ codeAny (model prog w) A c' R s') (fun e s' => R (.error e) s') s := by
  obtain ⟨o, ho, hex, hd⟩ := I.get
  have ty : s.TypeIs (.ref d) "set" := ⟨_, ho, hex.1⟩
  have hSlt := Heap.lt_size hS
  unfold Builtin.List.listExtendWith
  refine wpAny_bind (wpAny_typeOf (T := "set") ty ?_)
  have h1 : Builtin.List.listSameRef (.ref S) (.ref d) = false := by simp [Builtin.List.listSameRef, hSd]
  have n1 : (Value.type "set" == Value.type "list") = false := by decide
  have n2 : (Value.type "set" == Value.type "tuple") = false := by decide
  simp only [h1, n1, n2, Bool.or_false, Bool.false_eq_true, if_false]
  refine wpAny_bind (set_iter (A := A.in1) I hsz fun I0 k1 d1 fp St ws hp kk hI hfp W st => ?_)
  have hSf : S ∉ fp := fun z => (hfp S z).elim hSd fun y => absurd hSlt (Nat.not_lt.mpr y)
  have key : ∀ (h : Heap) (c₁ tk : Nat), St 0 h → (∀ b o, b ≠ S → s.heap.get? b = some o → h.get? b = some o) →
      h.get? S = some { cls := .type "list", data := .seq #[] c₁ } → codeAny (model prog w) A (.builtin "list.extend.loop" ⟨[.ref S, .ref I0, res], []⟩) R { s with heap := h, drawn := d1, toks := tk } := by
    intro h c₁ tk hst hk hS₁
    refine codeAny_extend_loopS (W A.in1 hh).toS hsz S hSf res es.size 0 _ #[] c₁ rfl (Nat.zero_le _) hst hS₁ (ItemsOf.nil _) fun s' acc' c' hm hS' hacc => ?_
    rw [Moved.eq_with hm]
    refine hR s'.heap s'.toks d1 acc' c' ws hp (fun b o hb e => hm.heap b o (fun hmem => ?_) (hk b o hb e)) hS' hacc
    rcases List.mem_cons.mp hmem with e' | hmem
    · exact hb e'
    · have := List.mem_singleton.mp hmem
      exact absurd (Heap.lt_size e) (by rw [this]; exact Nat.not_lt.mpr hI)
  have hS₁ := kk S _ hS
  have ty1 : Shared.TypeIs { s with heap := k1, drawn := d1 } (.ref d) "set" := ⟨_, kk d _ ho, hex.1⟩
  refine wpAny_bind (wpAny_holding (si_hintS ty1 ?_))
  refine wpAny_ite_split (fun _ => ?_) (fun _ => wpAny_pure ⟨plainId_quiet PySem.F.plain_extend_loop _, key _ c₀ _ st (fun b o _ e => kk b o e) hS₁⟩)
  refine wpAny_bind (wpAny_rule ?_)
  refine wpAny_bind ?_
  show wpAny _ _ (updateSeq S (·.push .none) >>= fun _ => updateSeq S (·.pop)) _ _ _
  refine wpAny_bind (wpAny_updateSeq hS₁ rfl ?_)
  have hS₂ := Heap.get?_update_self (Obj.mapSeq (·.push Value.none)) hS₁ rfl
  refine wpAny_updateSeq (hz := by seq_fits) hS₂ rfl ?_
  have hS₃ := Heap.get?_update_self (Obj.mapSeq (·.pop)) hS₂ rfl
  refine wpAny_pure ⟨plainId_quiet PySem.F.plain_extend_loop _, key _ _ _ ?_ (fun b o hb e => ?_) hS₃⟩
  · refine (W A.in1 hh).frame 0 _ _ st fun b hb o e => ?_
    have hbS : b ≠ S := fun h => hSf (h ▸ hb)
    exact (Heap.get?_update_other _ _ (Ne.symm hbS)).trans ((Heap.get?_update_other _ _ (Ne.symm hbS)).trans e)
  · exact (Heap.get?_update_other _ _ (Ne.symm hb)).trans ((Heap.get?_update_other _ _ (Ne.symm hb)).trans (kk b o e))
end
end PySem

/-! set(texts), sorted(set), sorted(dict of texts): lists of texts whose tokens nobody told. -/
namespace L3
open PySem PySem.Spec PyProof.Rows L2 PySem.W
def isL (a : Addr) (ss : List Str) : Heap → Prop := fun h => ∃ us c, h.get? a = some (seqObj "list" us.toArray c) ∧ StrsAre us ss ∧ us.length ≤ sizeLine
noncomputable abbrev StL' (a : Addr) (ss : List Str) : HO := .ext (isL a ss)
theorem isL_ok {P : Program} {w : World} {H : Hp} {h : Heap} {a : Addr} {ss : List Str} (x : isL a ss h) : ObjOk P w H h a (StL' a ss) :=
  ⟨x, let ⟨_, _, e, _⟩ := x; ⟨_, e⟩, fun _ _ x1 k => let ⟨us, c, e, r⟩ := x1; ⟨us, c, k _ e, r⟩⟩
noncomputable def onceS (xs : List Str) : List Str := xs.foldl (fun ns x => if x ∈ ns then ns else ns ++ [x]) []
theorem onceS_take {xs : List Str} {i : Nat} {x : Str} (h : xs[i]? = some x) : onceS (xs.take (i + 1)) = if x ∈ onceS (xs.take i) then onceS (xs.take i) else onceS (xs.take i) ++ [x] := by
  obtain ⟨hi, e⟩ := List.getElem?_eq_some_iff.mp h
  rw [List.take_succ_eq_append_getElem hi, e]
  unfold onceS
  rw [List.foldl_append]; rfl
theorem onceS_len (xs : List Str) : (onceS xs).length ≤ xs.length := by
  have go : ∀ (xs acc : List Str), (xs.foldl (fun ns x => if x ∈ ns then ns else ns ++ [x]) acc).length ≤ acc.length + xs.length := by
    intro xs
    induction xs with
    | nil => intro acc; simp
    | cons x xs ih =>
      intro acc
      rw [List.foldl_cons]
      refine Nat.le_trans (ih _) ?_
      split <;> simp <;> omega
  have := go xs []
  unfold onceS
  simpa using this
def isSS (w : World) (a : Addr) (ns : List Str) : Heap → Prop := fun h => ∃ es ep t, StrG w h a (!byTx w) ns es ep t
noncomputable abbrev SetSS (w : World) (a : Addr) (ns : List Str) : HO := .ext (isSS w a ns)
theorem isSS_ok {P : Program} {w w' : World} {H : Hp} {h : Heap} {a : Addr} {ns : List Str} (x : isSS w' a ns h) : ObjOk P w H h a (SetSS w' a ns) := by
  refine ⟨x, let ⟨_, _, _, I⟩ := x; let ⟨o, e, _⟩ := I.get; ⟨o, e⟩, fun h1 h2 x1 k => ?_⟩
  obtain ⟨es, ep, t, I⟩ := x1
  exact ⟨es, ep, t, I.at fun o e => k o e⟩
section
variable {prog : Program} {w : World} {A : Around} {E : Value → Shared → Prop} {s : Shared} {d : Addr} {ns : List Str} {es : Array (Int × Value)} {ep : Nat} {t : SetTable}
theorem ss_collect {R : List Value → Shared → Prop} (hh : A.handled = none) (r : StrG w s.heap d (!byTx w) ns es ep t) (z : es.size ≤ sizeLine)
    (q : ∀ (h' : Heap) (tk : Nat) (d1 : Drawn) (acc : Array Value) (ws : List (Int × Value)), ws.Perm es.toList → s.heap.objs.size < h'.objs.size → (∀ b o, s.heap.get? b = some o → h'.get? b = some o) → ItemsOf (fun i v => ∃ e, ws[i]? = some e ∧ v = e.2) acc es.size → R acc.toList { s with heap := h', drawn := d1, toks := tk }) :
    wpAny (model prog w) A (collect (.ref d)) R E s := by
  have lt : d < s.heap.objs.size := let ⟨_, e, _⟩ := r.get; Heap.lt_size e
  unfold collect
  refine wpAny_bind (wpAny_runValue (codeAny_builtin entry_proto_collect' ?_))
  rw [Around.under_plainId PySem.F.plain_proto_collect]
  show wpAny _ A.in1 (newList ([] : List Value) >>= fun l => again (.builtin "list.__iadd__" ⟨[l, .ref d], []⟩)) _ _ _
  refine wpAny_bind (wpAny_newObj_type (wpAny_pure ⟨plainId_quiet PySem.F.plain_list_iadd _, codeAny_builtin entry_list_iadd' ?_⟩))
  rw [Around.under_plainId PySem.F.plain_list_iadd]
  have l0 : (s.heap.push { cls := .type "list", data := .seq ([] : List Value).toArray }).get? s.heap.objs.size = some { cls := .type "list", data := .seq #[] } := Heap.get?_push_size _ rfl
  show wpAny _ A.in1 (Builtin.List.listExtendWith (.ref s.heap.objs.size) (.ref d) (.ref s.heap.objs.size)) _ _ _
  have go := set_extend (prog := prog) (w := w) (A := A) (s := { s with heap := s.heap.push { cls := .type "list", data := .seq ([] : List Value).toArray } })
    (R := fun (x : Result) (s2 : Shared) => ∃ (h2 : Heap) (tk : Nat) (d1 : Drawn) (ac : Array Value) (c2 : Nat) (ws : List (Int × Value)), x = .ok (.ret (.ref s.heap.objs.size)) ∧ s2 = { s with heap := h2, drawn := d1, toks := tk } ∧ ws.Perm es.toList ∧ (∀ b o, s.heap.get? b = some o → h2.get? b = some o) ∧
      h2.get? s.heap.objs.size = some { cls := .type "list", dict := none, data := .seq ac c2, slots := #[] } ∧ ItemsOf (fun i v => ∃ e, ws[i]? = some e ∧ v = e.2) ac es.size)
    hh (r.at fun o e => Heap.get?_push_of_some _ e) z s.heap.objs.size (Nat.ne_of_gt lt) (.ref s.heap.objs.size) 0 l0
    (fun h2 tk d1 ac c2 ws hp k e i => ⟨h2, tk, d1, ac, c2, ws, rfl, rfl, hp, fun b o x => k b o (Nat.ne_of_lt (Heap.lt_size x)) (Heap.get?_push_of_some _ x), e, i⟩)
  refine wpAny_mono go (fun fn s2 x => ?_) fun e s2 x => ?_
  · cases fn with
    | done f =>
      obtain ⟨h2, tk, d1, ac, c2, ws, e, rfl, hp, k, y, i⟩ := x
      cases e
      show wpAny _ A (load s.heap.objs.size >>= fun _ => _) _ _ _
      exact wpAny_bind (wpAny_load y (wpAny_pure (q h2 tk d1 ac ws hp (Heap.lt_size y) k i)))
    | again c1 =>
      refine ⟨x.1, codeAny_mono x.2 fun r2 s3 y => ?_⟩
      obtain ⟨h2, tk, d1, ac, c2, ws, rfl, rfl, hp, k, y, i⟩ := y
      show wpAny _ A (load s.heap.objs.size >>= fun _ => _) _ _ _
      exact wpAny_bind (wpAny_load y (wpAny_pure (q h2 tk d1 ac ws hp (Heap.lt_size y) k i)))
  · obtain ⟨_, _, _, _, _, _, x, _⟩ := x
    cases x
theorem strs_len : ∀ {vs : List Value} {ss : List Str}, StrsAre vs ss → vs.length = ss.length
  | _, _, .nil => rfl
  | _, _, .cons _ _ r => congrArg (· + 1) (strs_len r)
theorem strs_at : ∀ {vs : List Value} {ss : List Str}, vs.length = ss.length → (∀ (i : Nat) v x, vs[i]? = some v → ss[i]? = some x → ∃ t, v = .str x t) → StrsAre vs ss
  | [], [], _, _ => .nil
  | [], _ :: _, h, _ => nomatch h
  | _ :: _, [], h, _ => nomatch h
  | v :: vs, x :: ss, h, f => by
    obtain ⟨t, rfl⟩ := f 0 v x rfl rfl
    exact .cons x t (strs_at (Nat.succ.inj h) fun i v' x' e1 e2 => f (i + 1) v' x' e1 e2)
theorem ss_sorted {Q : Value → Shared → Prop} (hh : A.handled = none) (r : StrG w s.heap d (!byTx w) ns es ep t) (z : es.size ≤ sizeLine)
    (q : ∀ (D : Addr) (h' : Heap) (tk : Nat) (d1 : Drawn) (out : List Value) (ss' : List Str) (c : Nat), s.heap.objs.size ≤ D → (∀ b o, s.heap.get? b = some o → h'.get? b = some o) → h'.get? D = some (seqObj "list" out.toArray c) → StrsAre out ss' → ss'.Perm ns → ss'.Pairwise leT → Q (.ref D) { s with heap := h', drawn := d1, toks := tk }) :
    wpAny (model prog w) A (call (.builtin "sorted") [.ref d]) Q E s := by
  refine Calls.call_function_entry kind_sorted plain_sorted entry_sorted (args_sorted1 _) ?_
  unfold Builtin.«sorted»
  refine wpAny_bind (m := checkCount "sorted" 1 1 _) (wpAny_pure ?_)
  refine wpAny_bind (ss_collect (A := A.in1) hh r z fun h' tk d1 acc ws hp hsz hk hacc => ?_)
  have hl : acc.toList.length = es.size := by rw [Array.length_toList]; exact hacc.1
  have hwl : ws.length = es.size := by rw [hp.length_eq, Array.length_toList]
  have hS : StrsAre acc.toList (ws.map sv) := strs_at (by rw [hl, List.length_map, hwl]) fun i v x e1 e2 => by
    obtain ⟨e, he, rfl⟩ := hacc.2 i v (by rw [← Array.getElem?_toList]; exact e1)
    rw [List.getElem?_map, he] at e2
    cases e2
    obtain ⟨y, u, _, rfl⟩ := r.el e (hp.mem_iff.mp (List.mem_of_getElem? he))
    exact ⟨u, rfl⟩
  refine wpAny_bind (wpAny_newList ?_ (by rw [hl]; exact z))
  have hoL : (h'.push (seqObj "list" acc.toList.toArray 0)).get? h'.objs.size = some (seqObj "list" acc.toList.toArray 0) := Heap.get?_push_size _ rfl
  refine wpAny_bind (wpAny_holding (wpAny_call_entry slot_list_sort ⟨_, hoL, rfl⟩ entry_list_sort (sort_any strKind_oneLt hoL hS.keysOf (fun v₁ v₂ rest e => keyKind_strs (by rw [← e]; exact hS)) (by rw [hl]; exact z) fun st' a1 a2 => ⟨_, rfl, ?_⟩) (args_list_sort _)))
  obtain ⟨ss', b1, b2, b3⟩ := sort_out hS a1 a2
  obtain ⟨c, hc⟩ := sortedHeap_at (out := (arrOf st').map (·.2)) hoL
  refine wpAny_pure ⟨_, rfl, q h'.objs.size _ tk d1 ((arrOf st').map (·.2)).toList ss' c (Nat.le_of_lt hsz) (fun b o e => ?_) (by rw [Array.toArray_toList]; exact hc) b1 (b2.trans ((hp.map sv).trans r.pm)) b3⟩
  have e' := hk b o e
  have hlt := Heap.lt_size e'
  rw [sortedHeap_old (Nat.ne_of_lt hlt) (by rw [size_push']; exact Nat.lt_succ_of_lt hlt)]
  exact Heap.get?_push_of_some _ e'
end
section
variable {X : Cx}
def rSetSS (X : Cx) : List V → Hp → VK → Prop := fun xs H Q => ∃ (p : Addr) (ns : List Str), xs = [.ref p] ∧ SqL X.K H p (ns.map V.str) ∧ ns.length ≤ 30999 ∧ ∀ q, H q = none → Q (.ref q) (upd H q (SetSS X.w q (onceS ns)))
theorem call_setSS (hc : X.calm = true) : CallR X (.type "set") (rSetSS X) := by
  intro pins s σ H xs us Q I r h
  obtain ⟨p, ns, rfl, hq, hz, q⟩ := h
  obtain ⟨u, rfl, rx⟩ := vals1 r
  cases rx
  obtain ⟨its, rv, pl, _⟩ := I.list hq
  have hlen : ns.length = its.length := by have := rv.length; simpa using this
  have hlt : p < s.heap.objs.size := by obtain ⟨_, _, e, _⟩ := pl; exact Heap.lt_size e
  refine wpTk I.tk (call_set_led fun E' => ?_)
  have n0 := strG_new (w := X.w) (h := s.heap) (!byTx X.w)
  refine updateFrom_list (s := { s with heap := s.heap.push (newSetO (!byTx X.w)) }) (items := its.toArray) (by simp [I.ok.hd hc]) (pl.isList.push _) (Nat.ne_of_gt hlt) (by rw [Heap.size_push]; exact Nat.lt_succ_self _)
    (fun i h => ∃ es ep t, StrG X.w h s.heap.objs.size (!byTx X.w) (onceS (ns.take i)) es ep t) ⟨_, _, _, n0⟩ ?_ ?_ ?_ ?_
  · rintro i h h' _ ⟨es, ep, t, x⟩ k
    refine ⟨es, ep, t, x.at fun o e => k _ o ?_ e⟩
    show s.heap.objs.size ≠ (s.heap.push (newSetO (!byTx X.w))).objs.size
    rw [Heap.size_push]; exact Nat.ne_of_lt (Nat.lt_succ_self _)
  · intro h' k
    exact ⟨_, _, _, n0.at fun o e => k _ o e⟩
  · rintro i v s' Q' E'' hv ⟨es, ep, t, x⟩ hq'
    have hv' : its[i]? = some v := by simpa using hv
    have hi : i < ns.length := by rw [hlen]; exact (List.getElem?_eq_some_iff.mp hv').1
    obtain ⟨n, hn⟩ : ∃ n, ns[i]? = some n := ⟨_, List.getElem?_eq_getElem hi⟩
    obtain ⟨v2, hv2, rv2⟩ := rv.get (show (ns.map V.str)[i]? = some (.str n) by rw [List.getElem?_map, hn]; rfl)
    rw [hv'] at hv2
    cases hv2
    obtain ⟨tk, rfl⟩ := rv2
    unfold setAdd
    refine wpAny_holding (wpAny_bind ((PySem.strKind X.prog X.w).pyHash (k := n) (by show Value.isStrOf n (.str n tk.1) = true; simp [Value.isStrOf]) ?_))
    have hl1 : (onceS (ns.take i)).length < 31000 := by have := onceS_len (ns.take i); rw [List.length_take] at this; omega
    refine wpAny_setAdd_str tk.2 (s := { s' with toks := s'.toks + 1 }) x hl1 fun b h' es' ep' t' hsb x' => ?_
    refine hq' h' _ _ hsb ⟨es', ep', t', ?_⟩
    rw [onceS_take hn]; exact x'
  · rintro h' tk ⟨es, ep, t, x⟩ hk
    have hsz : its.toArray.size = ns.length := by rw [List.size_toArray, hlen]
    rw [hsz, List.take_length] at x
    refine (fun h0 => ⟨.ref s.heap.objs.size, _, I.laid (t' := tk) (fun b o e => ?_) (Nat.le_refl _) (isSS_ok (w' := X.w) ⟨es, ep, t, x⟩), rfl, q _ (I.hok.fresh (Nat.le_refl _))⟩)
    have hb := Heap.lt_size e
    refine hk b o ?_ (Nat.ne_of_lt hb) (Heap.get?_push_of_some _ e)
    show b < (s.heap.push (newSetO (!byTx X.w))).objs.size
    rw [Heap.size_push]; exact Nat.lt_succ_of_lt hb
theorem Inv.drawn {pins : List (Addr × Obj)} {σ : L2.St} {H : Hp} {s : Shared} (I : Inv X pins σ H s) (d1 : Drawn) : Inv X pins σ H { s with drawn := d1 } := ⟨I.ok, I.os, I.bare, I.base, I.loc, I.cell, I.free, I.freeC, I.pin, I.hok, I.len, I.tk⟩
def rSortSS (X : Cx) : List V → Hp → VK → Prop := fun xs H Q => ∃ (a : Addr) (ns : List Str), xs = [.ref a] ∧ H a = some (SetSS X.w a ns) ∧ ns.length ≤ 30999 ∧ ∀ (l : Addr) (ns' : List Str), ns'.Perm ns → ns'.Pairwise leT → H l = none → Q (.ref l) (upd H l (StL' l ns'))
theorem call_sorted_ss (hc : X.calm = true) : CallR X (.builtin "sorted") (rSortSS X) := by
  intro pins s σ H xs us Q I r h
  obtain ⟨a, ns, rfl, e, z, q⟩ := h
  obtain ⟨u, rfl, ru⟩ := vals1 r
  cases ru
  obtain ⟨⟨es, ep, t, x⟩, _⟩ := (show ObjOk X.prog X.w H s.heap a (SetSS X.w a ns) from I.hok a _ e)
  have hsz : es.size = ns.length := by have := x.pm.length_eq; simpa using this
  have h31 : 30999 ≤ sizeLine := by rw [sizeLine_eq]; omega
  refine wpTk I.tk (ss_sorted (I.ok.hd hc) x (by omega) fun D h' tk d1 out ss' c hD kp e' so hp hss h0 => ?_)
  have hn : H D = none := I.hok.fresh hD
  have hol : out.length ≤ sizeLine := by
    rw [strs_len so, hp.length_eq]; omega
  exact ⟨.ref D, _, (Inv.drawn I d1).laid (t' := tk) (o := StL' D ss') kp hD (isL_ok ⟨out, c, e', so, hol⟩), rfl, q D ss' hp hss hn⟩
end
end L3

/-! Own additions to the hand layer: slices of texts, unpacking a list, isinstance, calls by a bundle. -/
namespace L3
open PySem PySem.Spec PyProof.Rows L2
theorem bt_len : bootBuiltins "len" = some (.builtin "len") := by decide +kernel
theorem bt_min : bootBuiltins "min" = some (.builtin "min") := by decide +kernel
theorem bt_max : bootBuiltins "max" = some (.builtin "max") := by decide +kernel
theorem bt_isinstance : bootBuiltins "isinstance" = some (.builtin "isinstance") := by decide +kernel
theorem bt_int : bootBuiltins "int" = some (.type "int") := by decide +kernel
theorem bt_list : bootBuiltins "list" = some (.type "list") := by decide +kernel
/-! ### texts as lists of codes -/
noncomputable abbrev cl (z : Str) : List Nat := z.cps.toList
theorem cl_append (a b : Str) : cl (a ++ b) = cl a ++ cl b := by
  show (a.cps ++ b.cps).toList = _
  simp_all
theorem cl_length (a : Str) : (cl a).length = a.length := by
  show a.cps.toList.length = a.cps.size
  simp_all
section
variable {X : Cx}
def rSlS : V → Option Int → Option Int → Hp → VK → Prop := fun x lo hi H Q => ∃ z, x = .str z ∧ z.length ≤ sizeLine ∧ Q (.str (Txt.slice z lo hi)) H
theorem part_of {v : Value} {o : Option Int} (p : IsPart v o) : ∃ l : Option (Int × Tok), v = partValue l ∧ l.map (·.1) = o := by
  cases p with
  | none => exact ⟨none, rfl, rfl⟩
  | int i t => exact ⟨some (i, t), rfl, rfl⟩
theorem sl_str : SlR X rSlS := by
  intro pins s σ H x v vl vu lo hi sl Q I rx hs pl pu h
  obtain ⟨z, rfl, hz, q⟩ := h
  obtain ⟨t, rfl⟩ := rx
  obtain ⟨l, rfl, rfl⟩ := part_of pl
  obtain ⟨u, rfl, rfl⟩ := part_of pu
  refine ⟨"str", _, PySem.F.slot_str_getitem.lookup, typeIs_str _ _ _, ?_⟩
  refine wpAny_getItem_str_slice (st := none) hs rfl ?_
  refine post_vs t.2 I.tk ⟨Nat.le_trans (Txt.slice_le z _ _) hz, fun t' k ht hk => ?_⟩
  exact ⟨.str (Txt.slice z _ (u.map _)), H, I.tok _, ⟨⟨t', ht⟩, rfl⟩, q⟩

theorem pe_ty {x : Str} {T : String} {pos : Pos} (hg : Gl X x) (hm : X.mg x = none) (hv : bootBuiltins x = some (.type T)) (hn : x ≠ "__name__" := by decide) (hdb : (x == ("__debug__" : Str)) = false := by decide) :
    PE X (.Name x pos) (tC (.ty T)) := pe_bltn hg hm hv rfl hn hdb
/-! ### an own def as a caller sees it -/
def Cal (P : Program) (w : World) (K : PySem.W.Frag) (mg : Str → Option Value) (base : Heap) (x : Str) (ps : List Str) (k : Nat) (sp : Sp) : Prop :=
  ∃ f fd, FnOk P w K mg base CX0 k f fd ps sp ∧ Binds K fd ps [] ∧ PySem.W.keepIn K (.ref f) = true ∧ mg x = some (.ref f)
def tFn (sp : Sp) (t : TA) : TE := fun σ H Q => t σ H fun vs H1 => sp vs H1 Q E0
theorem pe_fn {x : Str} {ps : List Str} {k k' : Nat} {sp : Sp} {p pos : Pos} {e : Expr} {es : List Expr} {t : TA} (C : Cal X.prog X.w X.K X.mg X.base x ps k sp) (hr : Room k' X.A) (hk : k ≤ k') (hg : Gl X x)
    (ha : PA X (e :: es) t) (hdb : (x == ("__debug__" : Str)) = false := by decide) (he : starEach (e :: es) X.env = (false, eval e X.env) :: starEach es X.env := by rfl) (hpl : (backTo pos (starEach es X.env)).any (·.1) = false := by rfl) :
    PE X (.Call (.Name x p) (e :: es) [] pos) (tFn sp t) := by
  obtain ⟨f, fd, F, b, kp, hm⟩ := C
  intro pins s σ H Q I h
  refine wpAny_Call_Name_kw (ld_glob I hg hm ?_ hdb)
  refine PySem.W.callWith_K I.ok.mod.kin kp (thn (ha pos pins s σ H _ I h) fun us s1 ⟨vs, H1, I1, r, q⟩ => ⟨I1.kIn, ?_⟩) he hpl
  exact run_fn F (hr.mono hk) b .nil pass0 I1 r (by simp_all)
end
/-! ### a cut: what holds behind a statement, a value that is forgotten but for a word -/
section
variable {X : Cx}
def tMid (t u : TS) : TS := fun D σ H => ∃ M : L2.St → Hp → Prop, t { D with nx := M } σ H ∧ ∀ σ' H', M σ' H' → u D σ' H'
theorem pss_mid {st : Stmt} {rest : List Stmt} {t u : TS} (h1 : PS X st t) (h2 : PSs X rest u) : PSs X (st :: rest) (tMid t u) := by
  intro pins s σ H D I h
  obtain ⟨M, ht, hu⟩ := h
  refine wpAny_execs_cons (thn (h1 pins s σ H _ I ht) fun f s1 q => ?_)
  cases f with
  | next =>
    obtain ⟨σ', H', I', q⟩ := q
    exact h2 pins s1 σ' H' D I' (hu σ' H' q)
  | ret v => exact q
  | brk => exact q
  | cont => exact q
def tAbs (t : TE) : TE := fun σ H Q => ∃ P : V → Hp → Prop, t σ H P ∧ ∀ v H', P v H' → Q v H'
theorem pe_abs {e : Expr} {t : TE} (h : PE X e t) : PE X e (tAbs t) := by
  intro pins s σ H Q I hw
  obtain ⟨P, ht, hq⟩ := hw
  exact thn (h pins s σ H P I ht) fun u s1 ⟨v, H1, I1, r1, q1⟩ => ⟨v, H1, I1, r1, hq v H1 q1⟩
def tAbsT (t : TT) : TT := fun σ H Q => ∃ P : Bool → Hp → Prop, t σ H P ∧ ∀ v H', P v H' → Q v H'
theorem pt_abs {e : Expr} {t : TT} (h : PT X e t) : PT X e (tAbsT t) := by
  intro pins s σ H Q I hw
  obtain ⟨P, ht, hq⟩ := hw
  exact thn (h pins s σ H P I ht) fun u s1 ⟨H1, I1, q1⟩ => ⟨H1, I1, hq u H1 q1⟩
def rPick (K : PySem.W.Frag) : R2 := fun x y H Q => ∃ p xs i, x = .ref p ∧ y = .int i ∧ SqL K H p xs ∧ 0 ≤ i ∧ i < xs.length ∧ ∃ W : V → Prop, (∀ v ∈ xs, W v) ∧ ∀ v, W v → Q v H
theorem ix_pick : IxR X (rPick X.K) := by
  intro value slice pins s σ H x y v u Q I rx ry h hs
  obtain ⟨p, xs, i, rfl, rfl, hq, h0, h1, W, hW, q⟩ := h
  obtain ⟨n, rfl⟩ := Int.eq_ofNat_of_zero_le h0
  have hn : n < xs.length := by omega
  exact ix_list value slice pins s σ H _ _ v u Q I rx ry ⟨p, xs, _, xs[n], rfl, rfl, hq, atI_nat (by simp_all), q _ (hW _ (List.getElem_mem hn))⟩ hs
end
theorem pz {j : Int} (h : decide (0 < j) = true := by decide) : 0 < j := of_decide_eq_true h
theorem iteD {c A B : Prop} [Decidable c] (hc : ¬ c) (h : B) : if decide c = true then A else B := by
  simp_all
theorem iteDT {c A B : Prop} [Decidable c] (hc : c) (h : A) : if decide c = true then A else B := by
  simp_all
theorem iteDd {c A B : Prop} [Decidable c] (h1 : c → A) (h2 : ¬ c → B) : if decide c = true then A else B := by simp_all
theorem same_new {H : Hp} {p : Addr} (h : H p = none) (o : HO) : Same H (upd H p o) := fun b u q => by rw [upd_ne (ne_of_none q h)]; exact q
theorem at_mem {α : Type} {xs : List α} {i : Int} (h0 : 0 ≤ i) (h1 : i < xs.length) : ∃ v, atI xs i = some v ∧ v ∈ xs := by
  obtain ⟨n, rfl⟩ := Int.eq_ofNat_of_zero_le h0
  have hn : n < xs.length := by omega
  exact ⟨xs[n], atI_nat (by simp_all), List.getElem_mem hn⟩
theorem at_some {α : Type} {xs : List α} {i : Int} (h0 : 0 ≤ i) (h1 : i < xs.length) : ∃ v, atI xs i = some v ∧ xs[i.toNat]? = some v := by
  obtain ⟨n, rfl⟩ := Int.eq_ofNat_of_zero_le h0
  have hn  := by omega
  exact ⟨xs[n], atI_nat (by simp_all), by simp [hn]⟩
theorem szl {n : Nat} (h : n ≤ 100000) : n ≤ sizeLine := Nat.le_trans h (by decide)
end L3

/-! Deep data: what a value stands for (numbers, texts, tuples and lists within one another), and == and in over it. -/
namespace L3
open PySem PySem.Spec PyProof.Rows L2 PySem.SeqAt

inductive D where
  | non | bl (b : Bool) | int (i : Int) | str (x : Str) | tup (xs : List D) | lst (xs : List D)

mutual
def Rep (K : PySem.W.Frag) (H : Hp) : D → V → Prop
  | .non, v => v = .non
  | .bl b, v => v = .bl b
  | .int i, v => v = .int i
  | .str x, v => v = .str x
  | .tup ds, v => ∃ a xs, v = .ref a ∧ SqT K H a xs ∧ Reps K H ds xs
  | .lst ds, v => ∃ a xs, v = .ref a ∧ SqL K H a xs ∧ Reps K H ds xs
def Reps (K : PySem.W.Frag) (H : Hp) : List D → List V → Prop
  | [], vs => vs = []
  | d :: ds, vs => ∃ v r, vs = v :: r ∧ Rep K H d v ∧ Reps K H ds r
end
theorem Same.seqT {K : PySem.W.Frag} {H H' : Hp} {a : Addr} {xs : List V} (e : Same H H') (h : SqT K H a xs) : SqT K H' a xs := by
  rcases h with (h | ⟨o, h⟩) | h
  · exact .inl (.inl (e _ _ h))
  · exact .inl (.inr ⟨o, e _ _ h⟩)
  · exact .inr h
mutual
theorem Rep.mono {K : PySem.W.Frag} {H H' : Hp} (g : Same H H') : ∀ (d : D) (v : V), Rep K H d v → Rep K H' d v
  | .non, _, h => by assumption
  | .bl _, _, h => by assumption
  | .int _, _, h => by assumption
  | .str _, _, h => by assumption
  | .tup ds, _, h => by
    obtain ⟨a, xs, e, q, r⟩ := h
    exact ⟨a, xs, e, Same.seqT g q, Reps.mono g ds xs r⟩
  | .lst ds, _, h => by
    obtain ⟨a, xs, e, q, r⟩ := h
    exact ⟨a, xs, e, g.seq q, Reps.mono g ds xs r⟩
theorem Reps.mono {K : PySem.W.Frag} {H H' : Hp} (g : Same H H') : ∀ (ds : List D) (vs : List V), Reps K H ds vs → Reps K H' ds vs
  | [], _, h => by assumption
  | d :: ds, _, h => by
    obtain ⟨v, r, e, q, t⟩ := h
    exact ⟨v, r, e, Rep.mono g d v q, Reps.mono g ds r t⟩
end
theorem Reps.nil {K : PySem.W.Frag} {H : Hp} : Reps K H [] [] := by rfl
theorem Reps.cons {K : PySem.W.Frag} {H : Hp} {d : D} {v : V} {ds : List D} {vs : List V} (h : Rep K H d v) (t : Reps K H ds vs) : Reps K H (d :: ds) (v :: vs) := by
  unfold Reps; exact ⟨v, vs, rfl, h, t⟩
theorem Reps.inv {K : PySem.W.Frag} {H : Hp} {d : D} {ds : List D} {vs : List V} (h : Reps K H (d :: ds) vs) : ∃ v r, vs = v :: r ∧ Rep K H d v ∧ Reps K H ds r := by
  assumption
theorem Reps.inv0 {K : PySem.W.Frag} {H : Hp} {vs : List V} (h : Reps K H [] vs) : vs = [] := by
  assumption
theorem Reps.length {K : PySem.W.Frag} {H : Hp} : ∀ {ds : List D} {vs : List V}, Reps K H ds vs → ds.length = vs.length
  | [], _, h => by rw [h.inv0]; rfl
  | d :: ds, _, h => by
    obtain ⟨v, r, rfl, _, t⟩ := h.inv
    rw [List.length_cons, List.length_cons, Reps.length t]
theorem Reps.map {K : PySem.W.Frag} {H : Hp} {α : Type} (f : α → D) (g : α → V) (h : ∀ x, Rep K H (f x) (g x)) : ∀ xs : List α, Reps K H (xs.map f) (xs.map g)
  | [] => .nil
  | x :: xs => .cons (h x) (Reps.map f g h xs)

/-! ### Python's == -/
mutual
noncomputable def eqD : D → D → Bool
  | .non, e => match e with | .non => true | _ => false
  | .bl a, e => match e with | .bl b => a == b | .int b => (if a then 1 else 0) == b | _ => false
  | .int a, e => match e with | .bl b => a == (if b then 1 else 0) | .int b => a == b | _ => false
  | .str a, e => match e with | .str b => a == b | _ => false
  | .tup xs, e => match e with | .tup ys => eqDs xs ys | _ => false
  | .lst xs, e => match e with | .lst ys => eqDs xs ys | _ => false
noncomputable def eqDs : List D → List D → Bool
  | [], [] => true
  | x :: xs, y :: ys => eqD x y && eqDs xs ys
  | _, _ => false
end
mutual
noncomputable def deep : D → Nat
  | .tup xs => deeps xs + 1
  | .lst xs => deeps xs + 1
  | _ => 0
noncomputable def deeps : List D → Nat
  | [] => 0
  | x :: xs => max (deep x) (deeps xs)
end
mutual
theorem eqD_refl : ∀ d : D, eqD d d = true
  | .non => by simp [eqD]
  | .bl b => by simp [eqD]
  | .int i => by simp [eqD]
  | .str x => by simp [eqD]
  | .tup xs => by exact eqDs_refl xs
  | .lst xs => by exact eqDs_refl xs
theorem eqDs_refl : ∀ xs : List D, eqDs xs xs = true
  | [] => by simp [eqDs]
  | x :: xs => by rw [eqDs, eqD_refl, eqDs_refl]; rfl
end
/-! no truths within -/
mutual
noncomputable def noB : D → Bool
  | .bl _ => false
  | .tup xs => noBs xs
  | .lst xs => noBs xs
  | _ => true
noncomputable def noBs : List D → Bool
  | [] => true
  | x :: xs => noB x && noBs xs
end
mutual
theorem eqD_eq : ∀ d e : D, noB d = true → noB e = true → eqD d e = true → d = e
  | .non, e, _, h2, h => by cases e <;> simp_all [eqD]
  | .bl b, e, h1, _, _ => by simp [noB] at h1
  | .int i, e, _, h2, h => by cases e <;> simp_all [eqD, noB]
  | .str x, e, _, h2, h => by cases e <;> simp_all [eqD]
  | .tup xs, e, h1, h2, h => by
    cases e <;> simp only [eqD, Bool.false_eq_true] at h1 h2 h
    rw [eqDs_eq _ _ h1 h2 h]
  | .lst xs, e, h1, h2, h => by
    cases e <;> simp only [eqD, Bool.false_eq_true] at h1 h2 h
    rw [eqDs_eq _ _ h1 h2 h]
theorem eqDs_eq : ∀ xs ys : List D, noBs xs = true → noBs ys = true → eqDs xs ys = true → xs = ys
  | [], ys, _, _, h => by cases ys <;> simp_all [eqDs]
  | x :: xs, ys, h1, h2, h => by
    cases ys with
    | nil => simp [eqDs] at h
    | cons y ys =>
      simp only [eqDs, noBs, Bool.and_eq_true] at h1 h2 h
      rw [eqD_eq x y h1.1 h2.1 h.1, eqDs_eq xs ys h1.2 h2.2 h.2]
end
noncomputable def pickEq (xs ys : List D) (j : Nat) : Bool := match xs[j]?, ys[j]? with
  | some x, some y => eqD x y
  | _, _ => false
theorem eqDs_all : ∀ xs ys : List D, eqDs xs ys = ((List.range (min xs.length ys.length)).all (pickEq xs ys) && (xs.length == ys.length))
  | [], [] => by simp [eqDs]
  | [], y :: ys => by simp [eqDs]
  | x :: xs, [] => by simp [eqDs]
  | x :: xs, y :: ys => by
    have ih := eqDs_all xs ys
    have e : min (x :: xs).length (y :: ys).length = min xs.length ys.length + 1 := by simp_all
    have p : pickEq (x :: xs) (y :: ys) ∘ Nat.succ = pickEq xs ys := by
      funext j; simp [pickEq]
    rw [eqDs, e, List.range_succ_eq_map, List.all_cons, List.all_map, p, ih]
    have q : pickEq (x :: xs) (y :: ys) 0 = eqD x y := by simp [pickEq]
    have l : ((x :: xs).length == (y :: ys).length) = (xs.length == ys.length) := by simp_all
    rw [q, l, Bool.and_assoc]

section
variable {X : Cx} {pins : List (Addr × Obj)} {σ : L2.St} {H : Hp} {s : Shared}
/-! a value stands for one datum -/
mutual
theorem Rep.inj (I : Inv X pins σ H s) : ∀ (d e : D) (v : V), Rep X.K H d v → Rep X.K H e v → d = e
  | .non, e, v, h, k => by subst h; cases e <;> simp [Rep] at k <;> rfl
  | .bl b, e, v, h, k => by subst h; cases e <;> simp [Rep] at k; rw [k]
  | .int i, e, v, h, k => by subst h; cases e <;> simp [Rep] at k; rw [k]
  | .str x, e, v, h, k => by subst h; cases e <;> simp [Rep] at k; rw [k]
  | .tup ds, e, v, h, k => by
    obtain ⟨a, xs, rfl, q, r⟩ := h
    cases e with
    | tup es =>
      obtain ⟨b, ys, e1, q2, r2⟩ := k
      cases e1
      have := I.tuple_inj q q2
      subst this
      rw [Reps.inj I ds es xs r r2]
    | lst es =>
      obtain ⟨b, ys, e1, q2, r2⟩ := k
      cases e1
      obtain ⟨i1, _, t1, _⟩ := I.tuple q
      obtain ⟨i2, _, t2, _⟩ := I.list q2
      exact absurd rfl (ne_of_list_tuple t2.isList (let ⟨o, h1, h2, n, h3⟩ := t1; ⟨o, h1, h2, n, h3⟩))
    | _ => simp [Rep] at k
  | .lst ds, e, v, h, k => by
    obtain ⟨a, xs, rfl, q, r⟩ := h
    cases e with
    | lst es =>
      obtain ⟨b, ys, e1, q2, r2⟩ := k
      cases e1
      have := I.list_inj q q2
      subst this
      rw [Reps.inj I ds es xs r r2]
    | tup es =>
      obtain ⟨b, ys, e1, q2, r2⟩ := k
      cases e1
      obtain ⟨i1, _, t1, _⟩ := I.tuple q2
      obtain ⟨i2, _, t2, _⟩ := I.list q
      exact absurd rfl (ne_of_list_tuple t2.isList (let ⟨o, h1, h2, n, h3⟩ := t1; ⟨o, h1, h2, n, h3⟩))
    | _ => simp [Rep] at k
theorem Reps.inj (I : Inv X pins σ H s) : ∀ (ds es : List D) (vs : List V), Reps X.K H ds vs → Reps X.K H es vs → ds = es
  | [], es, vs, h, k => by
    rw [h.inv0] at k
    cases es with
    | nil => rfl
    | cons e es => obtain ⟨_, _, z, _⟩ := k.inv; cases z
  | d :: ds, es, vs, h, k => by
    obtain ⟨v, r, rfl, q, t⟩ := h.inv
    cases es with
    | nil => have z := k.inv0; cases z
    | cons e es =>
      obtain ⟨_, _, z, q2, t2⟩ := k.inv
      cases z
      rw [Rep.inj I d e v q q2, Reps.inj I ds es r t t2]
end
end
end L3

/-! == and != and in over deep data. -/
namespace L3
open PySem PySem.Spec PyProof.Rows L2 PySem.SeqAt
section
variable {X : Cx} {pins : List (Addr × Obj)} {σ : L2.St} {H : Hp} {s : Shared} {A : Around}
theorem in1_units (A : Around) : A.in1.units = A.units + 1 := rfl
abbrev Elts (A : Around) (s : Shared) (xs ys : List V) (ds es : List D) : Prop :=
  ∀ us ws, Vals xs us → Vals ys ws → ∀ (j : Nat) v u, us[j]? = some v → ws[j]? = some u → EqAt A s v u (pickEq ds es j)
theorem rc_tup {a b : Addr} {xs ys : List V} {ds es : List D} (I : Inv X pins σ H s) (q : SqT X.K H a xs) (r : Reps X.K H ds xs) (q2 : SqT X.K H b ys) (r2 : Reps X.K H es ys) (hu : A.units < cLine) (he : Elts A.in1 s xs ys ds es) :
    RcAt A s (.ref a) (.ref b) (eqDs ds es) ∧ RcNeAt A s (.ref a) (.ref b) (!eqDs ds es) := by
  obtain ⟨us, rv, t1, _⟩ := I.tuple q
  obtain ⟨ws, rw', t2, _⟩ := I.tuple q2
  have l1 : us.toArray.size = ds.length := by rw [List.size_toArray, ← rv.length, r.length]
  have l2 : ws.toArray.size = es.length := by rw [List.size_toArray, ← rw'.length, r2.length]
  have el : ∀ j (h1 : j < us.toArray.size) (h2 : j < ws.toArray.size), EqAt A.in1 s us.toArray[j] ws.toArray[j] _ := fun j h1 h2 =>
    he us ws rv rw' j _ _ (by simp_all) (by simp_all)
  have e := RcAt.tuples t1 t2 hu el
  have n := RcNeAt.tuples t1 t2 hu el
  rw [l1, l2, ← eqDs_all] at e n
  exact ⟨e, n⟩
theorem rc_lst {a b : Addr} {xs ys : List V} {ds es : List D} (I : Inv X pins σ H s) (q : SqL X.K H a xs) (r : Reps X.K H ds xs) (q2 : SqL X.K H b ys) (r2 : Reps X.K H es ys) (hu : A.units < cLine) (he : Elts A.in1 s xs ys ds es) :
    RcAt A s (.ref a) (.ref b) (eqDs ds es) ∧ RcNeAt A s (.ref a) (.ref b) (!eqDs ds es) := by
  obtain ⟨us, rv, t1, _⟩ := I.list q
  obtain ⟨ws, rw', t2, _⟩ := I.list q2
  have l1 : us.toArray.size = ds.length := by rw [List.size_toArray, ← rv.length, r.length]
  have l2 : ws.toArray.size = es.length := by rw [List.size_toArray, ← rw'.length, r2.length]
  have el : ∀ j (h1 : j < us.toArray.size) (h2 : j < ws.toArray.size), EqAt A.in1 s us.toArray[j] ws.toArray[j] _ := fun j h1 h2 =>
    he us ws rv rw' j _ _ (by simp_all) (by simp_all)
  by_cases hl : ds.length = es.length
  · have e := RcAt.lists t1.isList t2.isList (by omega) hu el
    have n := RcNeAt.lists t1.isList t2.isList (by omega) hu el
    have z : eqDs ds es = (List.range ds.length).all (pickEq ds es) := by
      rw [eqDs_all, hl]; simp
    rw [l1, ← z] at e n
    exact ⟨e, n⟩
  · have hs : (us.toArray.size != ws.toArray.size) = true := by rw [l1, l2]; simpa using hl
    have e := RcAt.lists_lengths t1.isList t2.isList hs hu
    have n := RcNeAt.lists_lengths t1.isList t2.isList hs hu
    have z : eqDs ds es = false := by
      rw [eqDs_all]; simp [hl]
    rw [z]
    exact ⟨e, n⟩
mutual
theorem eqAtD (I : Inv X pins σ H s) : ∀ (d e : D) (A : Around) (v u : V) (v' u' : Value), Rep X.K H d v → Rep X.K H e u → RelV v v' → RelV u u' → A.units + deep d < cLine → EqAt A s v' u' (eqD d e)
  | .non, e, A, v, u, v', u', hd, he, rv, ru, hu => by
    subst hd; cases rv
    cases e <;> unfold Rep at he
    · subst he; cases ru; exact EqAt.same _
    · subst he; cases ru; exact EqAt.none_bool _
    · subst he; obtain ⟨t, rfl⟩ := ru; exact EqAt.none_int _ _
    · subst he; obtain ⟨t, rfl⟩ := ru; exact EqAt.none_str _ _
    · obtain ⟨a, xs, rfl, q, _⟩ := he; cases ru; obtain ⟨_, _, t, _⟩ := I.tuple q; exact EqAt.none_tuple t (by omega)
    · obtain ⟨a, xs, rfl, q, _⟩ := he; cases ru; obtain ⟨_, _, t, _⟩ := I.list q; exact EqAt.none_list t.isList (by omega)
  | .bl b, e, A, v, u, v', u', hd, he, rv, ru, hu => by
    subst hd; cases rv
    cases e <;> unfold Rep at he
    · subst he; cases ru; exact EqAt.bool_none _
    · subst he; cases ru; exact EqAt.bool_bool _ _
    · subst he; obtain ⟨t, rfl⟩ := ru; exact EqAt.bool_int _ _ _
    · subst he; obtain ⟨t, rfl⟩ := ru; exact EqAt.bool_str _ _ _
    · obtain ⟨a, xs, rfl, q, _⟩ := he; cases ru; obtain ⟨_, _, t, _⟩ := I.tuple q; exact EqAt.bool_tuple _ t (by omega)
    · obtain ⟨a, xs, rfl, q, _⟩ := he; cases ru; obtain ⟨_, _, t, _⟩ := I.list q; exact EqAt.bool_list _ t.isList (by omega)
  | .int i, e, A, v, u, v', u', hd, he, rv, ru, hu => by
    subst hd; obtain ⟨t0, rfl⟩ := rv
    cases e <;> unfold Rep at he
    · subst he; cases ru; exact EqAt.int_none _ _
    · subst he; cases ru; exact EqAt.int_bool _ _ _
    · subst he; obtain ⟨t, rfl⟩ := ru; exact EqAt.int_int _ _ _ _
    · subst he; obtain ⟨t, rfl⟩ := ru; exact EqAt.int_str _ _ _ _
    · obtain ⟨a, xs, rfl, q, _⟩ := he; cases ru; obtain ⟨_, _, t, _⟩ := I.tuple q; exact EqAt.int_tuple _ _ t (by omega)
    · obtain ⟨a, xs, rfl, q, _⟩ := he; cases ru; obtain ⟨_, _, t, _⟩ := I.list q; exact EqAt.int_list _ _ t.isList (by omega)
  | .str x, e, A, v, u, v', u', hd, he, rv, ru, hu => by
    subst hd; obtain ⟨t0, rfl⟩ := rv
    cases e <;> unfold Rep at he
    · subst he; cases ru; exact EqAt.str_none _ _
    · subst he; cases ru; exact EqAt.str_bool _ _ _
    · subst he; obtain ⟨t, rfl⟩ := ru; exact EqAt.str_int _ _ _ _
    · subst he; obtain ⟨t, rfl⟩ := ru; exact EqAt.str_str _ _ _ _
    · obtain ⟨a, xs, rfl, q, _⟩ := he; cases ru; obtain ⟨_, _, t, _⟩ := I.tuple q; exact EqAt.str_tuple _ _ t (by omega)
    · obtain ⟨a, xs, rfl, q, _⟩ := he; cases ru; obtain ⟨_, _, t, _⟩ := I.list q; exact EqAt.str_list _ _ t.isList (by omega)
  | .tup ds, e, A, v, u, v', u', hd, he, rv, ru, hu => by
    have hd0 := hd
    have he0 := he
    obtain ⟨a, xs, rfl, q, r⟩ := hd
    cases rv
    rw [deep] at hu
    obtain ⟨_, _, t0, _⟩ := I.tuple q
    cases e <;> unfold Rep at he
    · subst he; cases ru; exact EqAt.tuple_none t0 (by omega)
    · subst he; cases ru; exact EqAt.tuple_bool _ t0 (by omega)
    · subst he; obtain ⟨t, rfl⟩ := ru; exact EqAt.tuple_int _ _ t0 (by omega)
    · subst he; obtain ⟨t, rfl⟩ := ru; exact EqAt.tuple_str _ _ t0 (by omega)
    · rename_i es
      obtain ⟨b, ys, rfl, q2, r2⟩ := he
      cases ru
      by_cases hab : a = b
      · subst hab
        rw [Rep.inj I _ _ _ hd0 he0, eqD_refl]
        exact EqAt.same _
      · exact EqAt.of_refs hab (rc_tup I q r q2 r2 (by omega) fun us ws w1 w2 j v u e1 e2 => eqAtDs I ds es A.in1 xs ys us ws r r2 w1 w2 (by grind) j v u e1 e2).1
    · obtain ⟨b, ys, rfl, q2, r2⟩ := he
      cases ru
      obtain ⟨_, _, t, _⟩ := I.list q2
      exact EqAt.tuple_list t0 t.isList (by omega)
  | .lst ds, e, A, v, u, v', u', hd, he, rv, ru, hu => by
    have hd0 := hd
    have he0 := he
    obtain ⟨a, xs, rfl, q, r⟩ := hd
    cases rv
    rw [deep] at hu
    obtain ⟨_, _, t0, _⟩ := I.list q
    cases e <;> unfold Rep at he
    · subst he; cases ru; exact EqAt.list_none t0.isList (by omega)
    · subst he; cases ru; exact EqAt.list_bool _ t0.isList (by omega)
    · subst he; obtain ⟨t, rfl⟩ := ru; exact EqAt.list_int _ _ t0.isList (by omega)
    · subst he; obtain ⟨t, rfl⟩ := ru; exact EqAt.list_str _ _ t0.isList (by omega)
    · obtain ⟨b, ys, rfl, q2, r2⟩ := he
      cases ru
      obtain ⟨_, _, t, _⟩ := I.tuple q2
      exact EqAt.list_tuple t0.isList t (by omega)
    · rename_i es
      obtain ⟨b, ys, rfl, q2, r2⟩ := he
      cases ru
      by_cases hab : a = b
      · subst hab
        rw [Rep.inj I _ _ _ hd0 he0, eqD_refl]
        exact EqAt.same _
      · exact EqAt.of_refs hab (rc_lst I q r q2 r2 (by omega) fun us ws w1 w2 j v u e1 e2 => eqAtDs I ds es A.in1 xs ys us ws r r2 w1 w2 (by rw [in1_units]; omega) j v u e1 e2).1
theorem eqAtDs (I : Inv X pins σ H s) : ∀ (ds es : List D) (A : Around) (xs ys : List V) (us ws : List Value), Reps X.K H ds xs → Reps X.K H es ys → Vals xs us → Vals ys ws → A.units + deeps ds < cLine →
    ∀ (j : Nat) v u, us[j]? = some v → ws[j]? = some u → EqAt A s v u (pickEq ds es j)
  | [], es, A, xs, ys, us, ws, hd, he, rv, ru, hu, j, v, u, e1, e2 => by
    rw [hd.inv0] at rv; cases rv; simp at e1
  | d :: ds, [], A, xs, ys, us, ws, hd, he, rv, ru, hu, j, v, u, e1, e2 => by
    rw [he.inv0] at ru; cases ru; simp at e2
  | d :: ds, e :: es, A, xs, ys, us, ws, hd, he, rv, ru, hu, j, v, u, e1, e2 => by
    obtain ⟨x, xs, rfl, hx, hxs⟩ := hd.inv
    obtain ⟨y, ys, rfl, hy, hys⟩ := he.inv
    rw [deeps] at hu
    cases rv with
    | cons rv1 rv2 =>
      cases ru with
      | cons ru1 ru2 =>
        cases j with
        | zero =>
          simp at e1 e2
          subst e1 e2
          exact eqAtD I d e A x y _ _ hx hy rv1 ru1 (by omega)
        | succ j =>
          exact eqAtDs I ds es A xs ys _ _ hxs hys rv2 ru2 (by omega) j v u (by assumption) (by assumption)
end
theorem rcD (I : Inv X pins σ H s) (d e : D) {v u : V} {v' u' : Value} (hd : Rep X.K H d v) (he : Rep X.K H e u) (rv : RelV v v') (ru : RelV u u') (hu : A.units + deep d < cLine) : RcAt A s v' u' (eqD d e) ∧ RcNeAt A s v' u' (!eqD d e) := by
  cases d with
  | non =>
    subst hd; cases rv
    cases e with
    | non =>
      subst he; cases ru
      exact ⟨RcAt.none_none , RcNeAt.none_none ⟩
    | bl b1 =>
      subst he; cases ru
      exact ⟨RcAt.none_bool _ , RcNeAt.none_bool _ ⟩
    | int i1 =>
      subst he; obtain ⟨t1, rfl⟩ := ru
      exact ⟨RcAt.none_int _ _ , RcNeAt.none_int _ _ ⟩
    | str x1 =>
      subst he; obtain ⟨t1, rfl⟩ := ru
      exact ⟨RcAt.none_str _ _ , RcNeAt.none_str _ _ ⟩
    | tup es =>
      obtain ⟨b, ys, rfl, q2, r2⟩ := he
      cases ru
      obtain ⟨_, _, t1, _⟩ := I.tuple q2
      exact ⟨RcAt.none_tuple t1 (by omega), RcNeAt.none_tuple t1 (by omega)⟩
    | lst es =>
      obtain ⟨b, ys, rfl, q2, r2⟩ := he
      cases ru
      obtain ⟨_, _, t1, _⟩ := I.list q2
      exact ⟨RcAt.none_list t1.isList (by omega), RcNeAt.none_list t1.isList (by omega)⟩
  | bl b0 =>
    subst hd; cases rv
    cases e with
    | non =>
      subst he; cases ru
      exact ⟨RcAt.bool_none _ , RcNeAt.bool_none _ ⟩
    | bl b1 =>
      subst he; cases ru
      exact ⟨RcAt.bool_bool _ _ , RcNeAt.bool_bool _ _ ⟩
    | int i1 =>
      subst he; obtain ⟨t1, rfl⟩ := ru
      exact ⟨RcAt.bool_int _ _ _ , RcNeAt.bool_int _ _ _ ⟩
    | str x1 =>
      subst he; obtain ⟨t1, rfl⟩ := ru
      exact ⟨RcAt.bool_str _ _ _ , RcNeAt.bool_str _ _ _ ⟩
    | tup es =>
      obtain ⟨b, ys, rfl, q2, r2⟩ := he
      cases ru
      obtain ⟨_, _, t1, _⟩ := I.tuple q2
      exact ⟨RcAt.bool_tuple _ t1 (by omega), RcNeAt.bool_tuple _ t1 (by omega)⟩
    | lst es =>
      obtain ⟨b, ys, rfl, q2, r2⟩ := he
      cases ru
      obtain ⟨_, _, t1, _⟩ := I.list q2
      exact ⟨RcAt.bool_list _ t1.isList (by omega), RcNeAt.bool_list _ t1.isList (by omega)⟩
  | int i0 =>
    subst hd; obtain ⟨t0, rfl⟩ := rv
    cases e with
    | non =>
      subst he; cases ru
      exact ⟨RcAt.int_none _ _ , RcNeAt.int_none _ _ ⟩
    | bl b1 =>
      subst he; cases ru
      exact ⟨RcAt.int_bool _ _ _ , RcNeAt.int_bool _ _ _ ⟩
    | int i1 =>
      subst he; obtain ⟨t1, rfl⟩ := ru
      exact ⟨RcAt.int_int _ _ _ _ , RcNeAt.int_int _ _ _ _ ⟩
    | str x1 =>
      subst he; obtain ⟨t1, rfl⟩ := ru
      exact ⟨RcAt.int_str _ _ _ _ , RcNeAt.int_str _ _ _ _ ⟩
    | tup es =>
      obtain ⟨b, ys, rfl, q2, r2⟩ := he
      cases ru
      obtain ⟨_, _, t1, _⟩ := I.tuple q2
      exact ⟨RcAt.int_tuple _ _ t1 (by omega), RcNeAt.int_tuple _ _ t1 (by omega)⟩
    | lst es =>
      obtain ⟨b, ys, rfl, q2, r2⟩ := he
      cases ru
      obtain ⟨_, _, t1, _⟩ := I.list q2
      exact ⟨RcAt.int_list _ _ t1.isList (by omega), RcNeAt.int_list _ _ t1.isList (by omega)⟩
  | str x0 =>
    subst hd; obtain ⟨t0, rfl⟩ := rv
    cases e with
    | non =>
      subst he; cases ru
      exact ⟨RcAt.str_none _ _ , RcNeAt.str_none _ _ ⟩
    | bl b1 =>
      subst he; cases ru
      exact ⟨RcAt.str_bool _ _ _ , RcNeAt.str_bool _ _ _ ⟩
    | int i1 =>
      subst he; obtain ⟨t1, rfl⟩ := ru
      exact ⟨RcAt.str_int _ _ _ _ , RcNeAt.str_int _ _ _ _ ⟩
    | str x1 =>
      subst he; obtain ⟨t1, rfl⟩ := ru
      exact ⟨RcAt.str_str _ _ _ _ , RcNeAt.str_str _ _ _ _ ⟩
    | tup es =>
      obtain ⟨b, ys, rfl, q2, r2⟩ := he
      cases ru
      obtain ⟨_, _, t1, _⟩ := I.tuple q2
      exact ⟨RcAt.str_tuple _ _ t1 (by omega), RcNeAt.str_tuple _ _ t1 (by omega)⟩
    | lst es =>
      obtain ⟨b, ys, rfl, q2, r2⟩ := he
      cases ru
      obtain ⟨_, _, t1, _⟩ := I.list q2
      exact ⟨RcAt.str_list _ _ t1.isList (by omega), RcNeAt.str_list _ _ t1.isList (by omega)⟩
  | tup ds =>
    obtain ⟨a, xs, rfl, q, r⟩ := hd
    cases rv
    rw [deep] at hu
    obtain ⟨_, _, t0, _⟩ := I.tuple q
    cases e with
    | non =>
      subst he; cases ru
      exact ⟨RcAt.tuple_none t0 (by omega), RcNeAt.tuple_none t0 (by omega)⟩
    | bl b1 =>
      subst he; cases ru
      exact ⟨RcAt.tuple_bool _ t0 (by omega), RcNeAt.tuple_bool _ t0 (by omega)⟩
    | int i1 =>
      subst he; obtain ⟨t1, rfl⟩ := ru
      exact ⟨RcAt.tuple_int _ _ t0 (by omega), RcNeAt.tuple_int _ _ t0 (by omega)⟩
    | str x1 =>
      subst he; obtain ⟨t1, rfl⟩ := ru
      exact ⟨RcAt.tuple_str _ _ t0 (by omega), RcNeAt.tuple_str _ _ t0 (by omega)⟩
    | tup es =>
      obtain ⟨b, ys, rfl, q2, r2⟩ := he
      cases ru
      have z := rc_tup I q r q2 r2 (by omega) fun us ws w1 w2 j v u e1 e2 => eqAtDs I ds es A.in1 xs ys us ws r r2 w1 w2 (by grind) j v u e1 e2
      assumption
    | lst es =>
      obtain ⟨b, ys, rfl, q2, r2⟩ := he
      cases ru
      obtain ⟨_, _, t1, _⟩ := I.list q2
      exact ⟨RcAt.tuple_list t0 t1.isList (by omega), RcNeAt.tuple_list t0 t1.isList (by omega)⟩
  | lst ds =>
    obtain ⟨a, xs, rfl, q, r⟩ := hd
    cases rv
    rw [deep] at hu
    obtain ⟨_, _, t0, _⟩ := I.list q
    cases e with
    | non =>
      subst he; cases ru
      exact ⟨RcAt.list_none t0.isList (by omega), RcNeAt.list_none t0.isList (by omega)⟩
    | bl b1 =>
      subst he; cases ru
      exact ⟨RcAt.list_bool _ t0.isList (by omega), RcNeAt.list_bool _ t0.isList (by omega)⟩
    | int i1 =>
      subst he; obtain ⟨t1, rfl⟩ := ru
      exact ⟨RcAt.list_int _ _ t0.isList (by omega), RcNeAt.list_int _ _ t0.isList (by omega)⟩
    | str x1 =>
      subst he; obtain ⟨t1, rfl⟩ := ru
      exact ⟨RcAt.list_str _ _ t0.isList (by omega), RcNeAt.list_str _ _ t0.isList (by omega)⟩
    | tup es =>
      obtain ⟨b, ys, rfl, q2, r2⟩ := he
      cases ru
      obtain ⟨_, _, t1, _⟩ := I.tuple q2
      exact ⟨RcAt.list_tuple t0.isList t1 (by omega), RcNeAt.list_tuple t0.isList t1 (by omega)⟩
    | lst es =>
      obtain ⟨b, ys, rfl, q2, r2⟩ := he
      cases ru
      have z := rc_lst I q r q2 r2 (by omega) fun us ws w1 w2 j v u e1 e2 => eqAtDs I ds es A.in1 xs ys us ws r r2 w1 w2 (by rw [in1_units]; omega) j v u e1 e2
      assumption
def rEqD (K : PySem.W.Frag) : R2 := fun x y H Q => ∃ d e, Rep K H d x ∧ Rep K H e y ∧ deep d ≤ 60 ∧ Q (.bl (eqD d e)) H
def rNeD (K : PySem.W.Frag) : R2 := fun x y H Q => ∃ d e, Rep K H d x ∧ Rep K H e y ∧ deep d ≤ 60 ∧ Q (.bl (!eqD d e)) H
theorem op_eqD (hu : X.A.units + 64 < cLine) : OpR X (compareOp .Eq) (rEqD X.K) := by
  intro pins s σ H x y v u Q I rx ry h
  obtain ⟨d, e, hd, he, hz, q⟩ := h
  exact (rcD I d e hd he rx ry (by omega)).1 _ X.w X.xe _ ⟨.bl _, H, I, rfl, q⟩
theorem op_neD (hu : X.A.units + 64 < cLine) : OpR X (compareOp .NotEq) (rNeD X.K) := by
  intro pins s σ H x y v u Q I rx ry h
  obtain ⟨d, e, hd, he, hz, q⟩ := h
  exact (rcD I d e hd he rx ry (by omega)).2 _ X.w X.xe _ ⟨.bl _, H, I, rfl, q⟩
noncomputable def absD (K : PySem.W.Frag) (H : Hp) (u : Value) : D := by
  classical exact if h : ∃ d v, RelV v u ∧ Rep K H d v then h.choose else .non
theorem absD_eq {d : D} {v : V} {u : Value} (I : Inv X pins σ H s) (r : RelV v u) (h : Rep X.K H d v) : absD X.K H u = d := by
  have hx : ∃ d v, RelV v u ∧ Rep X.K H d v := ⟨d, v, r, h⟩
  unfold absD
  rw [dif_pos hx]
  obtain ⟨v2, r2, h2⟩ := hx.choose_spec
  have := r2.inj r
  subst this
  exact Rep.inj I _ _ _ h2 h
theorem any_vals {K : PySem.W.Frag} {H : Hp} {d : D} (f : Value → D) : ∀ {ds : List D} {xs : List V} {us : List Value}, Reps K H ds xs → Vals xs us → (∀ d v u, Rep K H d v → RelV v u → f u = d) → (us.any fun u => eqD (f u) d) = ds.any fun e => eqD e d
  | [], _, _, h, rv, _ => by rw [h.inv0] at rv; cases rv; rfl
  | e :: ds, _, _, h, rv, hf => by
    obtain ⟨v, r, rfl, q, t⟩ := h.inv
    cases rv with
    | cons r1 r2 => rw [List.any_cons, List.any_cons, hf _ _ _ q r1, any_vals f t r2 hf]
theorem mem_rep {K : PySem.W.Frag} {H : Hp} : ∀ {ds : List D} {xs : List V} {us : List Value}, Reps K H ds xs → Vals xs us → ∀ u ∈ us, ∃ d v, Rep K H d v ∧ RelV v u ∧ deep d ≤ deeps ds
  | [], _, _, h, rv, u, hu => by rw [h.inv0] at rv; cases rv; cases hu
  | e :: ds, _, _, h, rv, u, hu => by
    obtain ⟨v, r, rfl, q, t⟩ := h.inv
    cases rv with
    | cons r1 r2 =>
      rw [deeps]
      rcases List.mem_cons.mp hu with z | z
      · grind
      · obtain ⟨d, w', a, b, c⟩ := mem_rep t r2 u z
        grind
def rInD (K : PySem.W.Frag) (neg : Bool) : R2 := fun x y H Q => ∃ d p xs ds, Rep K H d x ∧ y = .ref p ∧ SqL K H p xs ∧ Reps K H ds xs ∧ deeps ds ≤ 60 ∧ Q (.bl (if neg then !ds.any (fun e => eqD e d) else ds.any fun e => eqD e d)) H
theorem op_notInD (hu : X.A.units + 64 < cLine) : OpR X (compareOp .NotIn) (rInD X.K true) := by
  intro pins s σ H x y v u Q I rx ry h
  obtain ⟨d, p, xs, ds, hd, rfl, hq, hr, hz, q⟩ := h
  cases ry
  obtain ⟨its, rv, t, _⟩ := I.list hq
  refine notIn_listAt (fun u => eqD (absD X.K H u) d) t.isList (fun z hz' => ?_) ?_
  · obtain ⟨e, w', a, b, c⟩ := mem_rep hr rv z (by simp_all)
    have := eqAtD I e d X.A.in1 w' x z v a hd b rx (by grind)
    rw [absD_eq I b a]
    exact this
  · refine ⟨.bl _, H, I, rfl, ?_⟩
    have e := any_vals (d := d) _ hr rv fun d v u a b => absD_eq I b a
    simp_all
end
end L3

/-! Marks, steps, scribes in the heap; what stays while lists change. -/
namespace L3
open PySem PySem.Spec PyProof.Rows L2
noncomputable abbrev Mk := Int × Str
noncomputable abbrev Stp := Int × Str × Str × Int
def Grow (H H' : Hp) : Prop := ∀ b o, H b = some o → (∀ xs, o ≠ .lst xs) → H' b = some o
theorem Same.grow {H H' : Hp} (g : Same H H') : Grow H H' := fun b o h _ => g b o h
theorem grow_upd {H : Hp} {p : Addr} {xs : List V} (h : H p = some (.lst xs)) (o : HO) : Grow H (upd H p o) := fun b u q n => by grind [upd]
theorem grow_new {H : Hp} {p : Addr} (h : H p = none) (o : HO) : Grow H (upd H p o) := Same.grow (same_new h o)
theorem Grow.seqT {K : PySem.W.Frag} {H H' : Hp} {a : Addr} {xs : List V} (e : Grow H H') (h : SqT K H a xs) : SqT K H' a xs := by
  rcases h with (h | ⟨o, h⟩) | h
  · exact .inl (.inl (e _ _ h (by grind)))
  · exact .inl (.inr ⟨o, e _ _ h (by grind)⟩)
  · exact .inr h
def MkV (K : PySem.W.Frag) (H : Hp) (m : Mk) (v : V) : Prop := ∃ b, v = .ref b ∧ SqT K H b [.int m.1, .str m.2]
def StV (K : PySem.W.Frag) (H : Hp) (t : Stp) (v : V) : Prop := ∃ b, v = .ref b ∧ SqT K H b [.int t.1, .str t.2.1, .str t.2.2.1, .int t.2.2.2]
theorem MkV.mono {K : PySem.W.Frag} {H H' : Hp} {m : Mk} {v : V} (g : Grow H H') : MkV K H m v → MkV K H' m v := fun ⟨b, e, h⟩ => ⟨b, e, g.seqT h⟩
theorem StV.mono {K : PySem.W.Frag} {H H' : Hp} {m : Stp} {v : V} (g : Grow H H') : StV K H m v → StV K H' m v := fun ⟨b, e, h⟩ => ⟨b, e, g.seqT h⟩
theorem paired_mono {α β : Type} {F G : α → β → Prop} (h : ∀ a b, F a b → G a b) : ∀ {xs : List α} {ys : List β}, Paired F xs ys → Paired G xs ys
  | _, _, .nil => .nil
  | _, _, .cons p q => .cons (h _ _ p) (paired_mono h q)
theorem paired_append {α β : Type} {F : α → β → Prop} : ∀ {xs xs' : List α} {ys ys' : List β}, Paired F xs ys → Paired F xs' ys' → Paired F (xs ++ xs') (ys ++ ys')
  | _, _, _, _, .nil, q => q
  | _, _, _, _, .cons p r, q => .cons p (paired_append r q)
theorem paired_get {α β : Type} {F : α → β → Prop} : ∀ {xs : List α} {ys : List β} {i : Nat} {y : β}, Paired F xs ys → ys[i]? = some y → ∃ x, xs[i]? = some x ∧ F x y
  | _, _, _, _, .nil, e => by simp at e
  | _, _, 0, _, .cons p _, e => by simp at e; subst e; exact ⟨_, rfl, p⟩
  | _, _, i + 1, y, .cons _ q, e => by
    obtain ⟨x, h1, h2⟩ := paired_get q (by simpa using e)
    exact ⟨x, by simpa using h1, h2⟩
structure Scr where
  signs : Str
  rooms : Int
  begins : List Mk
  steps : List Stp
  ends : List Mk
def ScV (K : PySem.W.Frag) (H : Hp) (s : Scr) (v : V) (pb ps pe : Addr) : Prop := ∃ a xb xs xe, v = .ref a ∧ SqT K H a [.str s.signs, .int s.rooms, .ref pb, .ref ps, .ref pe] ∧ SqL K H pb xb ∧ SqL K H ps xs ∧ SqL K H pe xe ∧
  Paired (MkV K H) s.begins xb ∧ Paired (StV K H) s.steps xs ∧ Paired (MkV K H) s.ends xe
theorem ScV.mono {K : PySem.W.Frag} {H H' : Hp} {s : Scr} {v : V} {pb ps pe : Addr} (g : Same H H') : ScV K H s v pb ps pe → ScV K H' s v pb ps pe
  | ⟨a, xb, xs, xe, e, h1, h2, h3, h4, h5, h6, h7⟩ => ⟨a, xb, xs, xe, e, Same.seqT g h1, g.seq h2, g.seq h3, g.seq h4, paired_mono (fun _ _ => MkV.mono (Same.grow g)) h5, paired_mono (fun _ _ => StV.mono (Same.grow g)) h6, paired_mono (fun _ _ => MkV.mono (Same.grow g)) h7⟩
/-! as deep data -/
noncomputable def dMk (m : Mk) : D := .tup [.int m.1, .str m.2]
noncomputable def dSt (t : Stp) : D := .tup [.int t.1, .str t.2.1, .str t.2.2.1, .int t.2.2.2]
noncomputable def dScr (s : Scr) : D := .tup [.str s.signs, .int s.rooms, .lst (s.begins.map dMk), .lst (s.steps.map dSt), .lst (s.ends.map dMk)]
theorem rep_int {K : PySem.W.Frag} {H : Hp} (i : Int) : Rep K H (.int i) (.int i) := by rfl
theorem rep_str {K : PySem.W.Frag} {H : Hp} (x : Str) : Rep K H (.str x) (.str x) := by rfl
theorem rep_bl {K : PySem.W.Frag} {H : Hp} (x : Bool) : Rep K H (.bl x) (.bl x) := by rfl
theorem rep_tup {K : PySem.W.Frag} {H : Hp} {a : Addr} {xs : List V} {ds : List D} (h : SqT K H a xs) (r : Reps K H ds xs) : Rep K H (.tup ds) (.ref a) := by exact ⟨a, xs, rfl, h, r⟩
theorem rep_lst {K : PySem.W.Frag} {H : Hp} {a : Addr} {xs : List V} {ds : List D} (h : SqL K H a xs) (r : Reps K H ds xs) : Rep K H (.lst ds) (.ref a) := by exact ⟨a, xs, rfl, h, r⟩
theorem MkV.rep {K : PySem.W.Frag} {H : Hp} {m : Mk} {v : V} : MkV K H m v → Rep K H (dMk m) v
  | ⟨_, e, h⟩ => by subst e; exact rep_tup h (.cons (rep_int _) (.cons (rep_str _) .nil))
theorem StV.rep {K : PySem.W.Frag} {H : Hp} {m : Stp} {v : V} : StV K H m v → Rep K H (dSt m) v
  | ⟨_, e, h⟩ => by subst e; exact rep_tup h (.cons (rep_int _) (.cons (rep_str _) (.cons (rep_str _) (.cons (rep_int _) .nil))))
theorem reps_of {K : PySem.W.Frag} {H : Hp} {α : Type} {F : α → V → Prop} {f : α → D} (h : ∀ a v, F a v → Rep K H (f a) v) : ∀ {xs : List α} {vs : List V}, Paired F xs vs → Reps K H (xs.map f) vs
  | _, _, .nil => .nil
  | _, _, .cons p q => .cons (h _ _ p) (reps_of h q)
theorem ScV.rep {K : PySem.W.Frag} {H : Hp} {s : Scr} {v : V} {pb ps pe : Addr} : ScV K H s v pb ps pe → Rep K H (dScr s) v
  | ⟨a, xb, xs, xe, e, h1, h2, h3, h4, h5, h6, h7⟩ => by
    subst e
    exact rep_tup h1 (.cons (rep_str _) (.cons (rep_int _) (.cons (rep_lst h2 (reps_of (fun _ _ h => MkV.rep h) h5)) (.cons (rep_lst h3 (reps_of (fun _ _ h => StV.rep h) h6)) (.cons (rep_lst h4 (reps_of (fun _ _ h => MkV.rep h) h7)) .nil)))))
theorem deeps_map {α : Type} (f : α → D) (n : Nat) (h : ∀ a, deep (f a) ≤ n) : ∀ xs : List α, deeps (xs.map f) ≤ n
  | [] => by rw [List.map_nil, deeps]; exact Nat.zero_le _
  | x :: xs => by
    have h1 := h x
    have h2 := deeps_map f n h xs
    rw [List.map_cons, deeps]; omega
theorem deep_dMk (m : Mk) : deep (dMk m) ≤ 1 := by unfold dMk; simp [deep, deeps]
theorem deep_dSt (m : Stp) : deep (dSt m) ≤ 1 := by unfold dSt; simp [deep, deeps]
theorem deep_dScr (s : Scr) : deep (dScr s) ≤ 3 := by
  have h1 := deeps_map dMk 1 deep_dMk s.begins
  have h2 := deeps_map dSt 1 deep_dSt s.steps
  have h3 := deeps_map dMk 1 deep_dMk s.ends
  unfold dScr
  simp only [deep, deeps]
  omega
theorem eqD_dMk (a b : Mk) : eqD (dMk a) (dMk b) = decide (a = b) := by
  unfold dMk
  simp only [eqD, eqDs]
  grind
theorem eqD_dSt (a b : Stp) : eqD (dSt a) (dSt b) = decide (a = b) := by
  unfold dSt
  simp only [eqD, eqDs]
  grind
theorem any_mem {α : Type} [DecidableEq α] (f : α → D) (h : ∀ a b, eqD (f a) (f b) = decide (a = b)) (x : α) : ∀ xs : List α, ((xs.map f).any fun e => eqD e (f x)) = decide (x ∈ xs)
  | [] => by simp
  | y :: ys => by
    rw [List.map_cons, List.any_cons, any_mem f h x ys]
    grind
/-! ### the list's insert; a number of the module -/
section
variable {X : Cx}
theorem pe_globI {x : Str} {i : Int} {pos : Pos} (hg : Gl X x) (hm : ∃ t, X.mg x = some (.int i t)) (hd : (x == ("__debug__" : Str)) = false := by decide) : PE X (.Name x pos) (tC (.int i)) := by
  obtain ⟨t, hm⟩ := hm
  exact pe_glob hg hm ⟨t, rfl⟩ hd
end
/-! in a block: the fragment named outright -/
theorem kIx {X : Cx} {K : PySem.W.Frag} (r : PySem.W.Frag → R2) (h : IxR X (r X.K)) (e : X.K = K := by rfl) : IxR X (r K) := e ▸ h
theorem kSl {X : Cx} {K : PySem.W.Frag} (r : PySem.W.Frag → V → Option Int → Option Int → Hp → VK → Prop) (h : SlR X (r X.K)) (e : X.K = K := by rfl) : SlR X (r K) := e ▸ h
theorem kOp {X : Cx} {K : PySem.W.Frag} {f : Value → Value → Sem Value} (r : PySem.W.Frag → R2) (h : OpR X f (r X.K)) (e : X.K = K := by rfl) : OpR X f (r K) := e ▸ h
def rLenS (K : PySem.W.Frag) : List V → Hp → VK → Prop := fun xs H Q => ∃ p ys, xs = [.ref p] ∧ (SqL K H p ys ∨ SqT K H p ys) ∧ Q (.int ys.length) H
theorem kLen {X : Cx} {K : PySem.W.Frag} (e : X.K = K := by rfl) : CallR X (.builtin "len") (rLenS K) := e ▸ call_len_seq
end L3

/-! isinstance of deep data. -/
namespace L3
open PySem PySem.Spec PyProof.Rows L2
section
variable {X : Cx}
end
end L3
namespace L3
open PySem PySem.Spec PyProof.Rows L2
section
variable {X : Cx}
end
end L3

/-! sorted of a dict of texts; lists of texts compared, and what they are. -/
namespace L3
open PySem PySem.Spec PyProof.Rows L2 PySem.W
section
variable {prog : Program} {w : World} {A : Around} {E : Value → Shared → Prop} {s : Shared} {d : Addr} {es : Array DictEntry} {p : Nat}
theorem rd_sortG {Q : Value → Shared → Prop} {ss : List Str} (hh : A.handled = none) (lo : (d == sysModules) = false) (r : RawD d es p s.heap) (hn : es.size ≤ sizeLine) (hs : ∀ vs : List Value, vs.length = es.size → (∀ (j : Nat) (v : Value), vs[j]? = some v → ∃ e, es[j]? = some e ∧ v = e.key) → StrsAre vs ss)
    (q : ∀ (D : Addr) (h' : Heap) (tk : Nat) (out : List Value) (ss' : List Str) (c : Nat), s.heap.objs.size ≤ D → (∀ b o, s.heap.get? b = some o → h'.get? b = some o) → h'.get? D = some (seqObj "list" out.toArray c) → StrsAre out ss' → ss'.Perm ss → ss'.Pairwise leT → Q (.ref D) { s with heap := h', toks := tk }) :
    wpAny (model prog w) A (call (.builtin "sorted") [.ref d]) Q E s := by
  refine Calls.call_function_entry kind_sorted plain_sorted entry_sorted (args_sorted1 _) ?_
  refine wpAny_bind (m := checkCount _ 1 1 _) (wpAny_pure ?_)
  refine wpAny_bind (rd_collect hh lo r hn fun h' tk acc hsz hk hacc => ?_)
  have hl : acc.toList.length = es.size := by exact hacc.1
  have hS : StrsAre _ ss := hs _ hl fun j v e => hacc.2 j v (by simp_all)
  refine wpAny_bind (wpAny_newList ?_ (by rw [hl]; exact hn))
  have hoL : (h'.push (seqObj _ _ 0)).get? _ = some (seqObj "list" acc.toList.toArray 0) := Heap.get?_push_size _ rfl
  refine wpAny_bind (wpAny_holding (wpAny_call_entry slot_list_sort ⟨_, hoL, rfl⟩ entry_list_sort (sort_any strKind_oneLt hoL hS.keysOf (fun v₁ v₂ rest e => keyKind_strs (by rw [← e]; exact hS)) (by rw [hl]; exact hn) fun st' a1 a2 => ⟨_, rfl, ?_⟩) (args_list_sort _)))
  obtain ⟨ss', b1, b2, b3⟩ := sort_out hS a1 a2
  obtain ⟨c, hc⟩ := sortedHeap_at (out := (arrOf st').map (·.2)) hoL
  refine wpAny_pure ⟨_, rfl, q _ _ tk ((arrOf st').map _).toList ss' c (Nat.le_of_lt hsz) (fun b o e => ?_) ?_ b1 b2 b3⟩
  · have e' := hk b o e
    have hlt := Heap.lt_size e'
    rw [sortedHeap_old (Nat.ne_of_lt hlt) (by rw [size_push']; exact Nat.lt_succ_of_lt hlt)]
    exact Heap.get?_push_of_some _ e'
  assumption
end
section
variable {X : Cx}
def rSortTW : List V → Hp → VK → Prop := fun xs H Q => ∃ (a : Addr) (kvs : List (Key × V)) (ss : List Str), xs = [.ref a] ∧ H a = some (.dK kvs) ∧ kvs.map (·.1) = ss.map Sum.inr ∧ ∀ (l : Addr) (ss' : List Str), ss'.Perm ss → ss'.Pairwise leT → H l = none → Q (.ref l) (upd H l (StL' l ss'))
theorem call_sorted_tW (hc : X.calm = true) : CallR X (.builtin "sorted") rSortTW := by
  intro pins s σ H xs us Q I r h
  obtain ⟨a, kvs, ss, rfl, e, hk, q⟩ := h
  obtain ⟨u, rfl, ru⟩ := vals1 r
  cases ru
  obtain ⟨z, lo, es, p, rr, hs, hr⟩ := raw_k I e
  have hkl : kvs.length = ss.length := by have := congrArg List.length hk; simpa using this
  refine wpTk I.tk (rd_sortG (ss := ss) (I.ok.hd hc) lo rr (by omega) (fun vs hl hv => strs_at (by omega) fun i v x e1 e2 => ?_) fun D h' tk out ss' c hD kp e' so hp hss h0 => ?_)
  · obtain ⟨x0, ex, rfl⟩ := hv i v e1
    have hi : i < kvs.length := by rw [hkl]; exact (List.getElem?_eq_some_iff.mp e2).1
    have hk1 := hr i x0 kvs[i] ex (List.getElem?_eq_getElem hi)
    have hkx : kvs[i].1 = Sum.inr x := by
      have : (kvs.map (·.1))[i]? = (ss.map Sum.inr)[i]? := by rw [hk]
      rw [List.getElem?_map, List.getElem?_map, List.getElem?_eq_getElem hi, e2] at this
      exact Option.some.inj this
    rw [hkx] at hk1
    rcases keyIs_shape hk1 with ⟨n, t, h7, _⟩ | ⟨n, t, h7, h8⟩
    · cases h7
    · cases h7; exact ⟨t, h8⟩
  · have hn := I.hok.fresh hD
    have hol : out.length ≤ sizeLine := by rw [strs_len so, hp.length_eq, ← hkl]; exact z
    exact ⟨.ref D, _, I.laid (t' := tk) (o := StL' D ss') kp hD (isL_ok ⟨out, c, e', so, hol⟩), rfl, q D ss' hp hss hn⟩
theorem strs_pair : ∀ {vs ws : List Value} {ss : List Str}, StrsAre vs ss → StrsAre ws ss → ∀ (i : Nat) v w, vs[i]? = some v → ws[i]? = some w → ∃ x t u, v = .str x t ∧ w = .str x u
  | _, _, _, .nil, .nil, i, v, w, e, _ => by simp at e
  | _, _, _, .cons x t r, .cons _ u r', 0, v, w, e, e' => by simp at e e'; exact ⟨x, t, u, e.symm, e'.symm⟩
  | _, _, _, .cons x t r, .cons _ u r', i + 1, v, w, e, e' => strs_pair r r' i v w (by simpa using e) (by simpa using e')
theorem op_eqSS (hu : X.A.units + 64 < cLine) : OpR X (compareOp .Eq) (fun x y H Q => ∃ a b ss, x = .ref a ∧ y = .ref b ∧ H a = some (StL' a ss) ∧ H b = some (StL' b ss) ∧ Q (.bl true) H) := by
  intro pins s σ H x y v u Q I rx ry h
  obtain ⟨a, b, ss, rfl, rfl, ha, hb, q⟩ := h
  cases rx; cases ry
  obtain ⟨⟨us, c, e1, s1, _⟩, _⟩ := (show ObjOk X.prog X.w H s.heap a (StL' a ss) from I.hok a _ ha)
  obtain ⟨⟨ws, c', e2, s2, _⟩, _⟩ := (show ObjOk X.prog X.w H s.heap b (StL' b ss) from I.hok b _ hb)
  have l1 := strs_len s1; have l2 := strs_len s2
  have := SeqAt.RcAt.lists (A := X.A) (s := s) (l := a) (b := b) (items := us.toArray) (items2 := ws.toArray) (e := fun _ => true) ⟨_, e1, rfl, c, rfl⟩ ⟨_, e2, rfl, c', rfl⟩ (by rw [List.size_toArray, List.size_toArray, l1, l2]) (by omega) fun j h1 h2 => by
    obtain ⟨x, t, u, ev, ew⟩ := strs_pair s1 s2 j us.toArray[j] ws.toArray[j] (by simp) (by simp)
    rw [ev, ew]
    exact fun prog w E Q hq => wpAny_eqBool_str (by rw [decide_eq_true rfl]; exact hq)
  rw [show (List.range us.toArray.size).all (fun _ => true) = true by simp] at this
  exact this _ X.w X.xe _ ⟨.bl true, H, I, rfl, q⟩
theorem call_isinstSS : CallR X (.builtin "isinstance") (fun xs H Q => ∃ a ss, xs = [.ref a, .ty "list"] ∧ H a = some (StL' a ss) ∧ Q (.bl true) H) := by
  intro pins s σ H xs us Q I r h
  obtain ⟨a, ss, rfl, ha, q⟩ := h
  obtain ⟨u, w', rfl, rx, rt⟩ := vals2 r
  cases rt; cases rx
  obtain ⟨⟨us, c, e1, s1, _⟩, _⟩ := (show ObjOk X.prog X.w H s.heap a (StL' a ss) from I.hok a _ ha)
  exact wpTk I.tk (PySem.W.kia_one PySem.W.kitx_list I.kIn ⟨_, e1, rfl⟩ (show PySem.W.kitOne X.K (.type "list") (.type "list") = some true from rfl) (fun z => nomatch z) fun tk h0 => ⟨.bl true, H, I.tok _, rfl, q⟩)
end
end L3

namespace L3
open PySem PySem.Spec PyProof.Rows L2
def sizeIs (a : Addr) (n : Nat) : Heap → Prop := fun h => ∃ o es ep t, h.get? a = some o ∧ o.ExactSet ∧ o.data = .set es ep t ∧ t.fits es.size = true ∧ es.size = n
section
variable {X : Cx}
end
end L3

namespace L3
open PySem PySem.Spec PyProof.Rows L2
section
variable {X : Cx}
end
theorem bt_set : bootBuiltins "set" = some (.type "set") := by decide +kernel
end L3

/-! Exceptions of own classes: raised, passing frames. -/
namespace L3
open PySem PySem.Spec PyProof.Rows L2
theorem ObjOk.there {P : Program} {w : World} {H : Hp} {h : Heap} : ∀ {a : Addr} {o : HO}, ObjOk P w H h a o → ∃ ob, h.get? a = some ob
  | _, .lst _, x => let ⟨_, _, _, _, e⟩ := x; ⟨_, e⟩
  | _, .tup _, x => let ⟨_, _, _, o, e, _⟩ := x; ⟨o, e⟩
  | _, .dK _, x => let ⟨_, _, _, _, o, _, _, e, _⟩ := x; ⟨o, e⟩
  | _, .dT _, x => let ⟨_, _, _, _, o, _, _, e, _⟩ := x; ⟨o, e⟩
  | _, .set _ _, x => let ⟨o, _, _, _, e, _⟩ := x; ⟨o, e⟩
  | _, .ins _ _ _, x => let ⟨_, _, _, e, _⟩ := x; ⟨_, e⟩
  | _, .own _, x => x
  | _, .xd _, x => let ⟨_, ⟨o, _, _, e, _⟩, _⟩ := x; ⟨o, e⟩
  | _, .met _ _, x => ⟨_, x⟩
  | _, .rng _ _, x => let ⟨_, _, _, e⟩ := x; ⟨_, e⟩
  | _, .frz o _, x => ⟨o, x.1⟩
  | _, .tbl _, x => ⟨_, x⟩
  | _, .ext _, x => x.2.1
structure Fly (P : Program) (w : World) (st : List Env) (H : Hp) (s : Shared) (x C : Addr) (H' : Hp) (s' : Shared) (B : Heap) : Prop where
  os : s'.os = s.os
  bare : AllBare s'.gens
  un : Un (frs st) [] H H' s.heap s'.heap
  hok : HOk P w H' s'.heap
  fl : ∃ t, Heap.FlyingW B st x (.ref C) (.ref t) s'.heap
  new : s.heap.get? x = none
  xf : H' x = none
  tr : ∀ b o, H' b ≠ none → s'.heap.get? b = some o → B.get? b = some o
  ol : ∀ b o, s.heap.get? b = some o → H b = none → b ∉ frs st → B.get? b = some o
  th : ∀ b o, s.heap.get? b = some o → b ∉ frs st → ∃ o', B.get? b = some o'
  ff : ∀ b ∈ frs st, H' b = none
noncomputable def CX1 (P : Program) (w : World) : CXT := fun st H s E e s' => ∃ x C H' B, e = .ref x ∧ Fly P w st H s x C H' s' B ∧ E (.ref C) none H'
section
variable {P : Program} {w : World} {st : List Env} {H H' : Hp} {s s' : Shared} {x C : Addr} {B : Heap}
theorem Fly.turn (F : Fly P w st H s x C H' s' B) {h2 : Heap} (k : B.StaysIn h2) (u : s'.heap.UpToSlots h2) : Un (frs st) [] H H' s.heap h2 ∧ HOk P w H' h2 := by
  have slot : ∀ b ∈ frs st, ∀ o, s'.heap.get? b = some o → ∃ sl, h2.get? b = some _ := fun b hb o q => by
    obtain ⟨t, fl⟩ := F.fl
    obtain ⟨_, o', e, d⟩ := fl.2.2.1.mem hb
    rw [q] at e; cases e
    exact u b o q d
  refine ⟨⟨fun b o q n hb _ => k b o (F.ol b o q n hb), fun b o q n hb hx => ?_, F.un.free, fun b o q hx => ?_, F.un.tups, F.un.frzs, F.un.tbls⟩, fun a o e => ?_⟩
  · obtain ⟨sl, e⟩ := F.un.slot b o q n hb hx
    obtain ⟨sl', e'⟩ := slot b hb _ e
    exact ⟨sl', e'⟩
  · by_cases hb : b ∈ frs st
    · obtain ⟨o', e⟩ := F.un.there b o q hx
      obtain ⟨sl, e'⟩ := slot b hb _ e
      exact ⟨_, e'⟩
    · obtain ⟨o', e⟩ := F.th b o q hb
      exact ⟨o', k b o' e⟩
  · refine (F.hok a o e).stay (fun b v hb q => ?_) (fun _ q => q) fun _ _ q => q
    refine k b v (F.tr b v ?_ q)
    lia
end
section
variable {X : Cx} {pins : List (Addr × Obj)} {σ : L2.St} {H : Hp} {s : Shared}
theorem raise_fly {M : Model} {h2 : Heap} {x C : Addr} {vs : List Value} {Q : Unit → Shared → Prop} {E : Value → Shared → Prop} (I : Inv X pins σ H s) (hst : X.stack = X.env :: X.outer) (hfm : X.env.frame = some X.env.locals) (hex : X.ex = []) (hx : Heap.MadeExcOf s.heap h2 x (.ref C) vs)
    (q : ∀ h' B, Fly X.prog X.w X.outer X.H₀ X.s₀ x C H { s with heap := h' } B → Q () { s with heap := h' }) : wpAny M X.A (leaving X.env (.ref x)) Q E { s with heap := h2 } := by
  have hfr : X.A.frames = some (X.env :: X.outer) := by rw [← hst]; exact I.ok.frames
  have hstk := I.stack
  have inB : ∀ b o, s.heap.get? b = some o → b ∉ frs _ → (PySem.W.hideAll _ (frs X.stack)).get? b = some o := fun b o e n => PySem.W.hideAll_get _ e n
  have nst : ∀ b o, X.s₀.heap.get? b = some o → b ∉ X.fs → b ∉ frs _ := fun b o e n hb => by
    rcases List.mem_cons.mp (I.stkSub b hb) with z | z
    · exact absurd (Nat.lt_of_lt_of_le (Heap.lt_size e) I.ok.above) (by simp_all)
    · exact n z
  have noex : ∀ b , b ∉ X.ex := fun b => by simp_all
  have fsub : ∀ b ∈ X.fs, b ∈ frs X.stack := fun b hb => by
    rw [hst]; unfold frs; rw [List.filterMap_cons, hfm]; exact List.mem_cons_of_mem _ hb
  have hff := PySem.W.funFrames_hide (as := frs _) hstk (fun env he a ha => List.mem_filterMap.mpr ⟨env, he, ha⟩)
  rw [hst] at hff
  refine wpAny_leaves_madeW (base := PySem.W.hideAll _ (frs _)) hfr hfm (fun b o e => PySem.W.of_hideAll _ e) hff hx fun h' t f1 f2 f3 f4 => ?_
  rw [← hst] at f1 f3
  have keepB : ∀ b o, s.heap.get? b = some o → b ∉ frs _ → h'.get? b = some o := fun b o e n => f1.1 b o (inB b o e n)
  have slot : ∀ b ∈ frs _, ∀ o, s.heap.get? b = some o → ∃ sl, h'.get? b = some _ := fun b hb o e => by
    obtain ⟨_, o', e', d⟩ := hstk.mem hb
    rw [e] at e'; cases e'
    exact f4 b o (hx.keeps b o e) d
  have xnew : X.s₀.heap.get? x = none := by
    cases e : X.s₀.heap.get? x with
    | none => rfl
    | some o =>
      obtain ⟨o', e'⟩ := I.base.there x o e (noex x)
      rw [hx.new] at e'; cases e'
  refine q h' _ ⟨I.os, I.bare, ⟨fun b o e n hb _ => ?_, fun b o e n hb _ => ?_, fun b o e n _ => I.base.free b o e n (noex b), fun b o e _ => ?_, I.base.tups, I.base.frzs, I.base.tbls⟩, fun a u e => ?_, ⟨t, f1⟩, xnew, ?_, fun b o hb e => ?_, fun b o e n hb => ?_, fun b o e hb => ?_, fun b hb => ?_⟩
  · exact keepB b o (I.base.keep b o e n hb (noex b)) (nst b o e hb)
  · obtain ⟨sl, e1⟩ := I.base.slot b o e n hb (noex b)
    obtain ⟨sl', e2⟩ := slot b (fsub b hb) _ e1
    exact ⟨sl', e2⟩
  · obtain ⟨o', e1⟩ := I.base.there b o e (noex b)
    by_cases hb : b ∈ frs X.stack
    · obtain ⟨sl, e2⟩ := slot b hb _ e1
      exact ⟨_, e2⟩
    · exact ⟨o', keepB b o' e1 hb⟩
  · refine (I.hok a u e).stay (fun b v hb q => keepB b v q fun z => ?_) (fun _ q => q) fun _ _ q => q
    have := I.stkFree b z
    simp_all
  · cases e : H x with
    | none => rfl
    | some u =>
      obtain ⟨o, e'⟩ := ObjOk.there (I.hok x u e)
      rw [hx.new] at e'; cases e'
  · cases e' : H b with
    | none => exact absurd e' hb
    | some u =>
      obtain ⟨o1, e1⟩ := ObjOk.there (I.hok b u e')
      have nb : b ∉ frs _ := fun z => by have := I.stkFree b z; grind
      have e2 := keepB b o1 e1 nb
      have e3 : h'.get? b = some o := e
      rw [e3] at e2; cases e2
      exact inB b o e1 nb
  · exact inB b o (I.base.keep b o e n hb (noex b)) (nst b o e hb)
  · obtain ⟨o', e1⟩ := I.base.there b o e (noex b)
    exact ⟨o', inB b o' e1 (nst b o e hb)⟩
  · exact I.stkFree b (fsub b hb)
theorem pass_fly {M : Model} {s2 : Shared} {H2 : Hp} {x C : Addr} {B : Heap} {Q : Unit → Shared → Prop} {E : Value → Shared → Prop} (I : Inv X pins σ H s) (hst : X.stack = X.env :: X.outer) (hfm : X.env.frame = some X.env.locals) (hex : X.ex = []) (F : Fly X.prog X.w X.stack H s x C H2 s2 B)
    (q : ∀ h', Fly X.prog X.w X.outer X.H₀ X.s₀ x C H2 { s2 with heap := h' } B → Q () { s2 with heap := h' }) : wpAny M X.A (leaving X.env (.ref x)) Q E s2 := by
  have hfr : X.A.frames = some (X.env :: X.outer) := by rw [← hst]; exact I.ok.frames
  obtain ⟨t, fl⟩ := F.fl
  have nst : ∀ b o, X.s₀.heap.get? b = some o → b ∉ X.fs → b ∉ frs _ := fun b o e n hb => by
    rcases List.mem_cons.mp (I.stkSub b hb) with z | z
    · exact absurd (Nat.lt_of_lt_of_le (Heap.lt_size e) I.ok.above) (by simp_all)
    · exact n z
  have noex : ∀ b , b ∉ X.ex := fun b => by simp_all
  have fsub : ∀ b ∈ X.fs, b ∈ frs X.stack := fun b hb => by
    rw [hst]; unfold frs; rw [List.filterMap_cons, hfm]; exact List.mem_cons_of_mem _ hb
  have fl' := fl
  rw [hst] at fl'
  refine wpAny_leaves_onW hfr hfm fl' fun h' f1 f2 => ?_
  obtain ⟨un, hok⟩ := F.turn f1.1 f2
  have xnew : X.s₀.heap.get? x = none := by
    cases e : X.s₀.heap.get? x with
    | none => rfl
    | some o =>
      obtain ⟨o', e'⟩ := I.base.there x o e (noex x)
      rw [F.new] at e'; cases e'
  refine q h' ⟨?_, F.bare, ⟨fun b o e n hb _ => ?_, fun b o e n hb _ => ?_, fun b o e n _ => ?_, fun b o e _ => ?_, fun b xs e => un.tups b xs (I.base.tups b xs e), fun b o u e => un.frzs b o u (I.base.frzs b o u e), fun b ps e => ?_⟩, hok, ⟨t, f1⟩, xnew, F.xf, fun b o hb e => ?_, fun b o e n hb => ?_, fun b o e hb => ?_, fun b hb => F.ff b (fsub b hb)⟩
  · exact F.os.trans I.os
  · exact un.keep b o (I.base.keep b o e n hb (noex b)) (I.base.free b o e n (noex b)) (nst b o e hb) (by simp)
  · obtain ⟨sl, e1⟩ := I.base.slot b o e n hb (noex b)
    obtain ⟨sl', e2⟩ := un.slot b _ e1 (I.base.free b o e n (noex b)) (fsub b hb) (by simp)
    exact ⟨sl', e2⟩
  · obtain ⟨o', e1⟩ := I.base.there b o e (noex b)
    exact un.free b o' e1 (I.base.free b o e n (noex b)) (by simp)
  · obtain ⟨o', e1⟩ := I.base.there b o e (noex b)
    exact un.there b o' e1 (by simp)
  · obtain ⟨m1, e1⟩ := I.base.tbls b ps e
    obtain ⟨m2, e2⟩ := un.tbls b _ e1
    grind
  · cases e' : H2 b with
    | none => exact absurd e' hb
    | some u =>
      obtain ⟨o1, e1⟩ := ObjOk.there (F.hok b u e')
      have e2 := F.tr b o1 hb e1
      have e3 := f1.1 b o1 e2
      simp_all
  · exact F.ol b o (I.base.keep b o e n hb (noex b)) (I.base.free b o e n (noex b)) (nst b o e hb)
  · obtain ⟨o', e1⟩ := I.base.there b o e (noex b)
    exact F.th b o' e1 (nst b o e hb)
end
end L3

/-! An exception object of an own class: its class, isinstance; a clause that takes it. -/
namespace L3
open PySem PySem.Spec PyProof.Rows L2 PySem.W PySem.Builtin PySem.Builtin.ObjectAttr PySem.Builtin.Getset_descriptor PySem.Calls
def XAt (x C : Addr) : Heap → Prop := fun h => ∃ o, h.get? x = some o ∧ o.cls = .ref C
structure XCls (K : Frag) (C : Addr) : Prop where
  ga : findIn K (.ref C) "__getattribute__" = some (some (.builtin "BaseException.__getattribute__"))
  gh : findIn K (.ref C) "__getattr__" = some none
  bs : mroIn K C (.type "BaseException") = some true
  cl : (clsIn K C).isSome = true
  ha : findIn K (.ref C) "__class__" = some (some (.builtin "object.__class__"))
  hn : specialIn K (.builtin "object.__class__") "__get__" = some (some (.builtin "getset_descriptor.__get__"))
  htk : takesIn K (.builtin "object.__class__") = some true
  hm : mroIn K C (.type "object") = some true
section
variable {prog : Program} {w : World} {A : Around} {E : Value → Shared → Prop} {s : Shared} {K : Frag} {x C : Addr}
theorem x_type {M : Model} {h : Heap} (I : XAt x C h) : Looks M h (typeOf (.ref x)) (.ref C) := by
  obtain ⟨o, e, c⟩ := I
  exact c ▸ (Looks.ld e).andThen .now
theorem x_find {M : Model} {h : Heap} (X : K.In h) (c : XCls K C) : Looks M h (find (.ref x) (.ref C) "__class__") (.bind (.builtin "getset_descriptor.__get__") (.builtin "object.__class__")) := by
  have l1 := looks_findIn (M := M) X c.ha
  have l2 : Looks M h (getOf (some (.builtin _))) (some (.builtin _)) := looks_specialIn X c.hn
  have l3 := looks_takesIn (M := M) X c.htk
  refine l1.andThen (l2.andThen ?_)
  exact (show Looks M h (dataDescriptor? (some (.builtin _)) (some (.builtin _))) (some (.builtin _, .builtin _)) from l3.andThen .now).andThen (Looks.tag .now)
theorem x_get {R : Result → Shared → Prop} {tp : Value} (X : K.In s.heap) (I : XAt x C s.heap) (hm : mroIn K C (.type "object") = some true) (h : R (.ok (.ret (.ref C))) s) :
    codeAny (model prog w) A (.call (.builtin "getset_descriptor.__get__") ⟨[.builtin "object.__class__", .ref x, tp], []⟩) R s := by
  have l0 := x_type (M := model prog w) I
  have l1 := looks_mroIn (M := model prog w) X hm
  refine codeAny_call_builtin KF.slot_gs.plain KF.entry_gs (KF.slot_gs.check _ _ _ _ _ _ _ _ KF.type_class (KF.args_gs _ _ _) ?_)
  refine wpAny_bind (wpAny_pure ?_)
  unfold descrGetter descrCheckInstance descrNameAndClass isInstance
  simp only [KF.owner_class]
  repeat lk
  refine ⟨Code.quiet_builtin _ (by decide +kernel), codeAny_builtin KF.entry_class ?_⟩
  repeat lk
  exact h
theorem x_entry {tk : Tok} {R : Result → Shared → Prop} (X : K.In s.heap) (I : XAt x C s.heap) (c : XCls K C) (h : R (.ok (.ret (.ref C))) s) :
    codeAny (model prog w) A (.call (.builtin "BaseException.__getattribute__") ⟨[.ref x, .str "__class__" tk], []⟩) R s := by
  obtain ⟨h0, g0, d0, t0, os0⟩ := s
  have l0 := x_type (M := model prog w) I
  have l1 := x_find (M := model prog w) (x := x) X c
  have l2 := looks_mroIn (M := model prog w) X c.bs
  have hsp : splitId "BaseException.__getattribute__" = some ("BaseException", "__getattribute__") := by decide +kernel
  refine codeAny_call_builtin (by decide +kernel) F.entry_bexc_ga ?_
  simp only [checkBuiltinCall, hsp]
  repeat (first | refine wpAny_run (x_get X I c.hm ?_) | lk)
  exact h
theorem x_class {Q : Option Value → Shared → Prop} (X : K.In s.heap) (I : XAt x C s.heap) (c : XCls K C) (h : Q (some (.ref C)) { s with toks := s.toks + 1 }) : wpAny (model prog w) A (getAttr? (.ref x) "__class__") Q E s := by
  have l0 := x_type (M := model prog w) I
  have l1 := looks_findIn (M := model prog w) X c.ga
  have l2 := looks_findIn (M := model prog w) X c.gh
  refine wpAny_bind (wpAny_mkText (wpAny_bind (wpAny_attempt (wpAny_holding (wpAny_bind (l0.at (wpAny_bind (l1.at ?_))))))))
  refine wpAny_bind (l2.at ?_)
  refine wpAny_bind (wpAny_attempt (wpAny_holding (wpAny_bind (wpAny_pure ?_))))
  exact wpAny_call (x_entry X I c (wpAny_pure (wpAny_pure h)))
theorem kitx_exc (c : XCls K C) : KitX K (.ref x) (.ref C) (XAt x C) where
  ty := fun _ _ _ I => x_type I
  it := fun _ _ X _ => by
    obtain ⟨cd, hc⟩ := Option.isSome_iff_exists.mp c.cl
    unfold clsIn at hc
    split at hc
    · rename_i ho
      intro A' Q' E' s' k q
      exact wpAny_bind (wpAny_loadPart (k _ _ (X _ _ ho)) (wpAny_pure q))
    · cases hc
  ne := fun h tp dd its n sl X htp => by
    obtain ⟨cd, hc⟩ := Option.isSome_iff_exists.mp c.cl
    refine Bool.eq_false_iff.mpr fun q => ?_
    obtain rfl : C = tp := Value.ref.inj (beq_iff_eq.mp q)
    unfold clsIn at hc
    split at hc
    · rename_i ho
      cases (X _ _ ho).symm.trans htp
    · cases hc
  ca := fun X I k => x_class X I c k
theorem x_matches {S : Addr} {Q : Bool → Shared → Prop} (X : K.In s.heap) (I : XAt x C s.heap) (ht : typeIn K (.ref S) = some (.type "type")) (hcS : (clsIn K S).isSome = true) (hb : mroIn K S (.type "BaseException") = some true) (hs : mroIn K C (.ref S) = some true) (q : Q true s) :
    wpAny (model prog w) A (excMatches (.ref x) (.ref S)) Q E s := by
  obtain ⟨h0, g0, d0, t0, os0⟩ := s
  have l0 := x_type (M := model prog w) I
  have l1 := looks_typeIn (M := model prog w) X ht
  have l2 := looks_mroIn (M := model prog w) X hb
  have l3 := looks_mroIn (M := model prog w) X hs
  have l4 : Looks (model prog w) h0 (isType (.ref S)) true := by
    obtain ⟨cd, hc⟩ := Option.isSome_iff_exists.mp hcS
    unfold clsIn at hc
    split at hc
    · rename_i ho
      intro A' Q' E' s' k q
      exact wpAny_bind (wpAny_loadPart (k _ _ (X _ _ ho)) (wpAny_pure q))
    · cases hc
  repeat lk
  exact q
end
end L3

/-! raise C(..), calls that may raise, try with one call, isinstance of what was caught. -/
namespace L3
open PySem PySem.Spec PyProof.Rows L2
noncomputable abbrev bmV : List Value := [.type "ValueError", .type "Exception", .type "BaseException", .type "object"]
theorem own_obj {K : PySem.W.Frag} {h : Heap} {C : Addr} {bB : List Value} {nid : String} (X : K.In h) (e : PySem.W.excIn K C bB nid = true) :
    ∃ bm N nm q bs hd sn sub ab col dd k0 k1 k2 k3 k5 mN, h.get? C = some (excClassObj nm q C N bs bm hd sn sub ab col dd k0 k1 k2 k3 k5 nid) ∧ h.Ns N mN ∧ mN "__init__" = none ∧ OwnTail h bB bm := by
  unfold PySem.W.excIn at e
  split at e
  · rename_i dd cd slots hl
    split at e
    · rename_i C1 bm k0 k1 k2 k3 n1 k5 hmro hslots
      simp only [Bool.and_eq_true, beq_iff_eq, Bool.not_eq_true'] at e
      obtain ⟨⟨⟨⟨⟨e1, e2⟩, e3⟩, e4⟩, e5⟩, e6⟩ := e
      subst e1 e2
      obtain ⟨a1, a2, a3, a4, a5, a6, a7, a8, a9, a10, a11⟩ := cd
      subst hmro e3
      have es : slots = #[k0, k1, k2, k3, some (.builtin n1), k5] := by
        obtain ⟨l⟩ := slots
        simp_all
      subst es
      exact ⟨bm, a4, a1, a5, a2, a6, a7, a8, a9, a10, dd, k0, k1, k2, k3, k5, _, X _ _ hl, .of_isNs (PySem.W.isNs_of_in X e5), PySem.W.nsMap_none_of_in X e5 e6, PySem.W.tail_of_in X e4⟩
    · cases e
  · cases e
structure OwnX (K : PySem.W.Frag) (mg : Str → Option Value) (x : Str) (C : Addr) : Prop where
  nm : mg x = some (.ref C)
  ex : PySem.W.excIn K C bmV "ValueError.__new__" = true
section
variable {X : Cx}
def Raises (X : Cx) (E : XK) : Prop := ∀ (pins : List (Addr × Obj)) (σ : L2.St) (H : Hp) (s : Shared) (h2 : Heap) (x C : Addr) (vs : List Value), Inv X pins σ H s → Heap.MadeExcOf s.heap h2 x (.ref C) vs → E (.ref C) none H → X.xe (.ref x) { s with heap := h2 }
def tRaise (C : Addr) (E : XK) (te : TE) : TS := fun _ σ H => te σ H fun v H1 => [v].length = 1 ∧ E (.ref C) none H1
theorem ps_raise {x : Str} {C : Addr} {E : XK} {e : Expr} {te : TE} {np cpos pos : Pos} (O : OwnX X.K X.mg x C) (hc : X.calm = true) (hg : Gl X x) (hR : Raises X E) (he : PE X e te) (hd : (x == ("__debug__" : Str)) = false := by decide)
    (hs : starEach [e] X.env = [(false, eval e X.env)] := by rfl) (hpl : (backTo cpos (starEach [e] X.env)).any (·.1) = false := by rfl) : PS X (.Raise (some (.Call (.Name x np) [e] [] cpos)) none pos) (tRaise C E te) := by
  intro pins s σ H D I h
  obtain ⟨bm, N, nm, q, bs, hdct, sn, sub, ab, col, dd, k0, k1, k2, k3, k5, mN, hC, hN, hni, T⟩ := own_obj I.ok.mod.kin O.ex
  have FV := PySem.F.excBase_ValueError
  refine wpAny_Raise_call_subU (nm := nm) (q := q) (N := N) (bs := bs) (hdct := hdct) (sn := sn) (sub := sub) (ab := ab) (col := col) (dd := dd) (k0 := k0) (k1 := k1) (k2 := k2) (k3 := k3) (k5 := k5)
    FV (by decide) FV (T.hasType FV.hasBase) (I.ok.hd hc) hpl hni (ld_glob I hg O.nm ⟨rfl, ?_⟩ hd)
  have pa : PA X _ _ := pa_cons he pa_nil hs
  rw [hs]
  refine Calls.evalArgs_plain ?_
  have run := pa cpos pins s σ H (fun ws H1 => ws.length = 1 ∧ E _ none H1) I h
  rw [hs] at run
  refine wpAny_mono run (fun vs s2 ⟨ws, H2, I2, rv, hw, hE⟩ => ?_) fun _ _ y => y
  have hl : vs.length ≤ sizeLine := by
    rw [← rv.length, hw]; decide
  exact ⟨rfl, hl, I2.bk _ _ hC, hN.keeps I2.bk, T.keeps I2.bk, fun h' x0 hm => hR pins σ H2 s2 h' x0 C vs I2 hm hE⟩
/-! ### an own def that may raise -/
def Cal1 (P : Program) (w : World) (K : PySem.W.Frag) (mg : Str → Option Value) (base : Heap) (x : Str) (ps : List Str) (k : Nat) (sp : Sp) : Prop :=
  ∃ f fd, FnOk P w K mg base (CX1 P w) k f fd ps sp ∧ Binds K fd ps [] ∧ PySem.W.keepIn K (.ref f) = true ∧ mg x = some (.ref f)
def tFn1 (sp : Sp) (E : XK) (t : TA) : TE := fun σ H Q => t σ H fun vs H1 => sp vs H1 Q E
theorem pe_fn1 {x : Str} {ps : List Str} {k k' : Nat} {sp : Sp} {E : XK} {p pos : Pos} {e : Expr} {es : List Expr} {t : TA} (C : Cal1 X.prog X.w X.K X.mg X.base x ps k sp) (hr : Room k' X.A) (hk : k ≤ k') (hg : Gl X x) (hx : Passes (CX1 X.prog X.w) X E)
    (ha : PA X (e :: es) t) (hdb : (x == ("__debug__" : Str)) = false := by decide) (he : starEach (e :: es) X.env = (false, eval e X.env) :: starEach es X.env := by rfl) (hpl : (backTo pos (starEach es X.env)).any (·.1) = false := by rfl) :
    PE X (.Call (.Name x p) (e :: es) [] pos) (tFn1 sp E t) := by
  obtain ⟨f, fd, F, b, kp, hm⟩ := C
  intro pins s σ H Q I h
  refine wpAny_Call_Name_kw (ld_glob I hg hm ?_ hdb)
  refine PySem.W.callWith_K I.ok.mod.kin kp (thn (ha pos pins s σ H _ I h) fun us s1 ⟨vs, H1, I1, r, q⟩ => ⟨I1.kIn, ?_⟩) he hpl
  exact run_fn F (hr.mono hk) b .nil hx I1 r (by simp_all)
end
section
variable {P : Program} {w : World} {K : PySem.W.Frag} {mg : Str → Option Value} {base : Heap} {N : List Str} {qual : Str} {scope : Scope} {f : Addr} {cd : Value} {A : Around} {outer : List Env} {s : Shared} {H : Hp} {E : XK}
theorem pass_on : Passes (CX1 P w) (cxOf (CX1 P w) P w K mg base N qual scope f cd A outer s H E) E := by
  intro pins σ H1 s1 e s2 I h
  obtain ⟨x, C, H2, B, rfl, F, hE⟩ := h
  exact pass_fly I rfl rfl rfl F fun h' F' => ⟨x, C, H2, B, rfl, F', hE⟩
theorem raise_on : Raises (cxOf (CX1 P w) P w K mg base N qual scope f cd A outer s H E) E := by
  intro pins σ H1 s1 h2 x C vs I hm hE
  exact raise_fly I rfl rfl rfl hm fun h' B F' => ⟨x, C, H1, B, rfl, F', hE⟩
theorem Fun.ok1 {x : Str} {st : Stmt} {fd : FuncData} {ps : List Str} {k : Nat} {sp : Sp} (F : Fun K x qual st f fd) (S : FnScope N ps (defScope st)) (len : ∀ vs H Q E, sp vs H Q E → vs.length = ps.length)
    (hbody : ∀ (cdv : Value) (A : Around) (outer : List Env) (s : Shared) (H : Hp) (vs : List V) (Q : VK) (E : XK), Room k (A.deeper (envOfC qual (defScope st) s.heap.objs.size f cdv)) → sp vs H Q E →
      ∃ t, PSs (cxOf (CX1 P w) P w K mg base N qual (defScope st) f cdv A outer s H E) (defBody st) t ∧ t { nx := fun _ H' => Q .non H', rt := Q } (start N vs) H) : FnOk P w K mg base (CX1 P w) (k + 1) f fd ps sp := by
  obtain ⟨oc, od, kV, doc, pm, an, cdv, ct, osl, rfl, lk, hcd⟩ := F.ex
  exact fn_of lk hcd S len fun A outer s H vs Q E hr hsp => hbody cdv A outer s H vs Q E hr hsp
theorem own_on : PassesOwn (model P w) (cxOf (CX1 P w) P w K mg base N qual scope f cd A outer s H E).A (cxOf (CX1 P w) P w K mg base N qual scope f cd A outer s H E).env (cxOf (CX1 P w) P w K mg base N qual scope f cd A outer s H E).xe := PassesOwn.leaving
end
/-! ### what was caught -/
def excIs (x C : Addr) : Heap → Prop := XAt x C
noncomputable abbrev Exc (x C : Addr) : HO := .ext (excIs x C)
theorem exc_ok {P : Program} {w : World} {H : Hp} {h : Heap} {x C : Addr} (e : XAt x C h) : ObjOk P w H h x (Exc x C) :=
  ⟨e, let ⟨o, z, _⟩ := e; ⟨o, z⟩, fun h1 h2 ⟨o, z, c⟩ k => ⟨o, k o z, c⟩⟩
section
variable {X : Cx}
noncomputable def clsV : V → Option Value
  | .ref a => some (.ref a)
  | .ty T => some (.type T)
  | _ => none
theorem call_isinstX : CallR X (.builtin "isinstance") (fun xs H Q => ∃ x C y u b, xs = [.ref x, y] ∧ H x = some (Exc x C) ∧ XCls X.K C ∧ clsV y = some u ∧ PySem.W.kitOne X.K (.ref C) u = some b ∧ Q (.bl b) H) := by
  intro pins s σ H xs us Q I r h
  obtain ⟨x, C, y, u, b, rfl, hx, c, hu, e, q⟩ := h
  obtain ⟨v, w', rfl, rx, ry⟩ := vals2 r
  cases rx
  have ew : w' = u := by
    cases y <;> simp only [clsV] at hu <;> first | cases hu | skip
    · cases ry; rfl
    assumption
  subst ew
  have px : XAt x C _ := (show ObjOk _ X.w H _ x _ from I.hok x _ hx).1
  exact wpTk I.tk (PySem.W.kia_one (kitx_exc c) I.kIn px e (fun z => nomatch z) fun tk h0 => ⟨.bl b, H, I.tok _, rfl, q⟩)
theorem pe_globC {x : Str} {C : Addr} {pos : Pos} (hg : Gl X x) (hm : X.mg x = some (.ref C)) (hd : (x == ("__debug__" : Str)) = false := by decide) : PE X (.Name x pos) (tC (.ref C)) := pe_glob hg hm rfl hd
end
end L3

/-! [e for x in xs], [e for x in xs if c]: the block runs in a context of its own; no exception leaves it. -/
namespace L3
open PySem PySem.Spec PyProof.Rows L2
noncomputable def blk (X : Cx) (scope : Scope) (cl : List (Str × Addr)) (N' : List Str) (C : Addr) (s₀ : Shared) (H₀ : Hp) (ex : List Addr) (pn : List (Addr × Obj)) : Cx where
  prog := X.prog
  w := X.w
  K := X.K
  mg := X.mg
  base := X.base
  A := X.A
  N := N'
  s₀ := s₀
  H₀ := H₀
  env := compEnvC scope cl C X.env
  outer := X.stack
  stack := X.stack
  ex := ex
  fn := fun _ => false
  calm := X.calm
  pn := pn
  xe := fun _ _ => False
noncomputable abbrev lobj (its : List Value) : Obj := { cls := .type "list", data := .seq its.toArray its.length }
theorem toE {α : Type} {t : Sem α} {Q : α → Shared → Prop} {M : Model} {A : Around} {E : Value → Shared → Prop} {s : Shared} (h : wpAny M A t Q (fun _ _ => False) s) : wpAny M A t Q E s := wpAny_mono h (fun _ _ q => q) fun _ _ f => f.elim
section
variable {X : Cx} {pins : List (Addr × Obj)} {σ : L2.St} {H : Hp} {s : Shared}
def PF (X : Cx) (ifs : List Expr) (t : TT) : Prop := ∀ (pins : List (Addr × Obj)) (s : Shared) (σ : L2.St) (H : Hp) (Q : Bool → Hp → Prop), Inv X pins σ H s → t σ H Q →
  wpAny (model X.prog X.w) X.A (forIn ifs true fun c r => if r = true then do let ok ← isTrue c X.env (eval c X.env); pure (ForInStep.yield ok) else pure (ForInStep.yield r)) (TP X pins σ Q) X.xe s
theorem pf_one {c : Expr} {t : TT} (h : PT X c t) : PF X [c] t := fun pins s σ H Q I hq => wpAny_tests_one (h pins s σ H Q I hq)

theorem Inv.track {D : Addr} {ys : List V} {its : List Value} (I : Inv X pins σ H s) (hD : H D = none) (ho : s.heap.get? D = some (lobj its)) (hv : Vals ys its) (hz : ys.length ≤ sizeLine)
    (h1 : D ∈ X.ex ∨ X.s₀.heap.objs.size ≤ D) (h2 : D ≠ X.env.locals) (h3 : ∀ x c, X.env.cells.lookup x = some c → c ≠ D) (h4 : ∀ p ∈ X.pn ++ pins, p.1 ≠ D) : Inv X pins σ (upd H D (.lst ys)) s := by
  have old : ∀ b u, H b = some u → upd H D (.lst ys) b = some u := fun b u e => by rw [upd_ne (ne_of_none e hD)]; exact e
  refine I.step (ch := [D]) (fun b hb => ?_) (fun b o _ _ _ e _ => e) (fun b o _ _ _ e _ => ⟨o.slots, e⟩) (fun b o hb _ n => ?_) (fun b o _ e => ⟨o, e⟩)
    (fun b xs e => old b _ e) (fun b o u e => old b _ e) (fun b ps e => ⟨#[], by simp_all⟩) (fun m hm => hm) (fun b u e => ?_) I.bare
  · have e  := by simpa using hb
    subst e
    exact ⟨h1, h2, h3, h4⟩
  · rw [upd_ne (by simp_all)]; exact n
  · by_cases hb : b = D
    · subst hb
      rw [upd_same] at e; cases e
      exact ⟨hz, its, its.length, hv, ho⟩
    · rw [upd_ne hb] at e
      exact (I.hok b u e).stay (fun c v _ q => q) (fun c q => old c _ q) fun c xs q => old c _ q

noncomputable def lend (js : List (Option Nat)) (σ : L2.St) : L2.St := js.map fun o => o.bind fun j => (σ[j]?).join
structure Blk (X : Cx) (scope : Scope) (cl : List (Str × Addr)) (N' : List Str) (js : List (Option Nat)) : Prop where
  clos : closureFor scope X.env = pure cl
  nocell : ∀ y ∈ scope.names, y.2 ≠ .cell
  kind : scope.kind = .function
  names : ∀ y ∈ scope.names, y.2 = .local → scope.names.lookup y.1 = some .local
  sub : ∀ y c, cl.lookup y = some c → X.env.cells.lookup y = some c
  has : ∀ y, ((relabel scope X.env).names.lookup y = some .cell ∨ (relabel scope X.env).names.lookup y = some .free) → ∃ c, cl.lookup y = some c
  len : js.length = N'.length
  lent : ∀ (i : Nat) y j, N'[i]? = some y → js[i]? = some (some j) → X.N[j]? = some y ∧ Vis X.env.scope y ∧ X.env.scope.names.lookup y ≠ some .local ∧ (relabel scope X.env).names.lookup y ≠ some .local

theorem blk_inv {scope : Scope} {cl : List (Str × Addr)} {N' : List Str} {js : List (Option Nat)} {fp : List Addr} {C : Addr} {h1 : Heap} {m : Str → Option Value} {tk : Nat} (B : Blk X scope cl N' js) (I : Inv X pins σ H s) (f : ∀ b ∈ fp, FpOk X pins H b)
    (fo : ∀ b ∈ fp, ∃ o, s.heap.get? b = some o) (old : ∀ b o, s.heap.get? b = some o → h1.get? b = some o) (hns : h1.Ns C m) (hC : s.heap.objs.size ≤ C) (h0 : 0 < tk := by first | assumption | exact Nat.succ_pos _ | exact Inv.tk ‹_› | omega) :
    Inv (blk X scope cl N' C s H fp (X.pn ++ pins)) [] (lend js σ) H { s with heap := h1, toks := tk } := by
  have ltC : ∀ b o, s.heap.get? b = some o → b ≠ C := fun b o e => Nat.ne_of_lt (Nat.lt_of_lt_of_le (Heap.lt_size e) hC)
  refine ⟨⟨I.ok.mod, B.kind, I.ok.glob, I.ok.blt, hC, fun y z c e1 e2 => I.ok.inj y z c (B.sub y c e1) (B.sub z c e2), fun y hy => B.has y hy, (fun y c e => nomatch e), I.ok.hd, I.ok.frames, .inl rfl, fun b hb => ?_, I.bs, ?_, fun b o e hb => ?_, fun b hb hs => ?_, I.stack, I.stkFree⟩,
    rfl, I.bare, Un.kept old, ⟨m, hns, fun i y v e1 e2 e3 => ?_⟩, fun y c e => ?_, I.hok.fresh hC, fun y c e => I.freeC y c (B.sub y c e), fun p hp => ?_, I.hok.kept old, ?_, h0⟩
  · obtain ⟨o, e⟩ := fo b hb
    exact ⟨ltC b o e, fun y c q => (f b hb).2.2.2.2.1 y c (B.sub y c q)⟩
  · exact Nat.le_trans I.ok.bsz I.sz
  · rcases (f b hb).2.2.2.1 with z | z
    · exact I.ok.noex b o e z
    · exact absurd (Nat.lt_of_lt_of_le (Heap.lt_size (I.ok.bs b o e).1) z) (Nat.lt_irrefl _)
  · rcases List.mem_cons.mp (I.stkSub b hs) with z | z
    · exact (f b hb).2.1 z
    · exact (f b hb).2.2.1 z
  · have e2' : (lend js σ)[i]? = some _ := e2
    unfold lend at e2'
    rw [List.getElem?_map] at e2'
    cases ej : js[i]? with
    | none => simp_all
    | some o =>
      rw [ej] at e2'
      cases o with
      | none => cases e2'
      | some j =>
        obtain ⟨n1, n2, n3, n4⟩ := B.lent i y j e1 ej
        have es : σ[j]? = some (some v) := by
          grind
        obtain ⟨m0, hn0, hl0⟩ := I.loc
        obtain ⟨u, r, l⟩ := hl0 j y v n1 es n2
        refine ⟨u, r, ?_⟩
        rcases l with ⟨k, _⟩ | ⟨k, c, ec, z⟩
        · exact absurd k n3
        · have k' : (relabel scope X.env).names.lookup y = some .cell ∨ (relabel scope X.env).names.lookup y = some .free := by
            rcases e3 with q | q
            · exact absurd q n4
            · exact q
          obtain ⟨c', ec'⟩ := B.has y k'
          have := B.sub y c' ec'
          rw [ec] at this; cases this
          obtain ⟨oc, hoc, hd⟩ := z
          exact .inr ⟨k', c, ec', oc, old _ _ hoc, hd⟩
  · obtain ⟨v, oc, hoc, hd⟩ := I.cell y c (B.sub y c e)
    exact ⟨v, oc, old _ _ hoc, hd⟩
  · have hp' : p ∈ X.pn ++ pins := by simpa [blk] using hp
    obtain ⟨e, n, ne, nf, d⟩ := I.pin p hp'
    refine ⟨old _ _ e, n, ltC _ _ e, fun hs => ?_, d⟩
    rcases List.mem_cons.mp (I.stkSub _ hs) with z | z
    · exact ne z
    · exact nf z
  · show (lend js σ).length = N'.length
    unfold lend
    rw [List.length_map, B.len]

theorem codeAny_compLoop_any {prog : Program} {w : World} {A : Around} {R : Result → Shared → Prop} {s : Shared} {elt target iter : Expr} {ifs : List Expr} {scope : Scope} {pos : Pos} {it acc : Value} {env : Env} (I : Nat → Shared → Prop)
    (turn : ∀ n s, I n s → wpAny (model prog w) A (pyNext it) (fun r s₁ => match r with
      | none => R (.ok .next) s₁
      | some v => wpAny (model prog w) A (letOwnedTupleGo target it v) (fun _ s₁' => wpAny (model prog w) A (assign target env v) (fun _ s₂ =>
          wpAny (model prog w) A (forIn ifs true fun c r => if r = true then do let ok ← isTrue c env (eval c env); pure (ForInStep.yield ok) else pure (ForInStep.yield r)) (fun ok s₃ =>
            if ok = true then wpAny (model prog w) A (eval elt env) (fun x s₄ =>
              wpAny (model prog w) A (call (.builtin "list.append") [acc, x]) (fun _ s₅ => ∃ m, m < n ∧ I m s₅) (fun _ _ => False) s₄) (fun _ _ => False) s₃
            else ∃ m, m < n ∧ I m s₃) (fun _ _ => False) s₂) (fun _ _ => False) s₁') (fun _ _ => False) s₁) (fun _ _ => False) s)
    (n : Nat) (h : I n s) :
    codeAny (model prog w) A (.compLoop (.ListComp elt [⟨target, iter, ifs, 0⟩] scope pos) 0 it acc env) R s := by
  refine codeAny_loop rfl I (fun n s hI => ?_) n h
  refine wpAny_noted ?_
  refine wpAny_bind (wpAny_standAt (wpAny_bind (wpAny_mono (turn n s hI) (fun r s₁ h₁ => ?_) fun _ _ f => f.elim)))
  cases r with
  | none => exact wpAny_pure h₁
  | some v =>
    refine wpAny_bind (wpAny_mono h₁ (fun _ s₁' h₁' => ?_) fun _ _ f => f.elim)
    refine wpAny_bind (wpAny_mono h₁' (fun _ s₂ h₂ => wpAny_bind (wpAny_mono h₂ (fun ok s₃ h₃ => ?_) fun _ _ f => f.elim)) fun _ _ f => f.elim)
    cases ok with
    | false => exact wpAny_pure ⟨rfl, h₃⟩
    | true =>
      exact wpAny_bind (wpAny_bind (wpAny_mono h₃ (fun x s₄ h₄ => wpAny_bind (wpAny_mono h₄ (fun _ s₅ h₅ => wpAny_pure (wpAny_pure ⟨rfl, h₅⟩)) fun _ _ f => f.elim)) fun _ _ f => f.elim))

def CompGo (J : It) (g : TG) (tf : TT) (te : TE) (Q : VK) (τ0 : L2.St) (H1 : Hp) : Prop := ∃ W : Nat → Nat → List V → L2.St → Hp → Prop, (∃ m, W 0 m [] τ0 H1) ∧ ∀ i m ys τ H, W i m ys τ H →
  (J.stop i H ∧ ∀ p, H p = none → Q (.ref p) (upd H p (.lst ys))) ∨ (J.go i H ∧ ∃ Nx : List V → L2.St → Hp → Prop, (∀ ys' τ' H', Nx ys' τ' H' → ∃ m', m' < m ∧ W (i + 1) m' ys' τ' H') ∧
    ∀ v H', J.yld i H v H' → g v τ H' fun τ2 H2 => tf τ2 H2 fun b H3 => if b = true then te τ2 H3 fun y H4 => ys.length < sizeLine ∧ Nx (ys ++ [y]) τ2 H4 else Nx ys τ2 H3)
def tComp (js : List (Option Nat)) (wi : TI) (g : TG) (tf : TT) (te : TE) : TE := fun σ H Q => wi σ H fun J H1 => CompGo J g tf te Q (lend js σ) H1
theorem comp_core {elt iter tg : Expr} {ifs : List Expr} {scope : Scope} {pos : Pos} {cl : List (Str × Addr)} {N' : List Str} {js : List (Option Nat)} {g : TG} {tf : TT} {te : TE} {RR : Value → Addr → Result → Shared → Prop} {Qv : VK} {E : Value → Shared → Prop} {it : Addr} {fp : List Addr} {tn : Nat → Heap → Prop} {J : It} {H2 : Hp} {s2 : Shared}
    (hc : X.calm = true) (B : Blk X scope cl N' js) (hg : ∀ C s₀ H₀ ex pn, PG (blk X scope cl N' C s₀ H₀ ex pn) tg g) (hf : ∀ C s₀ H₀ ex pn, PF (blk X scope cl N' C s₀ H₀ ex pn) ifs tf) (he : ∀ C s₀ H₀ ex pn, PE (blk X scope cl N' C s₀ H₀ ex pn) elt te)
    (I2 : Inv X pins σ H2 s2) (T : Turn X.prog X.w X.K tg J fp it tn) (st2 : tn 0 s2.heap) (f2 : ∀ b ∈ fp, FpOk X pins H2 b) (cg : CompGo J g tf te Qv (lend js σ) H2)
    (fin : ∀ (Dd Cc : Addr) (m : Str → Option Value) (s4 : Shared) (Hx : Hp), Inv X pins σ Hx s4 → Qv (.ref Dd) Hx → s4.heap.Ns Cc m → Hx Cc = none → Cc ≠ X.env.locals → X.s₀.heap.objs.size ≤ Cc → (∀ x c, X.env.cells.lookup x = some c → c ≠ Cc) → (∀ p ∈ X.pn ++ pins, p.1 ≠ Cc) →
      RR (.ref Dd) Cc (.ok .next) s4) :
    wpAny (model X.prog X.w) X.A (newList []) (fun acc s₃ => wpAny (model X.prog X.w) X.A (newFunctionEnv scope X.env.globals cl [] X.env.qual none .none (some X.env)) (fun cenv s₄ =>
      codeAny (model X.prog X.w) X.A (.compStart (.ListComp elt [⟨tg, iter, ifs, 0⟩] scope pos) 0 (.ref it) acc { cenv with scope := relabel scope X.env }) (RR acc cenv.locals) s₄) E s₃) E s2 := by
  obtain ⟨W, ⟨m0, w0⟩, turn⟩ := cg
  refine wpAny_newObj_type (wpAny_newFunctionEnv B.nocell (by simp_all) (fun h₁ hns₁ hsb₁ => ?_) B.kind)
  dsimp only at hns₁ hsb₁ ⊢
  generalize hG : s2.heap.push { cls := .type "list", dict := none, data := .seq ([] : List Value).toArray } = G at hns₁ hsb₁ ⊢
  have hC : G.objs.size = s2.heap.objs.size + 1 := by rw [← hG, Heap.size_push]
  have hDC : s2.heap.objs.size ≠ G.objs.size := by simp_all
  have below : ∀ b, b < s2.heap.objs.size → b ≠ G.objs.size ∧ b ≠ s2.heap.objs.size := fun b hb => ⟨by grind, Nat.ne_of_lt hb⟩
  have old : ∀ b o, s2.heap.get? b = some o → h₁.get? b = some o := fun b o e => hsb₁.extBut b o (below b (Heap.lt_size e)).1 (Heap.get?_push_of_some _ (hG ▸ Heap.get?_push_of_some _ e))
  have hacc : h₁.get? s2.heap.objs.size = some (lobj []) := hsb₁.extBut _ _ hDC (Heap.get?_push_of_some _ (hG ▸ Heap.get?_push_size _ rfl))
  have fo : ∀ b ∈ fp, ∃ o, s2.heap.get? b = some o := fun b hb => let ⟨o, e, _⟩ := T.obj 0 _ st2 b hb; ⟨o, e⟩
  have I4 := blk_inv (tk := s2.toks + ([] : List (Str × Value)).length) B I2 f2 fo old hns₁ (by simp_all)
  generalize hD : s2.heap.objs.size = Dd at *
  generalize hCC : G.objs.size = Cc at *
  have st4 : tn 0 h₁ := T.keep 0 _ _ st2 fun b _ o e => old b o e
  have fpne : ∀ b ∈ fp, b ≠ Dd := fun b hb => let ⟨o, e⟩ := fo b hb; by rw [← hD]; exact Nat.ne_of_lt (Heap.lt_size e)
  have hDfree : H2 Dd = none := I2.hok.fresh (by simp_all)
  have hDfs : Dd ∉ frs X.stack := fun hb => by
    rcases List.mem_cons.mp (I2.stkSub _ hb) with z | z
    · have := I2.lt; simp_all
    · exact I2.nofs (by simp_all) z
  have hDcell : ∀ x c, X.env.cells.lookup x = some c → c ≠ Dd := fun x c e z => by
    obtain ⟨v, q⟩ := I2.cell x c e
    have := q.lt
    simp_all
  have hDpin : ∀ p ∈ X.pn ++ pins, p.1 ≠ Dd := fun p hp z => by
    have := Heap.lt_size (I2.pin p hp).1
    simp_all
  -- the block's context
  generalize hXb : blk X scope cl N' Cc s2 H2 fp (X.pn ++ pins) = Xb at I4
  have xP : Xb.prog = X.prog := by rw [← hXb]; rfl
  have xW : Xb.w = X.w := by rw [← hXb]; rfl
  have xK : Xb.K = X.K := by rw [← hXb]; rfl
  have xA : Xb.A = X.A := by rw [← hXb]; rfl
  have xC : Xb.calm = true := by rw [← hXb]; exact hc
  have xL : Xb.env.locals = Cc := by rw [← hXb]; rfl
  have xFs : Xb.fs = frs X.stack := by rw [← hXb]; rfl
  have xEx : Xb.ex = fp := by rw [← hXb]; rfl
  have xPn : Xb.pn = X.pn ++ pins := by rw [← hXb]; rfl
  have xS : Xb.s₀ = s2 := by rw [← hXb]; rfl
  have xH : Xb.H₀ = H2 := by rw [← hXb]; rfl
  have xCl : ∀ y c, Xb.env.cells.lookup y = some c → X.env.cells.lookup y = some c := by rw [← hXb]; exact B.sub
  have xE : Xb.env = compEnvC scope cl Cc X.env := by rw [← hXb]; rfl
  have xX : Xb.xe = fun _ _ => False := by rw [← hXb]; rfl
  have hg' : PG Xb tg g := by grind
  have hf' : PF Xb ifs tf := by grind
  have he' : PE Xb elt te := by grind
  have fok : ∀ {H' : Hp} {o : Obj}, (∀ b ∈ fp, H' b = none) → ∀ b ∈ fp, FpOk Xb [(Dd, o)] H' b := fun {H' o} hn b hb => by
    obtain ⟨o', e'⟩ := fo b hb
    refine ⟨hn b hb, ?_, ?_, .inl (by grind), fun y c q => (f2 b hb).2.2.2.2.1 y c (xCl y c q), fun p hp => ?_⟩
    · rw [xL]; exact (below b (by have := Heap.lt_size e'; rw [hD] at this; exact this)).1
    · rw [xFs]
      intro hs
      rcases List.mem_cons.mp (I2.stkSub b hs) with z | z
      · exact (f2 b hb).2.1 z
      · exact (f2 b hb).2.2.1 z
    · rw [xPn] at hp
      rcases List.mem_append.mp hp with z | z
      · exact (f2 b hb).2.2.2.2.2 p z
      grind
  have hDC' : Dd ≠ Cc := by lia
  have loop : codeAny (model X.prog X.w) X.A (.compLoop (.ListComp elt [⟨tg, iter, ifs, 0⟩] scope pos) 0 (.ref it) (.ref Dd) (compEnvC scope cl Cc X.env)) (RR (.ref Dd) Cc)
      { s2 with heap := h₁, toks := s2.toks + ([] : List (Str × Value)).length } := by
    refine codeAny_compLoop_any (fun n s' => ∃ i ys τ H' its, Inv Xb [(Dd, lobj its)] τ H' s' ∧ tn i s'.heap ∧ (∀ b ∈ fp, H' b = none) ∧ Vals ys its ∧ ys.length ≤ sizeLine ∧ W i n ys τ H') ?_ m0
      ⟨0, [], _, H2, [], I4.pins_of (fun p hp => ?_), st4, fun b hb => (f2 b hb).1, .nil, Nat.zero_le _, w0⟩
    · rintro n s3 ⟨i, ys, τ, H3, its, I3, st3, fr3, hv, hz, w3⟩
      have pD := I3.pin (Dd, lobj its) (List.mem_append_right _ (List.mem_singleton.mpr rfl))
      rcases turn i n ys τ H3 w3 with ⟨stop, qn⟩ | ⟨go, Nx, hN, step⟩
      · have hd := T.done Xb xP xW xK xC i _ s3 τ H3 (fun _ _ => False) I3 (fok fr3) st3 stop
        rw [xA] at hd
        refine thn hd fun r s4 ⟨hr, I5⟩ => ?_
        subst hr
        obtain ⟨m, hn, _⟩ := id I5.loc
        rw [xL] at hn
        have pD5 := I5.pin _ (List.mem_append_right _ (List.mem_singleton.mpr rfl))
        have ub := I5.base
        rw [xFs, xEx, xS, xH] at ub
        have hfC  := by have := I5.free; rw [xL] at this; exact this
        have ok5  := by have := I5.hok; rw [xP, xW] at this; exact this
        have IX  := I2.call' (by rw [I5.os, xS]) ub ok5 I5.bare (fun b hb => ⟨(f2 b hb).2.2.2.1, (f2 b hb).2.1, (f2 b hb).2.2.2.2.1, (f2 b hb).2.2.2.2.2⟩) I5.tk
        have hlo : X.s₀.heap.objs.size ≤ Dd := by rw [← hD]; exact I2.sz
        have hloL : Dd ≠ X.env.locals := fun z => by have := I2.lt; grind
        have hCD : Dd ≤ Cc := by omega
        refine fin Dd Cc m s4 (upd H3 Dd _) (L3.Inv.track IX pD5.2.1 pD5.1 hv hz (.inr hlo) hloL hDcell hDpin) (qn Dd pD5.2.1) hn (by rw [upd_ne hDC'.symm]; exact hfC) ?_ (Nat.le_trans hlo hCD) ?_ ?_
        · have := I2.lt; grind
        · intro x c e z
          obtain ⟨v, q⟩ := I2.cell x c e
          have := q.lt
          grind
        · intro p hp z
          have := Heap.lt_size (I2.pin p hp).1
          grind
      · have hit := T.item Xb xP xW xK xC i [(Dd, lobj its)] s3 τ H3 (fun _ _ => False) I3 (fok fr3) st3 go
        rw [xA] at hit
        refine thn hit fun r s4 ⟨u, hr, h4⟩ => ?_
        subst hr
        refine thn h4 fun _ s5 ⟨x, H5, I5, r5, y5, st5, fr5⟩ => ?_
        have I5' := I5.pinned (fok fr5) (T.obj _ _ st5)
        have ga := hg' _ s5 τ H5 x u _ I5' r5 (step x H5 y5)
        rw [xP, xW, xA, xE, xX] at ga
        refine thn ga fun _ s6 ⟨τ6, H6, I6, q6⟩ => ?_
        have fa := hf' _ s6 τ6 H6 _ I6 q6
        rw [xP, xW, xA, xE, xX] at fa
        refine thn fa fun ok s7 ⟨H7, I7, q7⟩ => ?_
        have back : ∀ {τ8 : L2.St} {H8 : Hp} {s8 : Shared}, Inv Xb ([(Dd, lobj its)] ++ pinsAt fp s5.heap) τ8 H8 s8 → tn (i + 1) s8.heap ∧ (∀ b ∈ fp, H8 b = none) := fun {τ8 H8 s8} I8 =>
          ⟨T.keep _ _ _ st5 fun b hb o e => (I8.pin (b, o) (List.mem_append_right _ (List.mem_append_right _ (mem_pinsAt hb e)))).1, fun b hb => by
            obtain ⟨o, e, d⟩ := T.obj _ _ st5 b hb
            exact (I8.pin _ (List.mem_append_right _ (List.mem_append_right _ (mem_pinsAt hb e)))).2.1⟩
        cases ok with
        | false =>
          obtain ⟨m', hm, w7⟩ := hN _ _ _ q7
          obtain ⟨b1, b2⟩ := back I7
          exact ⟨m', hm, i + 1, ys, τ6, H7, its, I7.unpinned, b1, b2, hv, hz, w7⟩
        | true =>
          rw [if_pos rfl] at q7 ⊢
          have ea := he' _ s7 τ6 H7 _ I7 q7
          rw [xP, xW, xA, xE, xX] at ea
          refine thn ea fun yv s8 ⟨y, H8, I8, r8, hlt, n8⟩ => ?_
          have pD8 := I8.pin _ (List.mem_append_right _ (List.mem_append_left _ (List.mem_singleton.mpr rfl)))
          have hil  := hv.length.symm
          refine append_at pD8.1 fun h' hs' ho' => ?_
          obtain ⟨m', hm, w8⟩ := hN _ _ _ n8
          obtain ⟨b1, b2⟩ := back I8
          have J1 : Inv Xb [] τ6 H8 s8 := I8.pins_of (fun p hp => nomatch hp)
          have J2 : Inv Xb [] τ6 H8 _ := J1.turned (t' := s8.toks) (fun b o hb e => (hs'.2 b hb).trans e) pD8.2.1 pD8.2.2.1 (.inr (by lia)) (fun y c q => hDcell y c (xCl y c q)) fun p hp => by
            grind
          refine ⟨m', hm, i + 1, ys ++ [y], τ6, H8, its ++ [yv], J2.pins_of fun p hp => ?_, T.keep _ _ _ b1 fun b hb o e => (hs'.2 b (fpne b hb)).trans e, b2, hv.append (.cons r8 .nil), by grind, w8⟩
          grind
    · grind
  exact codeAny_compStart_list loop (T.self X.A 0 _ _ _ st4 loop)

theorem pe_comp {elt iter tg : Expr} {ifs : List Expr} {scope : Scope} {pos : Pos} {cl : List (Str × Addr)} {N' : List Str} {js : List (Option Nat)} {wi : TI} {g : TG} {tf : TT} {te : TE} (hc : X.calm = true) (B : Blk X scope cl N' js) (hi : PI X tg iter wi)
    (hg : ∀ C s₀ H₀ ex pn, PG (blk X scope cl N' C s₀ H₀ ex pn) tg g) (hf : ∀ C s₀ H₀ ex pn, PF (blk X scope cl N' C s₀ H₀ ex pn) ifs tf) (he : ∀ C s₀ H₀ ex pn, PE (blk X scope cl N' C s₀ H₀ ex pn) elt te)
    (hs : ∀ x, foldedSetIterable iter X.env x = pure x := by intro _; rfl) : PE X (.ListComp elt [⟨tg, iter, ifs, 0⟩] scope pos) (tComp js wi g tf te) := by
  intro pins s σ H Q I h
  refine wpAny_comprehension_free rfl hs B.clos B.kind B.names (thn (hi pins s σ H _ I h) fun xv s1 h1 => thn h1 fun itv s2 h2 => ?_)
  obtain ⟨it, fp, tn, J, H2, e, I2, T, st2, f2, cg⟩ := h2
  subst e
  refine comp_core (RR := fun acc C => compPost (model _ X.w) X.A X.xe none _ acc C) hc B hg hf he I2 T st2 f2 cg ?_
  intro Dd Cc m s4 Hx IX q hn hC cL cS cC cP
  refine ⟨m, hn, fun h' hs' => ⟨.ref Dd, Hx, ?_, rfl, q⟩⟩
  exact IX.turned (fun b o hb e => (hs'.2 b hb).trans e) hC cL (.inr cS) cC cP
end
/-! ### a block from checks -/
noncomputable def capt (env : Env) : List (Str × NameKind) → List (Str × Addr) → List (Str × Addr)
  | [], acc => acc
  | (n, k) :: r, acc => capt env r (if k == .free then (match env.cells.lookup n with | some c => (n, c) :: acc | none => acc) else acc)
theorem lookup_cons' {n y : Str} {c : Addr} {acc : List (Str × Addr)} : ((n, c) :: acc).lookup y = if y == n then some c else acc.lookup y := by
  grind
theorem capt_sub {env : Env} : ∀ (names : List (Str × NameKind)) (acc : List (Str × Addr)), (∀ y c, acc.lookup y = some c → env.cells.lookup y = some c) → ∀ y c, (capt env names acc).lookup y = some c → env.cells.lookup y = some c
  | [], acc, h, y, c, e => h y c e
  | (n, k) :: r, acc, h, y, c, e => by
    refine capt_sub r _ (fun y c q => ?_) y c e
    split at q
    · split at q
      · rw [lookup_cons'] at q
        split at q
        · simp_all
        · exact h y c q
      · exact h y c q
    · exact h y c q
theorem capt_keep {env : Env} {y : Str} : ∀ (names : List (Str × NameKind)) (acc : List (Str × Addr)), (∃ c, acc.lookup y = some c) → ∃ c, (capt env names acc).lookup y = some c
  | [], acc, h => h
  | (n, k) :: r, acc, h => by
    refine capt_keep r _ ?_
    split
    · split
      · grind
      · exact h
    · exact h
theorem capt_has {env : Env} {y : Str} (hy : (env.cells.lookup y).isSome = true) : ∀ (names : List (Str × NameKind)) (acc : List (Str × Addr)), (y, NameKind.free) ∈ names → ∃ c, (capt env names acc).lookup y = some c
  | (n, k) :: r, acc, h => by
    rcases List.mem_cons.mp h with z | z
    · refine capt_keep r _ ?_
      obtain ⟨c, hc⟩ := Option.isSome_iff_exists.mp hy
      simp_all
    · exact capt_has hy r _ z
theorem relabel_free {scope : Scope} {env : Env} {y : Str} (h0 : ∀ z ∈ scope.names, z.2 ≠ .cell) (h : (relabel scope env).names.lookup y = some .cell ∨ (relabel scope env).names.lookup y = some .free) : (y, NameKind.free) ∈ scope.names := by
  have mem : ∃ k, (k = NameKind.cell ∨ k = NameKind.free) ∧ (y, k) ∈ (relabel scope env).names := by
    rcases h with h | h
    · exact ⟨_, .inl rfl, PySem.mem_of_lookup h⟩
    · exact ⟨_, .inr rfl, PySem.mem_of_lookup h⟩
  obtain ⟨k, hk, hm⟩ := mem
  unfold relabel at hm
  grind
noncomputable def chkFree (scope : Scope) (env : Env) : Bool := scope.names.all fun y => y.2 != .free || (env.cells.lookup y.1).isSome
noncomputable def chkLent (X : Cx) (scope : Scope) : List Str → List (Option Nat) → Bool
  | [], [] => true
  | y :: N, o :: js => (match o with
    | none => true
    | some j => X.N[j]? == some y && (X.env.scope.names.lookup y == some .cell || X.env.scope.names.lookup y == some .free) && (relabel scope X.env).names.lookup y != some .local) && chkLent X scope N js
  | _, _ => false
theorem chkLent_at {X : Cx} {scope : Scope} : ∀ {N : List Str} {js : List (Option Nat)}, chkLent X scope N js = true → js.length = N.length ∧ ∀ (i : Nat) y j, N[i]? = some y → js[i]? = some (some j) → X.N[j]? = some y ∧ Vis X.env.scope y ∧ X.env.scope.names.lookup y ≠ some .local ∧ (relabel scope X.env).names.lookup y ≠ some .local
  | [], [], _ => ⟨rfl, fun i y j h => by simp at h⟩
  | [], _ :: _, h => by simp [chkLent] at h
  | _ :: _, [], h => by simp [chkLent] at h
  | z :: N, o :: js, h => by
    unfold chkLent at h
    rw [Bool.and_eq_true] at h
    obtain ⟨l, t⟩ := chkLent_at h.2
    refine ⟨by simp_all, fun i y j h1 h2 => ?_⟩
    cases i with
    | zero =>
      simp at h1 h2
      subst h1 h2
      have h' := h.1
      simp only [Bool.and_eq_true, Bool.or_eq_true, beq_iff_eq, bne_iff_ne] at h'
      refine ⟨h'.1.1, ?_, ?_, h'.2⟩
      · rcases h'.1.2 with q | q
        · exact .inr (.inl q)
        · exact .inr (.inr q)
      lia
    | succ i => exact t i y j (by assumption) (by assumption)
theorem blk_mk {X : Cx} {scope : Scope} {N' : List Str} {js : List (Option Nat)} (clos : closureFor scope X.env = pure (capt X.env scope.names [])) (nocell : ∀ y ∈ scope.names, y.2 ≠ .cell) (kind : scope.kind = .function)
    (names : ∀ y ∈ scope.names, y.2 = .local → scope.names.lookup y.1 = some .local) (free : chkFree scope X.env = true) (lent : chkLent X scope N' js = true) : Blk X scope (capt X.env scope.names []) N' js where
  clos := clos
  nocell := nocell
  kind := kind
  names := names
  sub := capt_sub _ _ fun y c e => nomatch e
  has := fun y h => by
    have hm := relabel_free nocell h
    have hf := List.all_eq_true.mp free _ hm
    exact capt_has (by assumption) _ _ hm
  len := (chkLent_at lent).1
  lent := (chkLent_at lent).2
theorem comp_list {K : PySem.W.Frag} {a : Addr} {xs : List V} {g : TG} {tf : TT} {te : TE} {τ : L2.St} {H : Hp} {Q : VK} (Pv : Nat → List V → L2.St → Hp → Prop) (h0 : Pv 0 [] τ H) (hl : ∀ i ys τ H, Pv i ys τ H → SqL K H a xs)
    (hs : ∀ i x ys τ H, xs[i]? = some x → Pv i ys τ H → g x τ H fun τ2 H2 => tf τ2 H2 fun b H3 => if b = true then te τ2 H3 fun y H4 => ys.length < sizeLine ∧ Pv (i + 1) (ys ++ [y]) τ2 H4 else Pv (i + 1) ys τ2 H3)
    (hd : ∀ ys τ H, Pv xs.length ys τ H → ∀ p, H p = none → Q (.ref p) (upd H p (.lst ys))) :
    CompGo (Itl K a) g tf te Q τ H := by
  refine ⟨fun i m ys τ H => m = xs.length - i ∧ i ≤ xs.length ∧ Pv i ys τ H, ⟨xs.length, by simp, Nat.zero_le _, h0⟩, ?_⟩
  rintro i m ys τ H ⟨rfl, hi, p⟩
  have q := hl i ys τ H p
  by_cases hlt : i < xs.length
  · refine .inr ⟨⟨xs, xs[i], q, by simp [hlt]⟩, Pv _, fun ys' τ' H' p' => ⟨xs.length - (i + 1), by omega, rfl, hlt, p'⟩, fun x H' y => ?_⟩
    obtain ⟨e, y⟩ := y
    subst e
    exact hs i x ys τ _ (y xs q) p
  · have e : i = xs.length := by omega
    subst e
    exact .inl ⟨⟨xs, q, Nat.le_refl _⟩, hd ys τ H p⟩
end L3

/-! try: y = f(..) / except S as n: z = n -/
namespace L3
open PySem PySem.Spec PyProof.Rows L2
noncomputable abbrev sui (X : Cx) (v : Value) : Cx := { X with A := X.A.mark (some v), calm := false, xe := fun _ _ => False }
section
variable {X : Cx} {pins : List (Addr × Obj)} {σ : L2.St} {H : Hp} {s : Shared}
theorem Inv.suite (I : Inv X pins σ H s) (v : Value) : Inv (sui X v) pins σ H s :=
  ⟨⟨I.ok.mod, I.ok.kind, I.ok.glob, I.ok.blt, I.ok.above, I.ok.inj, I.ok.has, I.ok.cab, (fun h => nomatch h), I.ok.frames, I.ok.stk, I.ok.exf, I.ok.bs, I.ok.bsz, I.ok.noex, I.ok.exfs, I.ok.funs, I.ok.frf⟩, I.os, I.bare, I.base, I.loc, I.cell, I.free, I.freeC, I.pin, I.hok, I.len, I.tk⟩
theorem Inv.unsuite {v : Value} (ok : X.Ok) (I : Inv (sui X v) pins σ H s) : Inv X pins σ H s :=
  ⟨ok, I.os, I.bare, I.base, I.loc, I.cell, I.free, I.freeC, I.pin, I.hok, I.len, I.tk⟩
theorem Inv.trackX {x C : Addr} (I : Inv X pins σ H s) (hx : H x = none) (c : XAt x C s.heap) (h0 : X.s₀.heap.get? x = none) (h1 : x ≠ X.env.locals) (h2 : ∀ y a, X.env.cells.lookup y = some a → a ≠ x) (h3 : ∀ p ∈ X.pn ++ pins, p.1 ≠ x) : Inv X pins σ (upd H x (Exc x C)) s := by
  have old : ∀ b u, H b = some u → upd H x (Exc x C) b = some u := fun b u e => by rw [upd_ne (ne_of_none e hx)]; exact e
  refine ⟨I.ok, I.os, I.bare, ⟨I.base.keep, I.base.slot, fun b o e n hb => ?_, I.base.there, fun b xs e => old b _ (I.base.tups b xs e), fun b o u e => old b _ (I.base.frzs b o u e), fun b ps e => ?_⟩, I.loc, I.cell, by rw [upd_ne h1.symm]; exact I.free, fun y a e => by rw [upd_ne (h2 y a e)]; exact I.freeC y a e, fun p hp => ?_, fun b u e => ?_, I.len, I.tk⟩
  · rw [upd_ne (fun z => by simp_all)]
    exact I.base.free b o e n hb
  · obtain ⟨m, e1⟩ := I.base.tbls b ps e
    grind
  · obtain ⟨a1, a2, a3⟩ := I.pin p hp
    exact ⟨a1, by rw [upd_ne (h3 p hp)]; exact a2, a3⟩
  · by_cases hb : b = x
    · subst hb
      rw [upd_same] at e; cases e
      exact exc_ok c
    · rw [upd_ne hb] at e
      exact (I.hok b u e).stay (fun _ _ _ q => q) (fun a q => old a _ q) fun a xs q => old a _ q
theorem goes_ok {M : Model} {A : Around} {E : Value → Shared → Prop} {i : Nat} {n : Str} {pos : Pos} {Q : Unit → Shared → Prop} (I : Inv X pins σ H s) (hN : X.N.Nodup) (hi : X.N[i]? = some n) (hk : X.env.scope.names.lookup n = some .local)
    (h : ∀ s', Inv X pins (σ.set i none) H s' → Q () s') : wpAny M A (do bindName X.env n .none; unbindBehindTheSuite X.env n pos) Q E s := by
  obtain ⟨m, hn, hl⟩ := id I.loc
  have hcls : (X.env.scope.kind == .class || (X.env.scope.kind == .module && X.env.locals != X.env.globals)) = false := by rw [I.ok.kind]; rfl
  have hiσ : i < σ.length := by rw [I.len]; grind
  have cne := I.cne
  refine wpAny_nameGoes_keeps hk hn hcls fun h' v hn' hs => h _ ?_
  have bel : ∀ {b : Addr} {o : Obj}, X.s₀.heap.get? b = some o → b ≠ X.env.locals := fun e => Nat.ne_of_lt (Nat.lt_of_lt_of_le (Heap.lt_size e) I.ok.above)
  refine ⟨I.ok, I.os, I.bare, ⟨fun b o e n hb hx => (hs.2 b (bel e)).trans (I.base.keep b o e n hb hx), fun b o e n hb hx => ?_, I.base.free, fun b o e hx => ?_, I.base.tups, I.base.frzs, I.base.tbls⟩, ⟨_, hn', fun j y v' e1 e2 e3 => ?_⟩, fun y c e => ?_, I.free, I.freeC, fun p hp => ?_, fun b ob e => ?_, by simpa using I.len, by first | exact I.tk | exact Nat.succ_pos _⟩
  · obtain ⟨sl, e1⟩ := I.base.slot b o e n hb hx
    exact ⟨sl, (hs.2 b (bel e)).trans e1⟩
  · obtain ⟨o', e1⟩ := I.base.there b o e hx
    exact ⟨o', (hs.2 b (bel e)).trans e1⟩
  · by_cases hj : j = i
    · simp_all
    · rw [List.getElem?_set_ne (Ne.symm hj)] at e2
      obtain ⟨u', r', q⟩ := hl j y v' e1 e2 e3
      refine ⟨u', r', ?_⟩
      rcases q with ⟨k, e⟩ | ⟨k, c, e, z⟩
      · refine .inl ⟨k, ?_⟩
        have : y ≠ n := fun e => hj (nodup_ix hN e1 (e ▸ hi))
        simp_all
      · exact .inr ⟨k, c, e, z.sameBut hs (cne y c e)⟩
  · obtain ⟨w', z⟩ := I.cell y c e
    exact ⟨w', z.sameBut hs (cne y c e)⟩
  · obtain ⟨e, n, ne, nf, d⟩ := I.pin p hp
    exact ⟨(hs.2 _ ne).trans e, n, ne, nf, d⟩
  · refine (I.hok b ob e).stay (fun c w' hc q => (hs.2 c ?_).trans q) (fun _ q => q) fun _ _ q => q
    rintro rfl
    rcases hc with rfl | hc
    · rw [I.free] at e; cases e
    · rw [I.free] at hc; cases hc
structure Clause (K : PySem.W.Frag) (mg : Str → Option Value) (x : Str) (S : Addr) : Prop where
  nm : mg x = some (.ref S)
  ty : PySem.W.typeIn K (.ref S) = some (.type "type")
  cl : (PySem.W.clsIn K S).isSome = true
  bs : PySem.W.mroIn K S (.type "BaseException") = some true
def tTry (K : PySem.W.Frag) (S : Addr) (iy iz ie : Nat) (sp : Sp) (t : TA) : TS := fun D σ H => t σ H fun vs H1 => sp vs H1 (fun v H2 => D.nx (σ.set iy (some v)) H2)
  fun c _ H2 => ∃ C, c = .ref C ∧ PySem.W.mroIn K C (.ref S) = some true ∧ ∀ x, H2 x = none → D.nx (((σ.set ie (some (.ref x))).set iz (some (.ref x))).set ie none) (upd H2 x (Exc x C))
theorem ps_try1 {x y z n S : Str} {SA : Addr} {iy iz ie : Nat} {ps : List Str} {k k' : Nat} {sp : Sp} {fp yp cp ap spp np zp zap hp pos : Pos} {e : Expr} {es : List Expr} {t : TA} (hxe : X.xe = fun _ _ => False) (C : Cal1 X.prog X.w X.K X.mg X.base x ps k sp) (hr : Room k' X.A) (hk : k ≤ k') (hg : Gl X x)
    (ha : PA X (e :: es) t) (cl : Clause X.K X.mg S SA) (hgS : Gl X S) (hst : X.stack = X.env :: X.outer) (hfm : X.env.frame = some X.env.locals) (hex : X.ex = []) (hN : X.N.Nodup) (hy : X.N[iy]? = some y) (hz : X.N[iz]? = some z) (hn : X.N[ie]? = some n)
    (ly : Loc X.env.scope y) (lz : Loc X.env.scope z) (ln : X.env.scope.names.lookup n = some .local) (hie : ie ≠ iz)
    (fy : X.fn y = true ∨ X.env.scope.names.lookup y = some .local := by first | exact .inl rfl | exact .inr rfl | assumption) (fz : X.fn z = true ∨ X.env.scope.names.lookup z = some .local := by first | exact .inl rfl | exact .inr rfl | assumption)
    (hdb : (x == ("__debug__" : Str)) = false := by decide) (hdS : (S == ("__debug__" : Str)) = false := by decide) (hdn : (n == ("__debug__" : Str)) = false := by decide) (hcn : (n == ("__classdict__" : Str)) = false := by decide)
    (he : starEach (e :: es) X.env = (false, eval e X.env) :: starEach es X.env := by rfl) (hpl : (backTo cp (starEach es X.env)).any (·.1) = false := by rfl)
    (hsw : swapsWith (.Call (.Name x fp) (e :: es) [] cp) (some (.Name y yp)) ap.line X.env = pure false := by rfl) (hsz : swapsWith (.Name n np) (some (.Name z zp)) zap.line X.env = pure false := by rfl) :
    PS X (.Try [.Assign [.Name y yp] (.Call (.Name x fp) (e :: es) [] cp) ap] [.ExceptHandler (some (.Name S spp)) (some n) [.Assign [.Name z zp] (.Name n np) zap] hp] [] [] pos) (tTry X.K SA iy iz ie sp t) := by
  intro pins s σ H D I h
  obtain ⟨f, fd, F, b, kp, hm⟩ := C
  refine wpAny_Try_except (wpAny_execs_cons (wpAny_Assign_Name ?_ hsw))
  refine wpAny_Call_Name_kw (ld_glob I hg hm ?_ hdb)
  have run := ha cp pins s σ H _ I h
  rw [hxe] at run
  refine PySem.W.callWith_K I.ok.mod.kin kp (toE (thn run fun us s1 ⟨vs, H1, I1, r, q⟩ => ⟨I1.kIn, ?_⟩)) he hpl
  have hl : us.length = ps.length := by rw [← r.length]; exact F.len _ _ _ _ q
  refine wpAny_call (codeTk I1.tk (codeAny_mono (F.run X.A _ s1 H1 _ _ vs _ _ (hr.mono hk) I1.env0 (b s1 us I1.kIn (by simp_all)) (by simp_all) q) fun r' s2 hq h0 => ?_))
  cases r' with
  | ok fl =>
    cases fl with
    | ret u =>
      obtain ⟨v, H2, I2, rv, hv⟩ := I1.after h0 hq
      exact store_ok I2 hN hy ly rv (fun s3 I3 => wpAny_execs_nil (wpAny_execs_nil ⟨_, H2, I3, hv⟩)) fy
    | next => assumption
    | brk => assumption
    | cont => assumption
  | error ev =>
    obtain ⟨xa, C, H2, B, rfl, Fl, C', hC, hsub, hE⟩ := hq
    cases hC
    obtain ⟨ta, fl⟩ := Fl.fl
    have hfr : X.A.frames = some (X.env :: X.outer) := by rw [← hst]; exact I.ok.frames
    have fl' := fl
    rw [hst] at fl'
    have hxl : xa ≠ X.env.locals := fun z => by
      obtain ⟨m, ⟨o, es', ep, e', _⟩, _⟩ := I1.loc
      rw [← z, Fl.new] at e'; cases e'
    have hxc : ∀ y a, X.env.cells.lookup y = some a → a ≠ xa := fun y a e' z => by
      obtain ⟨v, o, ho, _⟩ := I1.cell y a e'
      rw [z, Fl.new] at ho; cases ho
    have hxp : ∀ p ∈ X.pn ++ pins, p.1 ≠ xa := fun p hp z => by
      have := (I1.pin p hp).1
      rw [z, Fl.new] at this; cases this
    have inv_at : ∀ (h' : Heap), B.StaysIn h' → s2.heap.UpToSlots h' → Inv X pins σ H2 _ := fun h' k1 k2 => by
      obtain ⟨un, hok⟩ := Fl.turn k1 k2
      exact I1.call' (s' := { s2 with heap := h' }) Fl.os un hok Fl.bare (fun b z => absurd z (by simp)) h0
    refine wpAny_looks_onW hfr hfm fl' fun h4 held4 up4 => ?_
    refine wpAny_landsW held4 fun h5 fl5 up5 => ?_
    have up45 := up4.trans up5
    have I5 := inv_at h5 fl5.1 up45
    have c5 : XAt xa C h5 := by obtain ⟨o, e1, e2⟩ := fl5.there; exact ⟨o, e1, e2⟩
    refine wpAny_handleBy_cons (codeAny_handlers_test (ld_glob (X := sui X _) (Inv.suite I5 _) hgS cl.nm ?_ hdS)) (by intro q; cases q)
    refine x_matches I5.kIn c5 cl.ty cl.cl cl.bs hsub ?_
    refine codeAny_handlers_suite_as (lands_againW fl5 fun h6 fl6 up6 => ?_)
    have I6 := inv_at h6 fl6.1 (up45.trans up6)
    have c6 : XAt xa C h6 := by obtain ⟨o, e1, e2⟩ := fl6.there; exact ⟨o, e1, e2⟩
    have x0 : X.s₀.heap.get? xa = none := by
      cases e' : X.s₀.heap.get? xa with
      | none => rfl
      | some o =>
        obtain ⟨o', e1⟩ := I1.base.there xa o e' (by simp_all)
        rw [Fl.new] at e1; cases e1
    have I7 := Inv.trackX I6 Fl.xf c6 x0 hxl hxc hxp
    refine store_ok (X := sui X (.ref xa)) (Inv.suite I7 _) hN hn (.inl ln) (v := .ref xa) rfl (fun s8 I8 => ?_) (.inr ln)
    have suite : PSs (sui X (.ref xa)) [.Assign _ _ zap] (tAsg _ _) := pss_one (ps_set hN hz lz (pe_var hn (.inl ln) hdn hcn) hsz fz)
    have hiσ : ie < σ.length := by rw [I.len]; grind
    have go := suite pins s8 _ _ { nx := fun σ' H' => σ' = (σ.set ie (some _)).set iz (some _) ∧ H' = upd H2 xa _, rt := fun _ _ => False } I8 ⟨_, List.getElem?_set_self hiσ, rfl, rfl⟩
    refine toE (wpAny_mono go (fun f s9 hf => ?_) fun _ _ z => z)
    cases f with
    | next =>
      obtain ⟨σ9, H9, I9, rfl, rfl⟩ := hf
      exact goes_ok (Inv.unsuite I.ok I9) hN hn ln fun s10 I10 => ⟨_, _, I10, hE xa Fl.xf⟩
    | ret u => obtain ⟨_, _, _, _, _, z⟩ := hf; exact z.elim
    | brk => obtain ⟨_, _, _, z⟩ := hf; exact z.elim
    | cont => obtain ⟨_, _, _, z⟩ := hf; exact z.elim
end
end L3

/-! the fragment named outright, everywhere: the readings are shorter so. -/
namespace L3
open PySem PySem.Spec PyProof.Rows L2
theorem kPI {X : Cx} {K : PySem.W.Frag} {tg it : Expr} (f : PySem.W.Frag → TI) (h : PI X tg it (f X.K)) (e : X.K = K := by rfl) : PI X tg it (f K) := e ▸ h
theorem kPE {X : Cx} {K : PySem.W.Frag} {ex : Expr} (f : PySem.W.Frag → TE) (h : PE X ex (f X.K)) (e : X.K = K := by rfl) : PE X ex (f K) := e ▸ h
theorem kPG {X : Cx} {K : PySem.W.Frag} {tg : Expr} (f : PySem.W.Frag → TG) (h : PG X tg (f X.K)) (e : X.K = K := by rfl) : PG X tg (f K) := e ▸ h
theorem kCall {X : Cx} {K : PySem.W.Frag} {f : Value} (r : PySem.W.Frag → List V → Hp → VK → Prop) (h : CallR X f (r X.K)) (e : X.K = K := by rfl) : CallR X f (r K) := e ▸ h
def rLo (K : PySem.W.Frag) : List V → Hp → VK → Prop := fun xs H Q => ∃ p ys, xs = [.ref p] ∧ (SqL K H p ys ∨ SqT K H p ys) ∧ ∀ l, H l = none → Q (.ref l) (upd H l (.lst ys))
def rIsX (K : PySem.W.Frag) : List V → Hp → VK → Prop := fun xs H Q => ∃ x C y u b, xs = [.ref x, y] ∧ H x = some (Exc x C) ∧ XCls K C ∧ clsV y = some u ∧ PySem.W.kitOne K (.ref C) u = some b ∧ Q (.bl b) H
end L3

/-! Dicts: setdefault, get; keys that are numbers, texts, or tuples of these. -/
namespace L3
open PySem PySem.Spec PyProof.Rows L2
section
variable {prog : Program} {w : World} {κ : Type} [DecidableEq κ] {knd : HeapKind prog w κ} {A : Around} {E : Value → Shared → Prop} {s : Shared}
theorem sd_heap {d a : Addr} {xs : List (κ × Addr × Value)} {k : κ} {v : Value} {Q : Value → Shared → Prop} (hu : knd.room A) (hkey : knd.is s.heap k a) (hm : s.heap.DictOfH knd d xs) (hsz : xs.length ≤ sizeLine)
    (h1 : ∀ p, atKey xs k = some p → Q p.2 { s with toks := s.toks + knd.draws k })
    (h2 : atKey xs k = none → ∀ h', h'.DictOfH knd d (storedH xs k a v) → Heap.SameBut d s.heap h' → Q v { s with heap := h', toks := s.toks + knd.draws k }) :
    wpAny (model prog w) A (dictSetDefault d (.ref a) v) Q E s := by
  obtain ⟨o, es, ep, ho, hc, hd, he, his, hn⟩ := hm
  unfold dictSetDefault
  try with_reducible refine wpAny_holding ?_
  refine wpAny_bind (knd.pyHash hu hkey (wpAny_bind (wpAny_dictFind_heap hu hkey ho hd he his hn ?_ ?_)))
  · intro hno
    have hnot : k ∉ xs.map _ := not_mem_keys_of_get hno
    have hsn := storedH_new (atKey_none_of_get hno)
    refine wpAny_bind (wpAny_rule (wpAny_bind (wpAny_updateDictKeys (hz := by have e := size_of_entries he; omega) ho hd (wpAny_pure
      (h2 (atKey_none_of_get hno) _ ⟨_, _, ep + 1, Heap.get?_update_self _ ho (Obj.isFreed_of_dict (Obj.data_mapDictKeys hd _)), hc.mapDictKeys _, Obj.data_mapDictKeys hd _, ?_, ?_, ?_⟩ (Heap.SameBut.update ..))))))
    · rw [hsn]; simp [he, entryOfKey]
    · rw [hsn]
      intro x hx
      rcases List.mem_append.mp hx with hx | hx
      · exact knd.keeps (his x hx) ho hd (Heap.SameBut.update ..)
      · cases List.mem_singleton.mp hx
        exact knd.keeps hkey ho hd (Heap.SameBut.update ..)
    · rw [hsn, List.map_append]
      grind
  · intro j p hj
    refine wpAny_bind (wpAny_dictEntries ho hd ?_)
    rw [entry_at he j, hj]
    exact wpAny_bind (wpAny_rule (wpAny_pure (h1 _ (atKey_of_get hn hj))))
theorem sd_meets {d a : Addr} (hd : (d == sysModules) = false) (dflt : Value) :
    MeetsIn prog w (Builtin.«dict.setdefault» ⟨[.ref d, .ref a, dflt], []⟩) (fun A R s => knd.room A.in1 ∧ ∃ k xs, knd.is s.heap k a ∧ s.heap.DictOfH knd d xs ∧ xs.length ≤ sizeLine ∧
      (∀ p, atKey xs k = some p → R (.ok (.ret p.2)) { s with toks := s.toks + knd.draws k }) ∧
      (atKey xs k = none → ∀ h', h'.DictOfH knd d (storedH xs k a dflt) → Heap.SameBut d s.heap h' → R (.ok (.ret dflt)) { s with heap := h', toks := s.toks + knd.draws k })) :=
  .of_wp fun A R s ⟨hu, k, xs, hkey, hm, hz, h1, h2⟩ => by
    refine wpAny_bind ?_
    refine wpAny_bind (wpAny_notOrdered_dict hm.typeIs ?_)
    refine wpAny_pure ?_
    show wpAny _ _ (if (d == sysModules) = true then _ else (dictSetDefault d _ dflt >>= _)) _ _ s
    rw [if_neg (by simp_all)]
    exact wpAny_bind (sd_heap hu hkey hm hz (fun p hp => wpAny_pure ⟨_, rfl, h1 p hp⟩) fun hn h' hm' hs' => wpAny_pure ⟨_, rfl, h2 hn h' hm' hs'⟩)
end
section
variable {X : Cx}
def rSetD : V → List V → Hp → VK → Prop := fun x vs H Q => ∃ a y z, x = .ref a ∧ vs = [y, z] ∧
  ((∃ kvs k, H a = some (.dK kvs) ∧ y = kV k ∧ kvs.length < sizeLine ∧ (∀ r, valV kvs k = some r → Q r H) ∧ (valV kvs k = none → Q z (upd H a (.dK (putK kvs k z))))) ∨
   ∃ kvs k b, H a = some (.dT kvs) ∧ y = .ref b ∧ H b = some (.tup (k.map kV)) ∧ kvs.length < sizeLine ∧ (∀ r, valV kvs k = some r → Q r H) ∧ (valV kvs k = none → Q z (upd H a (.dT (putK kvs k z)))))
theorem args_sd (a b c : Value) : argsOk "dict.setdefault" ⟨[a, b, c], []⟩ := by kernel_rfl
theorem mt_setdefault {k0 : Nat} (hr : Room k0 X.A) : MtR X "dict.setdefault" rSetD := by
  intro pins s σ H x vs v us Q I rx rv h
  obtain ⟨a, y, z, rfl, rfl, h⟩ := h
  cases rx
  obtain ⟨u, r, rfl, ru, rr⟩ := vals2 rv
  rcases h with ⟨kvs, k, e, rfl, hl, h1, h2⟩ | ⟨kvs, k, b, e, rfl, eb, hl, h1, h2⟩
  · obtain ⟨hz, hd, ws, rel, dd⟩ := dk_of I.hok e
    refine call_meetsIn PySem.F.slot_dict_setdefault dd.typeIs PySem.F.entry_dict_setdefault (args_sd _ _ _) (kt_meets_setdefault (mixKind _ X.w) a (kV_is ru) hd r)
      ⟨ws, dd, by rw [← rel.length]; exact hz, fun v' hv' => ?_, fun hn h' dd' hs => ?_⟩
    · have q := rel.val k
      rw [hv'] at q
      cases hk : valV kvs k with
      | none => rw [hk] at q; exact q.elim
      | some r' => rw [hk] at q; exact ⟨r', H, I.tok _, q, h1 r' hk⟩
    · have q := rel.val k
      rw [hn] at q
      cases hk : valV kvs k with
      | some r' => rw [hk] at q; exact q.elim
      | none =>
        refine ⟨z, _, d_write I (by rw [e]; exact True.intro) hs (let ⟨q, _, _, hq, _⟩ := dd'; ⟨q, hq⟩) (dk_new ?_ hd (rel.put k rr) dd'), rr, h2 hk⟩
        have := length_putK kvs k z
        omega
  · cases (ru)
    obtain ⟨hz, hd, xs, rel, dd⟩ := dt_of I.hok e
    refine call_meetsIn PySem.F.slot_dict_setdefault dd.typeIs PySem.F.entry_dict_setdefault (args_sd _ _ _) (sd_meets (knd := tupleKind (mixKind _ X.w)) hd r)
      ⟨tupleKind_room_in1 (hu_of hr), k, xs, key_of I.hok eb, dd, by rw [← Paired.length rel]; exact hz, fun p hp => ?_, fun hn h' dd' hs => ?_⟩
    · have q := rel.val k
      rw [hp] at q
      cases hk : valV kvs k with
      | none => rw [hk] at q; exact q.elim
      | some r' => rw [hk] at q; exact ⟨r', H, I.tok _, q, h1 r' hk⟩
    · have q := rel.val k
      rw [hn] at q
      cases hk : valV kvs k with
      | some r' => rw [hk] at q; exact q.elim
      | none =>
        obtain ⟨q, es, ep, hq, g2, g3, g4, _, g5⟩ := dd'
        refine ⟨z, upd H a (.dT _), d_write (ob := .dT _) I (by rw [e]; exact True.intro) hs ⟨q, hq⟩ ⟨?_, hd, _, (rel.put k eb rr).keeps fun c ys ec => ?_, q, es, ep, hq, g2, g3, g4, g5⟩, rr, h2 hk⟩
        · have := length_putK kvs k z
          omega
        · rw [upd_ne (ne_of ec e (fun z => nomatch z))]
          exact ec
def rGet2 : V → List V → Hp → VK → Prop := fun x vs H Q => ∃ a y z o, x = .ref a ∧ vs = [y, z] ∧ DGet H a y o ∧ Q (o.getD z) H
theorem mt_get2 {k0 : Nat} (hr : Room k0 X.A) : MtR X "dict.get" rGet2 := by
  intro pins s σ H x vs v us Q I rx rv h
  obtain ⟨a, y, z, o, rfl, rfl, g, q⟩ := h
  cases rx
  obtain ⟨u, r, rfl, ru, rr⟩ := vals2 rv
  exact d_get2 (hu_of hr) I g ru rr fun w' s' I' rw' => ⟨_, H, I', rw', q⟩
end
end L3

/-! xs[::-1] of a list. -/
namespace L3
open PySem PySem.Spec PyProof.Rows L2
section
variable {X : Cx} {e st : Expr} {te ts : TE} {pos p2 : Pos}
end
end L3

namespace My
open PySem PySem.Spec PyProof.Rows L2 L3
def top (i : Nat) : Stmt := PySem.Challenge.pw_earlyscribe_k15_all_written.main.body.getD i (.Pass ⟨0, 0, 0, 0⟩)
end My
noncomputable def PySem.W.Fast.tw14598715356260435866 : PySem.Params → PySem.Obj := PySem.W.boot_o_0
theorem PySem.W.Fast.te14598715356260435866 : PySem.W.boot_o_0 = PySem.W.Fast.tw14598715356260435866 := rfl
noncomputable def PySem.W.Fast.tw802731481743698664 : PySem.Program := PySem.Challenge.pw_earlyscribe_k15_all_written
theorem PySem.W.Fast.te802731481743698664 : PySem.Challenge.pw_earlyscribe_k15_all_written = PySem.W.Fast.tw802731481743698664 := rfl
lay_quick PySem.Challenge.pw_earlyscribe_k15_all_written
namespace My
open PySem PySem.W PyProof.Rows L2 L3
noncomputable abbrev fob (x : Str) (st : Stmt) (oc : Value) (od : Option Addr) (kV dc pm : Value) (an : Option Addr) (cd ct : Value) (sl : Array (Option Value)) : Obj := ⟨oc, od, .func (fnOf x x (defArgs st) (defBody st) (defScope st) .none kV dc pm an cd ct), sl⟩
noncomputable abbrev de (P : Params) (x : Str) (t : Tok) (v : Value) : DictEntry := ⟨PySem.PyData.keyHash P x, .str x t, v⟩
noncomputable abbrev cob (x : Str) (a b c : Tok) (l n : Int) (r r2 v1 v2 v3 v4 : Value) (n6 : Int) (c2 : Tok) : Obj := ⟨.type "code", none, .fields #[.str x a, .str x b, .str "/claim/cut.py" c, .int l 0, .int n 0, .int 0 0, .int 0 0, .int 3 0, r, .bool true, .int 181 0, r2, v1, v2, v3, v4, .int n6 0, .int l 0, .str "/claim/cut.py" c2], #[]⟩
noncomputable def ko2 (P : Params) : Obj := ⟨.none, none, (.dict #[] 0), #[]⟩
noncomputable def ko3 (P : Params) : Obj := ⟨(.type "dict"), none, (.dict #[de P "__name__" 165 (.str "law_earlyscribe_k15_all_written" 420), de P "__doc__" 166 .none, de P "__package__" 167 .none, de P "__loader__" 168 (.builtin "__main__.__loader__#opaque"), de P "__spec__" 169 .none, de P "__annotations__" 170 (.ref 6), de P "__builtins__" 171 (.ref 4), de P "__file__" 173 (.str "/claim/cut.py" 172), de P "__cached__" 174 .none, de P "ScribeError" 206 (.ref 24), de P "NoWay" 222 (.ref 37), de P "NoRoom" 238 (.ref 49), de P "NotPlain" 254 (.ref 61), de P "OtherSigns" 270 (.ref 73), de P "TooMany" 286 (.ref 85), de P "TwoWays" 311 (.ref 104), de P "NeverPlain" 338 (.ref 123), de P "NoText" 354 (.ref 135), de P "BEGINS" 358 (.int 2 357), de P "STEPS" 360 (.int 3 359), de P "ENDS" 362 (.int 4 361), de P "MOST_PAIRS" 364 (.int 1000 363), de P "steps_by_start" 373 (.ref 144), de P "end_words_by_room" 383 (.ref 151), de P "refuse_many" 390 (.ref 158), de P "pairs_behind" 403 (.ref 165), de P "all_written" 419 (.ref 172), de P "_law_cell_at" 429 (.ref 179), de P "_law_digits_at" 439 (.ref 186), de P "_law_word" 450 (.ref 193), de P "_law_scribe" 456 (.ref 198), de P "_law_text" 467 (.ref 205), de P "_law_copied" 474 (.ref 212), de P "_law_kinds" 482 (.ref 219), de P "_law_wide" 495 (.ref 226), de P "_law_next" 509 (.ref 233), de P "_law_due" 515 (.ref 238), de P "law" 531 (.ref 245)] 38), #[]⟩
noncomputable def ko23 (P : Params) : Obj := ⟨(.type "dict"), none, (.dict #[de P "__module__" 196 (.str "earlyscribe.errors" 187), de P "__firstlineno__" 200 (.int 2 199), de P "__static_attributes__" 201 (.ref 22), de P "__weakref__" 203 (.ref 25), de P "__doc__" 204 .none] 3), #[]⟩
noncomputable def ko24 (P : Params) : Obj := ⟨(.type "type"), none, (.cls ⟨"ScribeError", [(.type "ValueError")], [(.ref 24), (.type "ValueError"), (.type "Exception"), (.type "BaseException"), (.type "object")], 23, "ScribeError", true, [], [(.ref 37), (.ref 49), (.ref 61), (.ref 73), (.ref 85), (.ref 104), (.ref 123), (.ref 135)], false, none, false⟩), #[(some (.ref 15)), none, (some (.str "ScribeError" 189)), (some (.str "ScribeError" 197)), (some (.builtin "ValueError.__new__")), (some (.bool true))]⟩
noncomputable def ko36 (P : Params) : Obj := ⟨(.type "dict"), none, (.dict #[de P "__module__" 214 (.str "earlyscribe.errors" 187), de P "__firstlineno__" 218 (.int 4 217), de P "__static_attributes__" 219 (.ref 35), de P "__doc__" 220 .none] 2), #[]⟩
noncomputable def ko37 (P : Params) : Obj := ⟨(.type "type"), none, (.cls ⟨"NoWay", [(.ref 24)], [(.ref 37), (.ref 24), (.type "ValueError"), (.type "Exception"), (.type "BaseException"), (.type "object")], 36, "NoWay", true, [], [], false, none, false⟩), #[(some (.ref 28)), none, (some (.str "NoWay" 207)), (some (.str "NoWay" 215)), (some (.builtin "ValueError.__new__")), (some (.bool true))]⟩
noncomputable def ko48 (P : Params) : Obj := ⟨(.type "dict"), none, (.dict #[de P "__module__" 230 (.str "earlyscribe.errors" 187), de P "__firstlineno__" 234 (.int 6 233), de P "__static_attributes__" 235 (.ref 47), de P "__doc__" 236 .none] 2), #[]⟩
noncomputable def ko49 (P : Params) : Obj := ⟨(.type "type"), none, (.cls ⟨"NoRoom", [(.ref 24)], [(.ref 49), (.ref 24), (.type "ValueError"), (.type "Exception"), (.type "BaseException"), (.type "object")], 48, "NoRoom", true, [], [], false, none, false⟩), #[(some (.ref 40)), none, (some (.str "NoRoom" 223)), (some (.str "NoRoom" 231)), (some (.builtin "ValueError.__new__")), (some (.bool true))]⟩
noncomputable def ko60 (P : Params) : Obj := ⟨(.type "dict"), none, (.dict #[de P "__module__" 246 (.str "earlyscribe.errors" 187), de P "__firstlineno__" 250 (.int 8 249), de P "__static_attributes__" 251 (.ref 59), de P "__doc__" 252 .none] 2), #[]⟩
noncomputable def ko61 (P : Params) : Obj := ⟨(.type "type"), none, (.cls ⟨"NotPlain", [(.ref 24)], [(.ref 61), (.ref 24), (.type "ValueError"), (.type "Exception"), (.type "BaseException"), (.type "object")], 60, "NotPlain", true, [], [], false, none, false⟩), #[(some (.ref 52)), none, (some (.str "NotPlain" 239)), (some (.str "NotPlain" 247)), (some (.builtin "ValueError.__new__")), (some (.bool true))]⟩
noncomputable def ko72 (P : Params) : Obj := ⟨(.type "dict"), none, (.dict #[de P "__module__" 262 (.str "earlyscribe.errors" 187), de P "__firstlineno__" 266 (.int 10 265), de P "__static_attributes__" 267 (.ref 71), de P "__doc__" 268 .none] 2), #[]⟩
noncomputable def ko73 (P : Params) : Obj := ⟨(.type "type"), none, (.cls ⟨"OtherSigns", [(.ref 24)], [(.ref 73), (.ref 24), (.type "ValueError"), (.type "Exception"), (.type "BaseException"), (.type "object")], 72, "OtherSigns", true, [], [], false, none, false⟩), #[(some (.ref 64)), none, (some (.str "OtherSigns" 255)), (some (.str "OtherSigns" 263)), (some (.builtin "ValueError.__new__")), (some (.bool true))]⟩
noncomputable def ko84 (P : Params) : Obj := ⟨(.type "dict"), none, (.dict #[de P "__module__" 278 (.str "earlyscribe.errors" 187), de P "__firstlineno__" 282 (.int 12 281), de P "__static_attributes__" 283 (.ref 83), de P "__doc__" 284 .none] 2), #[]⟩
noncomputable def ko85 (P : Params) : Obj := ⟨(.type "type"), none, (.cls ⟨"TooMany", [(.ref 24)], [(.ref 85), (.ref 24), (.type "ValueError"), (.type "Exception"), (.type "BaseException"), (.type "object")], 84, "TooMany", true, [], [], false, none, false⟩), #[(some (.ref 76)), none, (some (.str "TooMany" 271)), (some (.str "TooMany" 279)), (some (.builtin "ValueError.__new__")), (some (.bool true))]⟩
noncomputable def ko103 (P : Params) : Obj := ⟨(.type "dict"), none, (.dict #[de P "__module__" 294 (.str "earlyscribe.errors" 187), de P "__firstlineno__" 298 (.int 14 297), de P "__init__" 306 (.ref 101), de P "__static_attributes__" 308 (.ref 102), de P "__doc__" 309 .none] 2), #[]⟩
noncomputable def ko104 (P : Params) : Obj := ⟨(.type "type"), none, (.cls ⟨"TwoWays", [(.ref 24)], [(.ref 104), (.ref 24), (.type "ValueError"), (.type "Exception"), (.type "BaseException"), (.type "object")], 103, "TwoWays", true, [], [], false, none, false⟩), #[(some (.ref 88)), none, (some (.str "TwoWays" 287)), (some (.str "TwoWays" 295)), (some (.builtin "ValueError.__new__")), (some (.bool true))]⟩
noncomputable def ko122 (P : Params) : Obj := ⟨(.type "dict"), none, (.dict #[de P "__module__" 319 (.str "earlyscribe.errors" 187), de P "__firstlineno__" 323 (.int 19 322), de P "__init__" 332 (.ref 120), de P "__static_attributes__" 335 (.ref 121), de P "__doc__" 336 .none] 2), #[]⟩
noncomputable def ko123 (P : Params) : Obj := ⟨(.type "type"), none, (.cls ⟨"NeverPlain", [(.ref 24)], [(.ref 123), (.ref 24), (.type "ValueError"), (.type "Exception"), (.type "BaseException"), (.type "object")], 122, "NeverPlain", true, [], [], false, none, false⟩), #[(some (.ref 107)), none, (some (.str "NeverPlain" 312)), (some (.str "NeverPlain" 320)), (some (.builtin "ValueError.__new__")), (some (.bool true))]⟩
noncomputable def ko134 (P : Params) : Obj := ⟨(.type "dict"), none, (.dict #[de P "__module__" 346 (.str "earlyscribe.errors" 187), de P "__firstlineno__" 350 (.int 25 349), de P "__static_attributes__" 351 (.ref 133), de P "__doc__" 352 .none] 2), #[]⟩
noncomputable def ko135 (P : Params) : Obj := ⟨(.type "type"), none, (.cls ⟨"NoText", [(.ref 24)], [(.ref 135), (.ref 24), (.type "ValueError"), (.type "Exception"), (.type "BaseException"), (.type "object")], 134, "NoText", true, [], [], false, none, false⟩), #[(some (.ref 126)), none, (some (.str "NoText" 339)), (some (.str "NoText" 347)), (some (.builtin "ValueError.__new__")), (some (.bool true))]⟩
noncomputable def ko143 (P : Params) : Obj := cob "steps_by_start" 365 366 367 32 1 (.ref 138) (.ref 139) .none (.ref 140) (.ref 141) (.ref 142) 371 372
noncomputable def ko144 (P : Params) : Obj := fob "steps_by_start" (top 15) (.type "function") none .none .none (.str "earlyscribe.scribes" 355) none (.ref 143) .none #[]
noncomputable def ko150 (P : Params) : Obj := cob "end_words_by_room" 374 375 376 37 1 (.ref 145) (.ref 146) .none (.ref 147) (.ref 148) (.ref 149) 381 382
noncomputable def ko151 (P : Params) : Obj := fob "end_words_by_room" (top 16) (.type "function") none .none .none (.str "earlyscribe.scribes" 355) none (.ref 150) .none #[]
noncomputable def ko157 (P : Params) : Obj := cob "refuse_many" 384 385 386 42 1 (.ref 152) (.ref 153) .none (.ref 154) (.ref 155) (.ref 156) 388 389
noncomputable def ko158 (P : Params) : Obj := fob "refuse_many" (top 17) (.type "function") none .none .none (.str "earlyscribe.scribes" 355) none (.ref 157) .none #[]
noncomputable def ko164 (P : Params) : Obj := cob "pairs_behind" 391 392 393 45 3 (.ref 159) (.ref 160) .none (.ref 161) (.ref 162) (.ref 163) 401 402
noncomputable def ko165 (P : Params) : Obj := fob "pairs_behind" (top 18) (.type "function") none .none .none (.str "earlyscribe.scribes" 355) none (.ref 164) .none #[]
noncomputable def ko171 (P : Params) : Obj := cob "all_written" 404 405 406 52 2 (.ref 166) (.ref 167) .none (.ref 168) (.ref 169) (.ref 170) 417 418
noncomputable def ko172 (P : Params) : Obj := fob "all_written" (top 19) (.type "function") none .none .none (.str "earlyscribe.scribes" 355) none (.ref 171) .none #[]
noncomputable def ko178 (P : Params) : Obj := cob "_law_cell_at" 422 423 424 65 2 (.ref 173) (.ref 174) .none (.ref 175) (.ref 176) (.ref 177) 427 428
noncomputable def ko179 (P : Params) : Obj := fob "_law_cell_at" (top 21) (.type "function") none .none .none (.str "law_earlyscribe_k15_all_written" 420) none (.ref 178) .none #[]
noncomputable def ko185 (P : Params) : Obj := cob "_law_digits_at" 430 431 432 69 2 (.ref 180) (.ref 181) .none (.ref 182) (.ref 183) (.ref 184) 437 438
noncomputable def ko186 (P : Params) : Obj := fob "_law_digits_at" (top 22) (.type "function") none .none .none (.str "law_earlyscribe_k15_all_written" 420) none (.ref 185) .none #[]
noncomputable def ko192 (P : Params) : Obj := cob "_law_word" 440 441 442 76 1 (.ref 187) (.ref 188) .none (.ref 189) (.ref 190) (.ref 191) 448 449
noncomputable def ko193 (P : Params) : Obj := fob "_law_word" (top 23) (.type "function") none .none .none (.str "law_earlyscribe_k15_all_written" 420) none (.ref 192) .none #[]
noncomputable def ko197 (P : Params) : Obj := cob "_law_scribe" 451 452 453 86 3 (.ref 194) (.ref 195) .none .none .none (.ref 196) 454 455
noncomputable def ko198 (P : Params) : Obj := fob "_law_scribe" (top 24) (.type "function") none .none .none (.str "law_earlyscribe_k15_all_written" 420) none (.ref 197) .none #[]
noncomputable def ko204 (P : Params) : Obj := cob "_law_text" 457 458 459 115 2 (.ref 199) (.ref 200) .none (.ref 201) (.ref 202) (.ref 203) 465 466
noncomputable def ko205 (P : Params) : Obj := fob "_law_text" (top 25) (.type "function") none .none .none (.str "law_earlyscribe_k15_all_written" 420) none (.ref 204) .none #[]
noncomputable def ko211 (P : Params) : Obj := cob "_law_copied" 468 469 470 122 1 (.ref 206) (.ref 207) .none (.ref 208) (.ref 209) (.ref 210) 472 473
noncomputable def ko212 (P : Params) : Obj := fob "_law_copied" (top 26) (.type "function") none .none .none (.str "law_earlyscribe_k15_all_written" 420) none (.ref 211) .none #[]
noncomputable def ko218 (P : Params) : Obj := cob "_law_kinds" 475 476 477 124 1 (.ref 213) (.ref 214) .none (.ref 215) (.ref 216) (.ref 217) 480 481
noncomputable def ko219 (P : Params) : Obj := fob "_law_kinds" (top 27) (.type "function") none .none .none (.str "law_earlyscribe_k15_all_written" 420) none (.ref 218) .none #[]
noncomputable def ko225 (P : Params) : Obj := cob "_law_wide" 483 484 485 131 1 (.ref 220) (.ref 221) .none (.ref 222) (.ref 223) (.ref 224) 493 494
noncomputable def ko226 (P : Params) : Obj := fob "_law_wide" (top 28) (.type "function") none .none .none (.str "law_earlyscribe_k15_all_written" 420) none (.ref 225) .none #[]
noncomputable def ko232 (P : Params) : Obj := cob "_law_next" 496 497 498 141 3 (.ref 227) (.ref 228) .none (.ref 229) (.ref 230) (.ref 231) 507 508
noncomputable def ko233 (P : Params) : Obj := fob "_law_next" (top 29) (.type "function") none .none .none (.str "law_earlyscribe_k15_all_written" 420) none (.ref 232) .none #[]
noncomputable def ko237 (P : Params) : Obj := cob "_law_due" 510 511 512 150 2 (.ref 234) (.ref 235) .none .none .none (.ref 236) 513 514
noncomputable def ko238 (P : Params) : Obj := fob "_law_due" (top 30) (.type "function") none .none .none (.str "law_earlyscribe_k15_all_written" 420) none (.ref 237) .none #[]
noncomputable def ko244 (P : Params) : Obj := cob "law" 516 517 518 162 1 (.ref 239) (.ref 240) .none (.ref 241) (.ref 242) (.ref 243) 529 530
noncomputable def ko245 (P : Params) : Obj := fob "law" (top 31) (.type "function") none .none .none (.str "law_earlyscribe_k15_all_written" 420) none (.ref 244) .none #[]
noncomputable def K (P : Params) : Frag := (nat_lit 2, ko2 P) :: (nat_lit 3, ko3 P) :: (nat_lit 23, ko23 P) :: (nat_lit 24, ko24 P) :: (nat_lit 36, ko36 P) :: (nat_lit 37, ko37 P) :: (nat_lit 48, ko48 P) :: (nat_lit 49, ko49 P) :: (nat_lit 60, ko60 P) :: (nat_lit 61, ko61 P) :: (nat_lit 72, ko72 P) :: (nat_lit 73, ko73 P) :: (nat_lit 84, ko84 P) :: (nat_lit 85, ko85 P) :: (nat_lit 103, ko103 P) :: (nat_lit 104, ko104 P) :: (nat_lit 122, ko122 P) :: (nat_lit 123, ko123 P) :: (nat_lit 134, ko134 P) :: (nat_lit 135, ko135 P) :: (nat_lit 143, ko143 P) :: (nat_lit 144, ko144 P) :: (nat_lit 150, ko150 P) :: (nat_lit 151, ko151 P) :: (nat_lit 157, ko157 P) :: (nat_lit 158, ko158 P) :: (nat_lit 164, ko164 P) :: (nat_lit 165, ko165 P) :: (nat_lit 171, ko171 P) :: (nat_lit 172, ko172 P) :: (nat_lit 178, ko178 P) :: (nat_lit 179, ko179 P) :: (nat_lit 185, ko185 P) :: (nat_lit 186, ko186 P) :: (nat_lit 192, ko192 P) :: (nat_lit 193, ko193 P) :: (nat_lit 197, ko197 P) :: (nat_lit 198, ko198 P) :: (nat_lit 204, ko204 P) :: (nat_lit 205, ko205 P) :: (nat_lit 211, ko211 P) :: (nat_lit 212, ko212 P) :: (nat_lit 218, ko218 P) :: (nat_lit 219, ko219 P) :: (nat_lit 225, ko225 P) :: (nat_lit 226, ko226 P) :: (nat_lit 232, ko232 P) :: (nat_lit 233, ko233 P) :: (nat_lit 237, ko237 P) :: (nat_lit 238, ko238 P) :: (nat_lit 244, ko244 P) :: (nat_lit 245, ko245 P) :: []
noncomputable def as : List Addr := [2, 3, 23, 24, 36, 37, 48, 49, 60, 61, 72, 73, 84, 85, 103, 104, 122, 123, 134, 135, 143, 144, 150, 151, 157, 158, 164, 165, 171, 172, 178, 179, 185, 186, 192, 193, 197, 198, 204, 205, 211, 212, 218, 219, 225, 226, 232, 233, 237, 238, 244, 245]
end My
noncomputable def PySem.W.Fast.tw12754154230045568370 : PySem.Params → PySem.W.Frag := My.K
theorem PySem.W.Fast.te12754154230045568370 : My.K = PySem.W.Fast.tw12754154230045568370 := rfl
namespace My
open PySem PySem.W PyProof.Rows L2 L3
noncomputable def q : Program := view PySem.Challenge.pw_earlyscribe_k15_all_written [1, 2, 3, 4, 5, 6, 7, 8, 9, 11, 12, 13, 14, 15, 16, 17, 18, 19, 21, 22, 23, 24, 25, 26, 27, 28, 29, 30, 31]
noncomputable def env : Env := { scope := PySem.Challenge.pw_earlyscribe_k15_all_written.main.scope, locals := mainNs, globals := mainNs, cells := [], code := (.ref 13), frame := some 14 }
theorem size (w : World) : ((boot_heap w.params).isNs mainGlobals && (Array.mk ([] : List GenState)).size == 0, (boot_heap w.params).objs.size, (boot_heap w.params).nsMap mainGlobals "__annotations__") = (true, 11, (some (.ref 6))) := by
  rw [PySem.W.Fast.te8920871248978507458]
  kernel_rfl
theorem hl : LeftO PySem.Challenge.pw_earlyscribe_k15_all_written q [] (fun s => xlAt q [] s && recOk [] s) (fun s => (decide (0 < s.toks), as.map s.heap.get?)) (fun w => (true, (K w.params).map fun x => some x.2)) 5190 := by
  refine Hd.left_of (k1 := 12) (k2 := 1) (k3 := 2533) (k4 := 2) (n₁ := 15) (m₀ := 11) (ann := (some (.ref 6))) (env := env) (fp := ⟨0, 0, 0, 0⟩) (p1 := ⟨0, 0, 0, 0⟩) (p2 := ⟨0, 0, 0, 0⟩) (p3 := ⟨162, 0, 184, 95⟩) rfl rfl (fun _ => rfl) size rfl ?_
  intro w
  unfold Hd.look q env
  rw [PySem.W.Fast.te15667345088766844465, PySem.W.Fast.te14374325043358763698, PySem.W.Fast.te10110043849684766642, PySem.W.Fast.te14082659384304107361, PySem.W.Fast.te14364793385576792824, PySem.W.Fast.te4187177175401517315, PySem.W.Fast.te5923862056798008813, PySem.W.Fast.te11892475500146522536, PySem.W.Fast.te12754154230045568370, PySem.W.Fast.te802731481743698664]
  kernel_rfl
end My
namespace My
open PySem PySem.Spec PyProof.Rows L2 L3
abbrev s_steps_by_start : Stmt := top 15
abbrev s_end_words_by_room : Stmt := top 16
abbrev s_refuse_many : Stmt := top 17
abbrev s_pairs_behind : Stmt := top 18
abbrev s_all_written : Stmt := top 19
abbrev s_law_cell_at : Stmt := top 21
abbrev s_law_digits_at : Stmt := top 22
abbrev s_law_word : Stmt := top 23
abbrev s_law_scribe : Stmt := top 24
abbrev s_law_text : Stmt := top 25
abbrev s_law_copied : Stmt := top 26
abbrev s_law_kinds : Stmt := top 27
abbrev s_law_wide : Stmt := top 28
abbrev s_law_next : Stmt := top 29
abbrev s_law_due : Stmt := top 30
abbrev s_law : Stmt := top 31
structure Bi (mg : Str → Option Value) : Prop where
  ValueError : mg "ValueError" = none
  int : mg "int" = none
  isinstance : mg "isinstance" = none
  len : mg "len" = none
  list : mg "list" = none
  max : mg "max" = none
  min : mg "min" = none
  range : mg "range" = none
  set : mg "set" = none
  sorted : mg "sorted" = none
  BEGINS : ∃ t, mg "BEGINS" = some (.int 2 t)
  ENDS : ∃ t, mg "ENDS" = some (.int 4 t)
  MOST_PAIRS : ∃ t, mg "MOST_PAIRS" = some (.int 1000 t)
  STEPS : ∃ t, mg "STEPS" = some (.int 3 t)
structure Xb (K : PySem.W.Frag) (mg : Str → Option Value) (c_ScribeError c_NoWay c_NoRoom c_NotPlain c_OtherSigns c_TooMany c_TwoWays c_NeverPlain c_NoText : Addr) : Prop where
  nm_ScribeError : mg "ScribeError" = some (.ref c_ScribeError)
  nm_NoWay : mg "NoWay" = some (.ref c_NoWay)
  nm_NoRoom : mg "NoRoom" = some (.ref c_NoRoom)
  nm_NotPlain : mg "NotPlain" = some (.ref c_NotPlain)
  nm_OtherSigns : mg "OtherSigns" = some (.ref c_OtherSigns)
  nm_TooMany : mg "TooMany" = some (.ref c_TooMany)
  nm_TwoWays : mg "TwoWays" = some (.ref c_TwoWays)
  nm_NeverPlain : mg "NeverPlain" = some (.ref c_NeverPlain)
  nm_NoText : mg "NoText" = some (.ref c_NoText)
  own_TooMany : OwnX K mg "TooMany" c_TooMany
  xc_TooMany : XCls K c_TooMany
  cl_ScribeError : Clause K mg "ScribeError" c_ScribeError
  sub_TooMany_ScribeError : PySem.W.mroIn K c_TooMany (.ref c_ScribeError) = some true
  is_TooMany_NoText : PySem.W.kitOne K (.ref c_TooMany) (.ref c_NoText) = some false
  is_TooMany_NeverPlain : PySem.W.kitOne K (.ref c_TooMany) (.ref c_NeverPlain) = some false
  is_TooMany_TwoWays : PySem.W.kitOne K (.ref c_TooMany) (.ref c_TwoWays) = some false
  is_TooMany_TooMany : PySem.W.kitOne K (.ref c_TooMany) (.ref c_TooMany) = some true
  is_TooMany_OtherSigns : PySem.W.kitOne K (.ref c_TooMany) (.ref c_OtherSigns) = some false
  is_TooMany_NotPlain : PySem.W.kitOne K (.ref c_TooMany) (.ref c_NotPlain) = some false
  is_TooMany_NoRoom : PySem.W.kitOne K (.ref c_TooMany) (.ref c_NoRoom) = some false
  is_TooMany_NoWay : PySem.W.kitOne K (.ref c_TooMany) (.ref c_NoWay) = some false
  iv_TooMany_ValueError : PySem.W.kitOne K (.ref c_TooMany) (.type "ValueError") = some true

local macro_rules | `(tactic| walk_at "side") => `(tactic| first | exact pz | exact ⟨pz, pz⟩ | exact .inr ⟨by decide, by decide⟩ | exact ⟨by omega, by omega⟩ | exact .inl ⟨by omega, by omega⟩ | exact .inr ⟨by omega, by omega⟩ | (show (0 : Int) < _; omega) | exact szl (by simp) | exact szl (by omega))
local macro_rules | `(tactic| walk_at "r") => `(tactic| first | refine ⟨_, rfl, ?_⟩ | refine ⟨_, _, rfl, rfl, ?_⟩ | refine ⟨rfl, ?_⟩ | refine ⟨by walk_at "side", ?_⟩)
local macro_rules | `(tactic| walk_at "rd") => `(tactic| repeat walk_at "r")

def isNum (lo hi : Int) (v : V) : Prop := ∃ n : Int, v = .int n ∧ lo ≤ n ∧ n ≤ hi
theorem szl' {n : Nat} (h : n ≤ 99999) : n < sizeLine := Nat.lt_of_lt_of_le (Nat.lt_succ_of_le h) (szl (by omega))
def Wd (x : Str) : Prop := x.length ≤ 40 ∧ ∀ c ∈ cl x, 97 ≤ c ∧ c ≤ 122
structure OkS (pl : Bool) (s : Scr) (n : Nat) : Prop where
  lb : s.begins.length ≤ n
  ls : s.steps.length ≤ n
  le : s.ends.length ≤ n
  mb : ∀ m ∈ s.begins, 0 ≤ m.1 ∧ m.1 < s.rooms ∧ Wd m.2
  ms : ∀ t ∈ s.steps, 0 ≤ t.1 ∧ t.1 < s.rooms ∧ (∃ c ∈ cl s.signs, t.2.1 = ⟨#[c]⟩) ∧ Wd t.2.2.1 ∧ 0 ≤ t.2.2.2 ∧ t.2.2.2 < s.rooms
  me : ∀ m ∈ s.ends, 0 ≤ m.1 ∧ m.1 < s.rooms ∧ Wd m.2
  nb : s.begins.Nodup
  ns : s.steps.Nodup
  ne : s.ends.Nodup
  pb : pl = true → s.begins.length ≤ 1
  po : pl = true → (s.steps.map fun t => (t.1, t.2.1)).Nodup
  pe : pl = true → (s.ends.map (·.1)).Nodup
theorem OkS.mono {pl : Bool} {s : Scr} {n m : Nat} (h : OkS pl s n) (le : n ≤ m) : OkS pl s m :=
  ⟨Nat.le_trans h.lb le, Nat.le_trans h.ls le, Nat.le_trans h.le le, h.mb, h.ms, h.me, h.nb, h.ns, h.ne, h.pb, h.po, h.pe⟩
theorem nodup_snoc {α : Type} {xs : List α} {x : α} (h : xs.Nodup) (hn : x ∉ xs) : (xs ++ [x]).Nodup := by
  rw [List.nodup_append]
  refine ⟨h, by simp, fun a ha b hb => ?_⟩
  rw [List.mem_singleton] at hb
  subst hb
  intro e; subst e; exact hn ha
theorem OkS.begin {pl : Bool} {g : Str} {r : Int} {B : List Mk} {S : List Stp} {E : List Mk} {n : Nat} (h : OkS pl ⟨g, r, B, S, E⟩ n) {i : Int} {x : Str} (h0 : 0 ≤ i) (h1 : i < r) (hw : Wd x) (hn : (i, x) ∉ B) (hp : pl = true → B.length = 0) : OkS pl ⟨g, r, B ++ [(i, x)], S, E⟩ (n + 1) := by
  have ha := h.mono (Nat.le_succ n)
  refine ⟨?_, ha.ls, ha.le, fun m hm => ?_, h.ms, h.me, nodup_snoc h.nb hn, h.ns, h.ne, fun q => ?_, h.po, h.pe⟩
  · show (B ++ [(i, x)]).length ≤ n + 1
    have : B.length ≤ n := h.lb
    rw [List.length_append, List.length_singleton]; omega
  · rcases List.mem_append.mp hm with hm | hm
    · exact h.mb m hm
    · rw [List.mem_singleton.mp hm]; exact ⟨h0, h1, hw⟩
  · show (B ++ [(i, x)]).length ≤ 1
    rw [List.length_append, hp q, List.length_singleton]; omega
theorem OkS.end_ {pl : Bool} {g : Str} {r : Int} {B : List Mk} {S : List Stp} {E : List Mk} {n : Nat} (h : OkS pl ⟨g, r, B, S, E⟩ n) {i : Int} {x : Str} (h0 : 0 ≤ i) (h1 : i < r) (hw : Wd x) (hn : (i, x) ∉ E) (hp : pl = true → ∀ m ∈ E, m.1 ≠ i) : OkS pl ⟨g, r, B, S, E ++ [(i, x)]⟩ (n + 1) := by
  have ha := h.mono (Nat.le_succ n)
  refine ⟨ha.lb, ha.ls, ?_, h.mb, h.ms, fun m hm => ?_, h.nb, h.ns, nodup_snoc h.ne hn, h.pb, h.po, fun q => ?_⟩
  · show (E ++ [(i, x)]).length ≤ n + 1
    have : E.length ≤ n := h.le
    rw [List.length_append, List.length_singleton]; omega
  · rcases List.mem_append.mp hm with hm | hm
    · exact h.me m hm
    · rw [List.mem_singleton.mp hm]; exact ⟨h0, h1, hw⟩
  · show ((E ++ [(i, x)]).map (·.1)).Nodup
    rw [List.map_append]
    refine nodup_snoc (h.pe q) fun hm => ?_
    obtain ⟨m, hm, e⟩ := List.mem_map.mp hm
    exact hp q m hm e
theorem OkS.step {pl : Bool} {g : Str} {r : Int} {B : List Mk} {S : List Stp} {E : List Mk} {n : Nat} (h : OkS pl ⟨g, r, B, S, E⟩ n) {i j : Int} {y x : Str} (h0 : 0 ≤ i) (h1 : i < r) (hy : ∃ c ∈ cl g, y = ⟨#[c]⟩) (hw : Wd x) (h2 : 0 ≤ j) (h3 : j < r) (hn : (i, y, x, j) ∉ S) (hp : pl = true → ∀ t ∈ S, ¬ (t.1 = i ∧ t.2.1 = y)) :
    OkS pl ⟨g, r, B, S ++ [(i, y, x, j)], E⟩ (n + 1) := by
  have ha := h.mono (Nat.le_succ n)
  refine ⟨ha.lb, ?_, ha.le, h.mb, fun t ht => ?_, h.me, h.nb, nodup_snoc h.ns hn, h.ne, h.pb, fun q => ?_, h.pe⟩
  · show (S ++ [(i, y, x, j)]).length ≤ n + 1
    have : S.length ≤ n := h.ls
    rw [List.length_append, List.length_singleton]; omega
  · rcases List.mem_append.mp ht with hm | hm
    · exact h.ms t hm
    · rw [List.mem_singleton.mp hm]; exact ⟨h0, h1, hy, hw, h2, h3⟩
  · show ((S ++ [(i, y, x, j)]).map fun t => (t.1, t.2.1)).Nodup
    rw [List.map_append]
    refine nodup_snoc (h.po q) fun hm => ?_
    obtain ⟨t, hm, e⟩ := List.mem_map.mp hm
    injection e with e1 e2
    exact hp q t hm ⟨e1, e2⟩
def HI (K : PySem.W.Frag) (H0 : Hp) (pb ps pe : Addr) (pl : Bool) (g : Str) (r : Int) (n : Nat) (H : Hp) : Prop := ∃ B S E xb xs xe, Same H0 H ∧ H pb = some (.lst xb) ∧ H ps = some (.lst xs) ∧ H pe = some (.lst xe) ∧
  Paired (MkV K H) B xb ∧ Paired (StV K H) S xs ∧ Paired (MkV K H) E xe ∧ OkS pl ⟨g, r, B, S, E⟩ n
theorem same_updN {H0 H : Hp} {p : Addr} {o : HO} (g : Same H0 H) (h : H0 p = none) : Same H0 (upd H p o) := fun b u q => by rw [upd_ne (ne_of_none q h)]; exact g b u q
theorem HI.mono {K : PySem.W.Frag} {H0 H H' : Hp} {pb ps pe : Addr} {pl : Bool} {g : Str} {r : Int} {n m : Nat} (h : HI K H0 pb ps pe pl g r n H) (s : Same H H') (le : n ≤ m) : HI K H0 pb ps pe pl g r m H' := by
  obtain ⟨B, S, E, xb, xs, xe, h1, h2, h3, h4, h5, h6, h7, h8⟩ := h
  have g' := Same.grow s
  exact ⟨B, S, E, xb, xs, xe, h1.trans s, s _ _ h2, s _ _ h3, s _ _ h4, paired_mono (fun _ _ => MkV.mono g') h5, paired_mono (fun _ _ => StV.mono g') h6, paired_mono (fun _ _ => MkV.mono g') h7, h8.mono le⟩
structure Apart (H0 : Hp) (pb ps pe : Addr) : Prop where
  nb : H0 pb = none
  ns : H0 ps = none
  ne : H0 pe = none
  bs : pb ≠ ps
  be : pb ≠ pe
  se : ps ≠ pe
noncomputable def cellAt (ns : List Int) (k : Int) : Int := if k < ns.length then (ns[k.toNat]?).getD 0 else 0
def spCell (K : PySem.W.Frag) : Sp := fun vs H Q _ => ∃ (a : Addr) (ns : List Int) (k : Int), vs = [.ref a, .int k] ∧ SqL K H a (ns.map V.int) ∧ 0 ≤ k ∧ Q (.int (cellAt ns k)) H
def spDigits (K : PySem.W.Frag) : Sp := fun vs H Q _ => ∃ (a : Addr) (ns : List Int) (k : Int), vs = [.ref a, .int k] ∧ SqL K H a (ns.map V.int) ∧ 0 ≤ k ∧ ∀ n, Q (.int n) H
def spWord : Sp := fun vs H Q _ => ∃ c : Int, vs = [.int c] ∧ ∀ (x : Str) (H' : Hp), Wd x → Same H H' → Q (.str x) H'
def NewS (K : PySem.W.Frag) (H H' : Hp) (pl : Bool) (n : Nat) (s : Scr) (v : V) (pb ps pe : Addr) : Prop := Same H H' ∧ ScV K H' s v pb ps pe ∧ OkS pl s n ∧ 0 ≤ s.rooms ∧ s.rooms ≤ 14 ∧ 1 ≤ s.signs.length ∧ s.signs.length ≤ 5 ∧ (cl s.signs).Nodup ∧ (∀ c ∈ cl s.signs, 97 ≤ c ∧ c ≤ 122)
def ScN (K : PySem.W.Frag) (H : Hp) (s : Scr) (v : V) (pb ps pe : Addr) : Prop := ∃ a xb xs xe, v = .ref a ∧ SqT K H a [.str s.signs, .int s.rooms, .ref pb, .ref ps, .ref pe] ∧ H pb = some (.lst xb) ∧ H ps = some (.lst xs) ∧ H pe = some (.lst xe) ∧
  Paired (MkV K H) s.begins xb ∧ Paired (StV K H) s.steps xs ∧ Paired (MkV K H) s.ends xe
theorem ScN.v {K : PySem.W.Frag} {H : Hp} {s : Scr} {v : V} {pb ps pe : Addr} : ScN K H s v pb ps pe → ScV K H s v pb ps pe
  | ⟨a, xb, xs, xe, e, h1, h2, h3, h4, h5, h6, h7⟩ => ⟨a, xb, xs, xe, e, h1, SqL.of h2, SqL.of h3, SqL.of h4, h5, h6, h7⟩
def spCopied (K : PySem.W.Frag) : Sp := fun vs H Q _ => ∃ v s pb ps pe, vs = [v] ∧ ScV K H s v pb ps pe ∧ ∀ v' H' pb' ps' pe', Same H H' → ScN K H' s v' pb' ps' pe' → Apart H pb' ps' pe' → Q v' H'

theorem one_len (c : Nat) : (⟨#[c]⟩ : Str).length = 1 := rfl
theorem len_app (a b : Str) : (a ++ b).length = a.length + b.length := by
  rw [← cl_length, cl_append, List.length_append, cl_length, cl_length]
theorem cl_nil : ∀ c ∈ cl ("" : Str), 97 ≤ c ∧ c ≤ 122 := by
  intro c hc
  have e : cl ("" : Str) = [] := by decide +kernel
  rw [e] at hc; cases hc
theorem cl_one (c : Nat) : cl ⟨#[c]⟩ = [c] := rfl

theorem iteB {b : Bool} {A B : Prop} (h1 : b = true → A) (h2 : b = false → B) : if b = true then A else B := by
  cases b
  · exact iteF (h2 rfl)
  · exact iteT (h1 rfl)
theorem modmax (n : Int) {r : Int} (hr : 0 ≤ r) : 0 ≤ n % (if r > 1 then r else 1) ∧ (0 < r → n % (if r > 1 then r else 1) < r) := by
  have hp : 0 < (if r > 1 then r else 1) := by split <;> omega
  refine ⟨Int.emod_nonneg _ (by omega), fun h => ?_⟩
  have := Int.emod_lt_of_pos n hp
  split at this <;> split <;> omega
def SgnOk (g : Str) : Prop := 1 ≤ g.length ∧ g.length ≤ 5 ∧ (cl g).Nodup ∧ ∀ c ∈ cl g, 97 ≤ c ∧ c ≤ 122
def isSgn (v : V) : Prop := ∃ g : Str, v = .str g ∧ SgnOk g
theorem HI.addStep {K : PySem.W.Frag} {H0 H : Hp} {pb ps pe : Addr} {pl : Bool} {g : Str} {r : Int} {n : Nat} {B : List Mk} {S : List Stp} {E : List Mk} {xb xs xe : List V} {t : Stp} {v : V} (A : Apart H0 pb ps pe) (h1 : Same H0 H) (h2 : H pb = some (.lst xb)) (h3 : H ps = some (.lst xs)) (h4 : H pe = some (.lst xe))
    (h5 : Paired (MkV K H) B xb) (h6 : Paired (StV K H) S xs) (h7 : Paired (MkV K H) E xe) (h8 : OkS pl ⟨g, r, B, S ++ [t], E⟩ n) (hv : StV K H t v) : HI K H0 pb ps pe pl g r n (upd H ps (.lst (xs ++ [v]))) := by
  have gr := grow_upd h3 (.lst (xs ++ [v]))
  exact ⟨B, S ++ [t], E, xb, xs ++ [v], xe, same_updN h1 A.ns, by rw [upd_ne A.bs]; exact h2, upd_same, by rw [upd_ne A.se.symm]; exact h4, paired_mono (fun _ _ => MkV.mono gr) h5,
    paired_append (paired_mono (fun _ _ => StV.mono gr) h6) (.cons (StV.mono gr hv) .nil), paired_mono (fun _ _ => MkV.mono gr) h7, h8⟩
theorem HI.addEnd {K : PySem.W.Frag} {H0 H : Hp} {pb ps pe : Addr} {pl : Bool} {g : Str} {r : Int} {n : Nat} {B : List Mk} {S : List Stp} {E : List Mk} {xb xs xe : List V} {t : Mk} {v : V} (A : Apart H0 pb ps pe) (h1 : Same H0 H) (h2 : H pb = some (.lst xb)) (h3 : H ps = some (.lst xs)) (h4 : H pe = some (.lst xe))
    (h5 : Paired (MkV K H) B xb) (h6 : Paired (StV K H) S xs) (h7 : Paired (MkV K H) E xe) (h8 : OkS pl ⟨g, r, B, S, E ++ [t]⟩ n) (hv : MkV K H t v) : HI K H0 pb ps pe pl g r n (upd H pe (.lst (xe ++ [v]))) := by
  have gr := grow_upd h4 (.lst (xe ++ [v]))
  exact ⟨B, S, E ++ [t], xb, xs, xe ++ [v], same_updN h1 A.ne, by rw [upd_ne A.be]; exact h2, by rw [upd_ne A.se]; exact h3, upd_same, paired_mono (fun _ _ => MkV.mono gr) h5,
    paired_mono (fun _ _ => StV.mono gr) h6, paired_append (paired_mono (fun _ _ => MkV.mono gr) h7) (.cons (MkV.mono gr hv) .nil), h8⟩
theorem HI.addBegin {K : PySem.W.Frag} {H0 H : Hp} {pb ps pe : Addr} {pl : Bool} {g : Str} {r : Int} {n : Nat} {B : List Mk} {S : List Stp} {E : List Mk} {xb xs xe : List V} {t : Mk} {v : V} (A : Apart H0 pb ps pe) (h1 : Same H0 H) (h2 : H pb = some (.lst xb)) (h3 : H ps = some (.lst xs)) (h4 : H pe = some (.lst xe))
    (h5 : Paired (MkV K H) B xb) (h6 : Paired (StV K H) S xs) (h7 : Paired (MkV K H) E xe) (h8 : OkS pl ⟨g, r, B ++ [t], S, E⟩ n) (hv : MkV K H t v) : HI K H0 pb ps pe pl g r n (upd H pb (.lst (xb ++ [v]))) := by
  have gr := grow_upd h2 (.lst (xb ++ [v]))
  exact ⟨B ++ [t], S, E, xb ++ [v], xs, xe, same_updN h1 A.nb, upd_same, by rw [upd_ne A.bs.symm]; exact h3, by rw [upd_ne A.be.symm]; exact h4, paired_append (paired_mono (fun _ _ => MkV.mono gr) h5) (.cons (MkV.mono gr hv) .nil),
    paired_mono (fun _ _ => StV.mono gr) h6, paired_mono (fun _ _ => MkV.mono gr) h7, h8⟩
theorem notIn_mk {K : PySem.W.Frag} {H : Hp} {E : List Mk} {xe : List V} {m : Mk} (h : Paired (MkV K H) E xe) : Reps K H (E.map dMk) xe := reps_of (f := dMk) (F := MkV K H) (fun _ _ h => MkV.rep h) h
theorem reps_st {K : PySem.W.Frag} {H : Hp} {E : List Stp} {xe : List V} (h : Paired (StV K H) E xe) : Reps K H (E.map dSt) xe := reps_of (f := dSt) (F := StV K H) (fun _ _ h => StV.rep h) h
theorem eq2 (i j : Int) (x y : Str) : eqD (.tup [.int i, .str x]) (.tup [.int j, .str y]) = decide (i = j ∧ x = y) := by
  simp only [eqD, eqDs, Bool.and_true]
  by_cases h1 : i = j <;> by_cases h2 : x = y <;> simp [h1, h2]
theorem take_get {α : Type} {xs : List α} {i : Nat} {x : α} (h : xs[i]? = some x) : xs.take (i + 1) = xs.take i ++ [x] := by rw [List.take_add_one, h]; rfl

def inR (n : Nat) (i : Int) : Prop := 0 ≤ i ∧ i < n
instance (n : Nat) (i : Int) : Decidable (inR n i) := inferInstanceAs (Decidable (_ ∧ _))
def Short (s : Scr) : Prop := (∀ m ∈ s.begins, m.2.length ≤ 100) ∧ (∀ t ∈ s.steps, t.2.1.length ≤ 100 ∧ t.2.2.1.length ≤ 100) ∧ ∀ m ∈ s.ends, m.2.length ≤ 100
def spKinds (K : PySem.W.Frag) (c : Addr) (bs : List Bool) : Sp := fun vs H Q _ => ∃ v, vs = [v] ∧ ((v = .non ∧ ∀ p H', Same H H' → H' p = some (.lst []) → Q (.ref p) H') ∨ ∃ x, v = .ref x ∧ H x = some (Exc x c) ∧ ∀ p H', Same H H' → H' p = some (.lst (bs.map V.bl)) → Q (.ref p) H')
theorem reps_bl {K : PySem.W.Frag} {H : Hp} (bs : List Bool) : Reps K H (bs.map D.bl) (bs.map V.bl) := Reps.map D.bl V.bl (fun b => rep_bl b) bs
theorem bt_ValueError : bootBuiltins "ValueError" = some (.type "ValueError") := by decide +kernel

def GT (H H' : Hp) : Prop := ∀ b xs, Rd H b (.tup xs) → Rd H' b (.tup xs)
theorem GT.trans {H H' H'' : Hp} (a : GT H H') (b : GT H' H'') : GT H H'' := fun c xs h => b c xs (a c xs h)
theorem GT.of {H H' : Hp} (g : Same H H') : GT H H' := fun b xs h => by
  rcases h with h | ⟨o, h⟩
  · exact .inl (g _ _ h)
  · exact .inr ⟨o, g _ _ h⟩
theorem gt_upd {H : Hp} {p : Addr} {o : HO} (h : H p = some o) (n1 : ∀ xs, o ≠ .tup xs) (n2 : ∀ u xs, o ≠ .frz u (.tup xs)) (o' : HO) : GT H (upd H p o') := fun b xs q => by
  have hne : b ≠ p := by
    rintro rfl
    rcases q with q | ⟨u, q⟩
    · rw [h] at q; exact n1 xs (Option.some.inj q)
    · rw [h] at q; exact n2 u xs (Option.some.inj q)
  unfold Rd
  rw [upd_ne hne]
  exact q
theorem gt_lst {H : Hp} {p : Addr} {xs : List V} (h : H p = some (.lst xs)) (o' : HO) : GT H (upd H p o') := gt_upd h (fun _ z => nomatch z) (fun _ _ z => nomatch z) o'
theorem GT.seqT {K : PySem.W.Frag} {H H' : Hp} {a : Addr} {xs : List V} (g : GT H H') (h : SqT K H a xs) : SqT K H' a xs := by
  rcases h with h | h
  · exact .inl (g _ _ h)
  · exact .inr h
theorem StV.gt {K : PySem.W.Frag} {H H' : Hp} {m : Stp} {v : V} (g : GT H H') : StV K H m v → StV K H' m v := fun ⟨b, e, h⟩ => ⟨b, e, g.seqT h⟩
theorem stv_gt (K : PySem.W.Frag) (H H' : Hp) (t : Stp) (v : V) (g : GT H H') (h : StV K H t v) : StV K H' t v := StV.gt g h
structure Bk {κ α : Type} [DecidableEq κ] (R : Hp → α → V → Prop) (key : α → κ) (H0 H : Hp) (d : Addr) (ts : List α) (kvs : List (κ × V)) : Prop where
  there : ∀ k v, valV kvs k = some v → ∃ l ys, v = .ref l ∧ H0 l = none ∧ l ≠ d ∧ H l = some (.lst ys) ∧ Paired (R H) (ts.filter fun t => decide (key t = k)) ys ∧ 0 < ys.length
  nokey : ∀ k, valV kvs k = none → ts.filter (fun t => decide (key t = k)) = []
  inj : ∀ k k' l, valV kvs k = some (.ref l) → valV kvs k' = some (.ref l) → k = k'
  len : kvs.length ≤ ts.length
theorem filter_snoc {α : Type} (p : α → Bool) (xs : List α) (x : α) : (xs ++ [x]).filter p = xs.filter p ++ if p x = true then [x] else [] := by
  rw [List.filter_append]
  congr 1
  by_cases h : p x = true
  · rw [if_pos h, List.filter_cons_of_pos h]; rfl
  · rw [if_neg h, List.filter_cons_of_neg h]; rfl
section
variable {κ α : Type} [DecidableEq κ] {R : Hp → α → V → Prop} {key : α → κ} {H0 H : Hp} {d : Addr} {ts : List α} {kvs : List (κ × V)}
theorem Bk.nil : Bk R key H0 H d [] ([] : List (κ × V)) := ⟨fun k v h => (by cases h), fun _ _ => rfl, fun k k' l h => (by cases h), Nat.le_refl _⟩
theorem Bk.mono {H' : Hp} (mono : ∀ (H H' : Hp) (t : α) (v : V), GT H H' → R H t v → R H' t v) (b : Bk R key H0 H d ts kvs) (g : Same H H') : Bk R key H0 H' d ts kvs :=
  ⟨fun k v h => let ⟨l, ys, e, h1, h2, h3, h4, h5⟩ := b.there k v h; ⟨l, ys, e, h1, h2, g _ _ h3, paired_mono (fun _ _ => mono _ _ _ _ (GT.of g)) h4, h5⟩, b.nokey, b.inj, b.len⟩
theorem Bk.put (mono : ∀ (H H' : Hp) (t : α) (v : V), GT H H' → R H t v → R H' t v) (b : Bk R key H0 H d ts kvs) {t : α} {y : V} {l : Addr} {ys : List V} (hv : valV kvs (key t) = some (.ref l)) (hl : H l = some (.lst ys)) (hy : R H t y) :
    Bk R key H0 (upd H l (.lst (ys ++ [y]))) d (ts ++ [t]) kvs := by
  have gr := gt_lst hl (.lst (ys ++ [y]))
  refine ⟨fun k v h => ?_, fun k h => ?_, b.inj, by rw [List.length_append]; exact Nat.le_add_right_of_le b.len⟩
  · obtain ⟨l', ys', rfl, h1, h2, h3, h4, h5⟩ := b.there k v h
    rw [filter_snoc]
    by_cases hk : key t = k
    · subst hk
      rw [hv] at h; cases h
      rw [hl] at h3; cases h3
      rw [if_pos (by simp)]
      exact ⟨l, ys ++ [y], rfl, h1, h2, upd_same, paired_append (paired_mono (fun _ _ => mono _ _ _ _ gr) h4) (.cons (mono _ _ _ _ gr hy) .nil), by rw [List.length_append]; omega⟩
    · have hne : l' ≠ l := fun e => hk (b.inj _ _ l hv (e ▸ h))
      rw [if_neg (by simpa using hk), List.append_nil]
      exact ⟨l', ys', rfl, h1, h2, by rw [upd_ne hne]; exact h3, paired_mono (fun _ _ => mono _ _ _ _ gr) h4, h5⟩
  · rw [filter_snoc, b.nokey k h]
    by_cases hk : key t = k
    · subst hk; rw [hv] at h; cases h
    · rw [if_neg (by simpa using hk)]; rfl
theorem Bk.new (mono : ∀ (H H' : Hp) (t : α) (v : V), GT H H' → R H t v → R H' t v) (b : Bk R key H0 H d ts kvs) {t : α} {y : V} {p : Addr} {o od : HO} (hv : valV kvs (key t) = none) (hp0 : H0 p = none) (hpd : p ≠ d) (hd : H d = some od) (n1 : ∀ xs, od ≠ .tup xs) (n2 : ∀ u xs, od ≠ .frz u (.tup xs)) (hpn : ∀ k, valV kvs k ≠ some (.ref p)) (hp : H p = some (.lst [])) (hy : R H t y) :
    Bk R key H0 (upd (upd H d o) p (.lst [y])) d (ts ++ [t]) (putK kvs (key t) (.ref p)) := by
  have g1 := gt_upd hd n1 n2 o
  have hp1 : upd H d o p = some (.lst []) := by rw [upd_ne hpd]; exact hp
  have gr := g1.trans (gt_lst hp1 (.lst [y]))
  refine ⟨fun k v h => ?_, fun k h => ?_, fun k k' l h h' => ?_, ?_⟩
  · rw [valV_put] at h
    rw [filter_snoc]
    by_cases hk : k = key t
    · subst hk
      rw [if_pos rfl] at h; cases h
      rw [if_pos (by simp), b.nokey _ hv]
      exact ⟨p, [y], rfl, hp0, hpd, upd_same, .cons (mono _ _ _ _ gr hy) .nil, Nat.zero_lt_one⟩
    · rw [if_neg hk] at h
      obtain ⟨l', ys', rfl, h1, h2, h3, h4, h5⟩ := b.there k v h
      have hne : l' ≠ p := fun e => hpn k (e ▸ h)
      rw [if_neg (by simpa using fun e => hk (Eq.symm e)), List.append_nil]
      exact ⟨l', ys', rfl, h1, h2, by rw [upd_ne hne, upd_ne h2]; exact h3, paired_mono (fun _ _ => mono _ _ _ _ gr) h4, h5⟩
  · rw [valV_put] at h
    by_cases hk : k = key t
    · rw [if_pos hk] at h; cases h
    · rw [if_neg hk] at h
      rw [filter_snoc, b.nokey k h, if_neg (by simpa using fun e => hk (Eq.symm e))]; rfl
  · rw [valV_put] at h h'
    by_cases hk : k = key t
    · rw [if_pos hk] at h; cases h
      by_cases hk' : k' = key t
      · rw [hk, hk']
      · rw [if_neg hk'] at h'; exact absurd h' (hpn k')
    · rw [if_neg hk] at h
      by_cases hk' : k' = key t
      · rw [if_pos hk'] at h'; cases h'; exact absurd h (hpn k)
      · rw [if_neg hk'] at h'; exact b.inj k k' l h h'
  · have h1 := length_putK kvs (key t) (.ref p)
    have h2 := b.len
    rw [List.length_append, List.length_singleton]; omega
end
noncomputable def stKey (t : Stp) : List Key := [Sum.inl t.1, Sum.inr t.2.1]
noncomputable def mkKey (m : Mk) : Key := Sum.inl m.1
def WdV (_ : Hp) (m : Mk) (v : V) : Prop := v = .str m.2
def StepD (K : PySem.W.Frag) (H0 H : Hp) (ts : List Stp) (v : V) : Prop := ∃ d kvs, v = .ref d ∧ H d = some (.dT kvs) ∧ Bk (StV K) stKey H0 H d ts kvs
def EndD (H0 H : Hp) (ms : List Mk) (v : V) : Prop := ∃ d kvs, v = .ref d ∧ H d = some (.dK kvs) ∧ Bk WdV mkKey H0 H d ms kvs
theorem StepD.mono {K : PySem.W.Frag} {H0 H H' : Hp} {ts : List Stp} {v : V} (g : Same H H') : StepD K H0 H ts v → StepD K H0 H' ts v := fun ⟨d, kvs, e, h, b⟩ => ⟨d, kvs, e, g _ _ h, b.mono (stv_gt K) g⟩
theorem EndD.mono {H0 H H' : Hp} {ts : List Mk} {v : V} (g : Same H H') : EndD H0 H ts v → EndD H0 H' ts v := fun ⟨d, kvs, e, h, b⟩ => ⟨d, kvs, e, g _ _ h, b.mono (fun _ _ _ _ _ h => h) g⟩
def spSteps (K : PySem.W.Frag) : Sp := fun vs H Q _ => ∃ v s pb ps pe, vs = [v] ∧ ScV K H s v pb ps pe ∧ s.steps.length ≤ 999 ∧ ∀ v' H', Same H H' → StepD K H H' s.steps v' → Q v' H'
def spEnds (K : PySem.W.Frag) : Sp := fun vs H Q _ => ∃ v s pb ps pe, vs = [v] ∧ ScV K H s v pb ps pe ∧ s.ends.length ≤ 999 ∧ ∀ v' H', Same H H' → EndD H H' s.ends v' → Q v' H'

def spRefuse (K : PySem.W.Frag) (c : Addr) : Sp := fun vs H Q E => ∃ p n, vs = [.ref p] ∧ ((∃ ys, SqL K H p ys ∧ n = ys.length) ∨ DLen H p n) ∧ (n ≤ 1000 → Q .non H) ∧ (1000 < n → E (.ref c) none H)

theorem Paired.head {α β : Type} {F : α → β → Prop} {l : List α} {m : List β} (h : Paired F l m) (n : 0 < m.length) : ∃ a l' b m', l = a :: l' ∧ m = b :: m' ∧ F a b := by
  cases h with
  | nil => cases n
  | cons r t => exact ⟨_, _, _, _, rfl, rfl, r⟩
theorem StepD.get {K : PySem.W.Frag} {H0 H : Hp} {ts : List Stp} {v : V} {r : Int} {g : Str} {p : Addr} (h : StepD K H0 H ts v) (hp : H p = some (.tup [V.int r, V.str g])) :
    ∃ d o, v = .ref d ∧ DGet H d (.ref p) o ∧ (o = none → ts.filter (fun t => decide (stKey t = [Sum.inl r, Sum.inr g])) = []) ∧
      ∀ u, o = some u → ∃ l t l' y ys, u = .ref l ∧ H l = some (.lst (y :: ys)) ∧ ts.filter (fun t => decide (stKey t = [Sum.inl r, Sum.inr g])) = t :: l' ∧ Paired (StV K H) (t :: l') (y :: ys) := by
  obtain ⟨d, kvs, rfl, hd, bk⟩ := h
  refine ⟨d, valV kvs [Sum.inl r, Sum.inr g], rfl, DGet.t (k := [Sum.inl r, Sum.inr g]) hd hp, fun z => bk.nokey _ z, fun u hu => ?_⟩
  obtain ⟨l, ys, rfl, _, _, h3, h4, h5⟩ := bk.there _ _ hu
  obtain ⟨t, l', y, ys', e1, rfl, _⟩ := Paired.head h4 h5
  rw [e1] at h4
  exact ⟨l, t, l', y, ys', rfl, h3, e1, h4⟩
theorem EndD.get {H0 H : Hp} {ms : List Mk} {v : V} {r : Int} (h : EndD H0 H ms v) :
    ∃ d o, v = .ref d ∧ DGet H d (.int r) o ∧ (o = none → ms.filter (fun t => decide (mkKey t = Sum.inl r)) = []) ∧
      ∀ u, o = some u → ∃ l t l' y ys, u = .ref l ∧ H l = some (.lst (y :: ys)) ∧ ms.filter (fun t => decide (mkKey t = Sum.inl r)) = t :: l' ∧ Paired (WdV H) (t :: l') (y :: ys) := by
  obtain ⟨d, kvs, rfl, hd, bk⟩ := h
  refine ⟨d, valV kvs (Sum.inl r), rfl, DGet.k (k := Sum.inl r) hd, fun z => bk.nokey _ z, fun u hu => ?_⟩
  obtain ⟨l, ys, rfl, _, _, h3, h4, h5⟩ := bk.there _ _ hu
  obtain ⟨t, l', y, ys', e1, rfl, _⟩ := Paired.head h4 h5
  rw [e1] at h4
  exact ⟨l, t, l', y, ys', rfl, h3, e1, h4⟩
def Lens (s : Scr) : Prop := s.begins.length ≤ 999 ∧ s.steps.length ≤ 999 ∧ s.ends.length ≤ 999
noncomputable def addM {α : Type} [DecidableEq α] (acc : List α) (m : α) : List α := if m ∈ acc then acc else acc ++ [m]
noncomputable def onceM {α : Type} [DecidableEq α] (xs : List α) : List α := xs.foldl addM []
theorem once_snoc {α : Type} [DecidableEq α] (xs : List α) (x : α) : onceM (xs ++ [x]) = addM (onceM xs) x := by unfold onceM; rw [List.foldl_append]; rfl
theorem add_le {α : Type} [DecidableEq α] (acc : List α) (m : α) : acc.length ≤ (addM acc m).length := by
  unfold addM; split
  · exact Nat.le_refl _
  · rw [List.length_append]; omega
theorem fold_le {α : Type} [DecidableEq α] : ∀ (xs acc : List α), acc.length ≤ (xs.foldl addM acc).length
  | [], _ => Nat.le_refl _
  | x :: xs, acc => Nat.le_trans (add_le acc x) (fold_le xs (addM acc x))
theorem once_le {α : Type} [DecidableEq α] (xs ys : List α) : (onceM xs).length ≤ (onceM (xs ++ ys)).length := by
  unfold onceM; rw [List.foldl_append]; exact fold_le _ _
theorem once_len {α : Type} [DecidableEq α] (xs : List α) : (onceM xs).length ≤ xs.length := by
  have go : ∀ (xs acc : List α), (xs.foldl addM acc).length ≤ acc.length + xs.length := by
    intro xs
    induction xs with
    | nil => intro acc; exact Nat.le_refl _
    | cons x xs ih =>
      intro acc
      have h := ih (addM acc x)
      have : (addM acc x).length ≤ acc.length + 1 := by
        unfold addM; split
        · omega
        · rw [List.length_append]; exact Nat.le_refl _
      rw [List.foldl_cons, List.length_cons]; omega
  have := go xs []
  unfold onceM
  simpa using this
theorem put_keys {κ : Type} [DecidableEq κ] (kvs : List (κ × V)) (k : κ) (v : V) : (putK kvs k v).map (·.1) = addM (kvs.map (·.1)) k := by
  have hm : (kvs.any fun kv => decide (kv.1 = k)) = true ↔ k ∈ kvs.map (·.1) := by
    rw [List.any_eq_true, List.mem_map]
    exact ⟨fun ⟨x, h1, h2⟩ => ⟨x, h1, of_decide_eq_true h2⟩, fun ⟨x, h1, h2⟩ => ⟨x, h1, decide_eq_true h2⟩⟩
  unfold putK addM
  by_cases h : k ∈ kvs.map (·.1)
  · rw [if_pos (hm.mpr h), if_pos h, List.map_map]
    refine List.map_congr_left fun x _ => ?_
    show (if x.1 = k then _ else _ : κ × V).1 = x.1
    split
    · rename_i e; first | exact e.symm | rfl
    · rfl
  · rw [if_neg (fun z => h (hm.mp z)), if_neg h, List.map_append]; rfl
theorem add_map {α β : Type} [DecidableEq α] [DecidableEq β] {f : α → β} (inj : ∀ a b, f a = f b → a = b) (acc : List α) (m : α) : (addM acc m).map f = addM (acc.map f) (f m) := by
  have hm : f m ∈ acc.map f ↔ m ∈ acc := by
    rw [List.mem_map]
    exact ⟨fun ⟨x, h1, h2⟩ => inj _ _ h2 ▸ h1, fun h => ⟨m, h, rfl⟩⟩
  unfold addM
  by_cases h : m ∈ acc
  · rw [if_pos h, if_pos (hm.mpr h)]
  · rw [if_neg h, if_neg (fun z => h (hm.mp z)), List.map_append]; rfl
noncomputable def pKey (m : Mk) : List Key := [Sum.inl m.1, Sum.inr m.2]
theorem pKey_inj (a b : Mk) (h : pKey a = pKey b) : a = b := by
  unfold pKey at h
  injection h with h1 h2
  injection h2 with h2 h3
  injection h1 with h1; injection h2 with h2
  exact Prod.ext h1 h2
noncomputable def onM (ts : List Stp) (k : Nat) (c : Mk) : List Mk := (ts.filter (fun t => decide (stKey t = [Sum.inl c.1, Sum.inr (⟨#[k]⟩ : Str)]))).map fun t => (t.2.2.2, c.2 ++ t.2.2.1)
noncomputable def newsM (ts : List Stp) (P : List Mk) (k : Nat) : List Mk := P.flatMap (onM ts k)
noncomputable def behindM (ts : List Stp) (P : List Mk) (k : Nat) : List Mk := onceM (newsM ts P k)
theorem flat_take {α β : Type} (f : α → List β) {xs : List α} {i : Nat} {x : α} (h : xs[i]? = some x) : (xs.take (i + 1)).flatMap f = (xs.take i).flatMap f ++ f x := by
  rw [take_get h, List.flatMap_append, List.flatMap_singleton]
theorem flat_cut {α β : Type} (f : α → List β) {xs : List α} {i : Nat} {x : α} (h : xs[i]? = some x) : ∃ r, xs.flatMap f = (xs.take i).flatMap f ++ f x ++ r := by
  refine ⟨(xs.drop (i + 1)).flatMap f, ?_⟩
  rw [← flat_take f h, ← List.flatMap_append, List.take_append_drop]
def PrV (K : PySem.W.Frag) (H : Hp) (P : List Mk) (v : V) : Prop := ∃ p xs, v = .ref p ∧ SqL K H p xs ∧ Paired (MkV K H) P xs
theorem PrV.mono {K : PySem.W.Frag} {H H' : Hp} {P : List Mk} {v : V} (g : Same H H') : PrV K H P v → PrV K H' P v := fun ⟨p, xs, e, h, h'⟩ => ⟨p, xs, e, g.seq h, paired_mono (fun _ _ => MkV.mono (Same.grow g)) h'⟩
theorem StepD.get2 {K : PySem.W.Frag} {H0 H : Hp} {ts : List Stp} {v : V} {r : Int} {g : Str} {p l : Addr} (h : StepD K H0 H ts v) (hp : H p = some (.tup [V.int r, V.str g])) (hl : H l = some (.lst [])) :
    ∃ d o la ys, v = .ref d ∧ DGet H d (.ref p) o ∧ o.getD (.ref l) = .ref la ∧ H la = some (.lst ys) ∧ Paired (StV K H) (ts.filter (fun t => decide (stKey t = [Sum.inl r, Sum.inr g]))) ys := by
  obtain ⟨d, o, e, h1, h2, h3⟩ := h.get hp
  cases ho : o with
  | none => exact ⟨d, none, l, [], e, ho ▸ h1, rfl, hl, by rw [h2 ho]; exact .nil⟩
  | some u =>
    obtain ⟨l1, t, l', y, ys, rfl, h4, h5, h6⟩ := h3 u ho
    exact ⟨d, _, l1, y :: ys, e, ho ▸ h1, rfl, h4, by rw [h5]; exact h6⟩
theorem EndD.get2 {H0 H : Hp} {ms : List Mk} {v : V} {r : Int} {l : Addr} (h : EndD H0 H ms v) (hl : H l = some (.lst [])) :
    ∃ d o la ys, v = .ref d ∧ DGet H d (.int r) o ∧ o.getD (.ref l) = .ref la ∧ H la = some (.lst ys) ∧ Paired (WdV H) (ms.filter (fun t => decide (mkKey t = Sum.inl r))) ys := by
  obtain ⟨d, o, e, h1, h2, h3⟩ := h.get (r := r)
  cases ho : o with
  | none => exact ⟨d, none, l, [], e, ho ▸ h1, rfl, hl, by rw [h2 ho]; exact .nil⟩
  | some u =>
    obtain ⟨l1, t, l', y, ys, rfl, h4, h5, h6⟩ := h3 u ho
    exact ⟨d, _, l1, y :: ys, e, ho ▸ h1, rfl, h4, by rw [h5]; exact h6⟩
theorem StepD.ty {K : PySem.W.Frag} {H0 H : Hp} {ts : List Stp} {v : V} (h : StepD K H0 H ts v) : tyV K "dict" v H := by
  obtain ⟨d, kvs, rfl, hd, _⟩ := h
  exact .inr (.inr (.inl ⟨rfl, .inr ⟨kvs, hd⟩⟩))
theorem EndD.ty {K : PySem.W.Frag} {H0 H : Hp} {ts : List Mk} {v : V} (h : EndD H0 H ts v) : tyV K "dict" v H := by
  obtain ⟨d, kvs, rfl, hd, _⟩ := h
  exact .inr (.inr (.inl ⟨rfl, .inl ⟨kvs, hd⟩⟩))
def spPairs (K : PySem.W.Frag) (c : Addr) : Sp := fun vs H Q E => ∃ pv k sv H0 P ts, vs = [pv, .str ⟨#[k]⟩, sv] ∧ PrV K H P pv ∧ StepD K H0 H ts sv ∧ P.length ≤ 1000 ∧ (∀ m ∈ P, m.2.length ≤ 50000) ∧ (∀ t ∈ ts, t.2.2.1.length ≤ 100) ∧
  ((behindM ts P k).length ≤ 1000 → ∀ v' H', Same H H' → PrV K H' (behindM ts P k) v' → Q v' H') ∧ (1000 < (behindM ts P k).length → ∀ H', Same H H' → E (.ref c) none H')
theorem mk_of_keys {K : PySem.W.Frag} {H : Hp} : ∀ {kvs : List (List Key × V)} {bs : List Addr} {ms : List Mk}, Paired (fun (kv : List Key × V) b => H b = some (.tup (kv.1.map kV))) kvs bs → kvs.map (·.1) = ms.map pKey → Paired (MkV K H) ms (bs.map V.ref)
  | [], _, ms, .nil, e => by
    cases ms with
    | nil => exact .nil
    | cons _ _ => cases e
  | kv :: kvs, _, ms, .cons r t, e => by
    cases ms with
    | nil => cases e
    | cons m ms =>
      rw [List.map_cons, List.map_cons] at e
      injection e with e1 e2
      refine .cons ⟨_, rfl, SqT.of ?_⟩ (mk_of_keys t e2)
      rw [r, e1]; rfl

noncomputable def pairsM (s : Scr) (ks : List Nat) : Option (List Mk) := ks.foldl (fun o k => o.bind fun P => if (behindM s.steps P k).length ≤ 1000 then some (behindM s.steps P k) else none) (some s.begins)
theorem pairs_none (s : Scr) : ∀ ks : List Nat, ks.foldl (fun o k => o.bind fun P => if (behindM s.steps P k).length ≤ 1000 then some (behindM s.steps P k) else none) (none : Option (List Mk)) = none
  | [] => rfl
  | _ :: ks => pairs_none s ks
theorem pairs_take {s : Scr} {ks : List Nat} {i : Nat} {k : Nat} (h : ks[i]? = some k) : pairsM s (ks.take (i + 1)) = (pairsM s (ks.take i)).bind fun P => if (behindM s.steps P k).length ≤ 1000 then some (behindM s.steps P k) else none := by
  unfold pairsM
  rw [take_get h, List.foldl_append]; rfl
theorem pairs_cut {s : Scr} {ks : List Nat} {i : Nat} (h : pairsM s (ks.take i) = none) : pairsM s ks = none := by
  have e : ks = ks.take i ++ ks.drop i := (List.take_append_drop i ks).symm
  unfold pairsM at *
  rw [e, List.foldl_append, h, pairs_none]
noncomputable def wOnM (s : Scr) (c : Mk) : List Str := (s.ends.filter (fun m => decide (mkKey m = Sum.inl c.1))).map fun m => c.2 ++ m.2
noncomputable def wordsM (s : Scr) (P : List Mk) : List Str := onceM (P.flatMap (wOnM s))
theorem once_mem {α : Type} [DecidableEq α] {xs : List α} {x : α} (h : x ∈ onceM xs) : x ∈ xs := by
  have go : ∀ (xs acc : List α), x ∈ xs.foldl addM acc → x ∈ acc ∨ x ∈ xs := by
    intro xs
    induction xs with
    | nil => intro acc h; exact .inl h
    | cons y ys ih =>
      intro acc h
      rcases ih _ h with h | h
      · unfold addM at h
        split at h
        · exact .inl h
        · rcases List.mem_append.mp h with h | h
          · exact .inl h
          · exact .inr (by rw [List.mem_singleton.mp h]; exact List.mem_cons_self ..)
      · exact .inr (List.mem_cons_of_mem _ h)
  rcases go xs [] h with h | h
  · cases h
  · exact h
theorem behind_len {s : Scr} {P : List Mk} {k n : Nat} (hs : ∀ t ∈ s.steps, t.2.2.1.length ≤ 100) (h : ∀ m ∈ P, m.2.length ≤ n) : ∀ m ∈ behindM s.steps P k, m.2.length ≤ n + 100 := fun m hm => by
  obtain ⟨c, hc, hm⟩ := List.mem_flatMap.mp (once_mem hm)
  unfold onM at hm
  obtain ⟨t, ht, rfl⟩ := List.mem_map.mp hm
  have h1 := hs t (List.mem_filter.mp ht).1
  have h2 := h c hc
  show (c.2 ++ t.2.2.1).length ≤ n + 100
  rw [len_app]; omega
theorem flat_len {α β : Type} {f : α → List β} {n : Nat} (h : ∀ x, (f x).length ≤ n) : ∀ xs : List α, (xs.flatMap f).length ≤ n * xs.length
  | [] => Nat.zero_le _
  | x :: xs => by
    have h1 := h x
    have h2 := flat_len h xs
    rw [List.flatMap_cons, List.length_append, List.length_cons, Nat.mul_succ]; omega
theorem key_iff (t : Stp) (r : Int) (g : Str) : stKey t = [Sum.inl r, Sum.inr g] ↔ t.1 = r ∧ t.2.1 = g := by
  constructor
  · intro h
    injection h with h1 h2
    injection h2 with h2 _
    injection h1 with h1; injection h2 with h2
    exact ⟨h1, h2⟩
  · rintro ⟨rfl, rfl⟩; rfl
theorem mkey_iff (m : Mk) (r : Int) : mkKey m = Sum.inl r ↔ m.1 = r := ⟨fun h => by injection h, fun h => by rw [← h]; rfl⟩
def spText : Sp := fun vs H Q _ => ∃ (c : Int) (g : Str), vs = [.int c, .str g] ∧ 1 ≤ g.length ∧ g.length ≤ 5 ∧ ∀ y : Str, y.length ≤ 12 → Q (.str y) H
def spLaw (K : PySem.W.Frag) : Sp := fun vs H Q _ => ∃ (a : Addr) (ns : List Int), vs = [.ref a] ∧ SqL K H a (ns.map V.int) ∧ ns.length ≤ 63 ∧ ∀ H', Q (.bl true) H'

def spAllX (K : PySem.W.Frag) (c : Addr) : Sp := fun vs H Q E => ∃ v s pb ps pe x, vs = [v, .str x] ∧ ScV K H s v pb ps pe ∧ Lens s ∧ Short s ∧ x.length ≤ 100 ∧
  (∀ P, pairsM s (cl x) = some P → ∀ l ss H', Same H H' → H l = none → ss.Perm (wordsM s P) → ss.Pairwise leT → H' l = some (StL' l ss) → Q (.ref l) H') ∧ (pairsM s (cl x) = none → ∀ H', Same H H' → E (.ref c) none H')

def Tot (pb ps pe : Addr) (n : Nat) (H : Hp) : Prop := ∃ xb xs xe, H pb = some (.lst xb) ∧ H ps = some (.lst xs) ∧ H pe = some (.lst xe) ∧ xb.length + xs.length + xe.length ≤ n
theorem Tot.mono {pb ps pe : Addr} {n m : Nat} {H H' : Hp} (h : Tot pb ps pe n H) (g : Same H H') (l : n ≤ m) : Tot pb ps pe m H' := by
  obtain ⟨xb, xs, xe, a, b, c, d⟩ := h
  exact ⟨xb, xs, xe, g _ _ a, g _ _ b, g _ _ c, by omega⟩
theorem Tot.b {pb ps pe : Addr} {n : Nat} {H H0 : Hp} {xb : List V} {v : V} (h : Tot pb ps pe n H) (A : Apart H0 pb ps pe) (e : H pb = some (.lst xb)) : Tot pb ps pe (n + 1) (upd H pb (.lst (xb ++ [v]))) := by
  obtain ⟨yb, xs, xe, a, b, c, d⟩ := h
  rw [a] at e; injection e with e; injection e with e; subst e
  exact ⟨_, xs, xe, upd_same, by rw [upd_ne A.bs.symm]; exact b, by rw [upd_ne A.be.symm]; exact c, by rw [List.length_append, List.length_singleton]; omega⟩
theorem Tot.s {pb ps pe : Addr} {n : Nat} {H H0 : Hp} {xs : List V} {v : V} (h : Tot pb ps pe n H) (A : Apart H0 pb ps pe) (e : H ps = some (.lst xs)) : Tot pb ps pe (n + 1) (upd H ps (.lst (xs ++ [v]))) := by
  obtain ⟨xb, ys, xe, a, b, c, d⟩ := h
  rw [b] at e; injection e with e; injection e with e; subst e
  exact ⟨xb, _, xe, by rw [upd_ne A.bs]; exact a, upd_same, by rw [upd_ne A.se.symm]; exact c, by rw [List.length_append, List.length_singleton]; omega⟩
theorem Tot.e {pb ps pe : Addr} {n : Nat} {H H0 : Hp} {xe : List V} {v : V} (h : Tot pb ps pe n H) (A : Apart H0 pb ps pe) (e : H pe = some (.lst xe)) : Tot pb ps pe (n + 1) (upd H pe (.lst (xe ++ [v]))) := by
  obtain ⟨xb, xs, ye, a, b, c, d⟩ := h
  rw [c] at e; injection e with e; injection e with e; subst e
  exact ⟨xb, xs, _, by rw [upd_ne A.be]; exact a, by rw [upd_ne A.se]; exact b, upd_same, by rw [List.length_append, List.length_singleton]; omega⟩
theorem Tot.le {pb ps pe : Addr} {n : Nat} {H : Hp} {xb xs xe : List V} (h : Tot pb ps pe n H) (h1 : H pb = some (.lst xb)) (h2 : H ps = some (.lst xs)) (h3 : H pe = some (.lst xe)) : xb.length + xs.length + xe.length ≤ n := by
  obtain ⟨yb, ys, ye, a, b, c, d⟩ := h
  rw [a] at h1; rw [b] at h2; rw [c] at h3
  injection h1 with h1; injection h1 with h1; injection h2 with h2; injection h2 with h2; injection h3 with h3; injection h3 with h3
  subst h1 h2 h3; exact d
def spScribeT (K : PySem.W.Frag) : Sp := fun vs H Q _ => ∃ (a : Addr) (ns : List Int) (at_ : Int) (pl : Bool), vs = [.ref a, .int at_, .bl pl] ∧ SqL K H a (ns.map V.int) ∧ ns.length ≤ 63 ∧ 0 ≤ at_ ∧ at_ ≤ 63 ∧ ∀ v H' s pb ps pe, NewS K H H' pl 95 s v pb ps pe → s.begins.length + s.steps.length + s.ends.length ≤ 33 → Q v H'

def WideOk (s : Scr) : Prop := s.signs = "ab" ∧ s.begins.length = 1 ∧ s.steps.length ≤ 8 ∧ s.ends.length = 2 ∧ Short s
def spWide (K : PySem.W.Frag) : Sp := fun vs H Q _ => ∃ (a : Addr) (ns : List Int), vs = [.ref a] ∧ SqL K H a (ns.map V.int) ∧ ∀ v H' s pb ps pe, Same H H' → ScV K H' s v pb ps pe → WideOk s → Q v H'
def StOk (t : Stp) : Prop := t.2.1.length ≤ 1 ∧ t.2.2.1.length ≤ 2
def WI (K : PySem.W.Frag) (H0 : Hp) (ps : Addr) (n : Nat) (H : Hp) : Prop := Same H0 H ∧ ∃ S xs, H ps = some (.lst xs) ∧ Paired (StV K H) S xs ∧ S.length ≤ n ∧ ∀ t ∈ S, StOk t
theorem WI.mono {K : PySem.W.Frag} {H0 H H' : Hp} {ps : Addr} {n m : Nat} (h : WI K H0 ps n H) (g : Same H H') (l : n ≤ m) : WI K H0 ps m H' := by
  obtain ⟨g0, S, xs, a, b, c, d⟩ := h
  exact ⟨g0.trans g, S, xs, g _ _ a, paired_mono (fun _ _ => StV.mono (Same.grow g)) b, by omega, d⟩
theorem WI.add {K : PySem.W.Frag} {H0 H : Hp} {ps : Addr} {n : Nat} {xs : List V} {t : Stp} {v : V} (h : WI K H0 ps n H) (f : H0 ps = none) (e : H ps = some (.lst xs)) (ht : StOk t) (hv : StV K H t v) : WI K H0 ps (n + 1) (upd H ps (.lst (xs ++ [v]))) := by
  obtain ⟨g0, S, ys, a, b, c, d⟩ := h
  rw [a] at e; injection e with e; injection e with e; subst e
  have gr := grow_upd a (.lst (ys ++ [v]))
  refine ⟨same_updN g0 f, S ++ [t], _, upd_same, paired_append (paired_mono (fun _ _ => StV.mono gr) b) (.cons (StV.mono gr hv) .nil), by rw [List.length_append, List.length_singleton]; omega, fun u hu => ?_⟩
  rcases List.mem_append.mp hu with hu | hu
  · exact d u hu
  · rw [List.mem_singleton.mp hu]; exact ht

def StsV (K : PySem.W.Frag) (H : Hp) (S : List Stp) (v : V) : Prop := ∃ p xs, v = .ref p ∧ SqL K H p xs ∧ Paired (StV K H) S xs
def spNext (K : PySem.W.Frag) : Sp := fun vs H Q _ => ∃ sv pv k S P, vs = [sv, pv, .str ⟨#[k]⟩] ∧ StsV K H S sv ∧ PrV K H P pv ∧ P.length ≤ 1000 ∧ S.length ≤ 33 ∧ (∀ m ∈ P, m.2.length ≤ 50000) ∧ (∀ t ∈ S, t.2.2.1.length ≤ 100) ∧
  ∀ v' H', Same H H' → PrV K H' (behindM S P k) v' → Q v' H'
theorem flatLe {α β : Type} (f : α → List β) (n : Nat) : ∀ xs : List α, (∀ x ∈ xs, (f x).length ≤ n) → (xs.flatMap f).length ≤ n * xs.length
  | [], _ => Nat.le_refl _
  | x :: xs, h => by
    have h1 := h x (List.mem_cons_self ..)
    have h2 := flatLe f n xs fun y hy => h y (List.mem_cons_of_mem _ hy)
    rw [List.flatMap_cons, List.length_append, List.length_cons, Nat.mul_succ]; omega
theorem onM_le (S : List Stp) (k : Nat) (c : Mk) : (onM S k c).length ≤ S.length := by
  unfold onM; rw [List.length_map]; exact List.length_filter_le _ _
theorem onM_snoc {S : List Stp} {k : Nat} {c : Mk} {j : Nat} {t : Stp} (h : S[j]? = some t) : onM (S.take (j + 1)) k c = onM (S.take j) k c ++ (if stKey t = [Sum.inl c.1, Sum.inr (⟨#[k]⟩ : Str)] then [(t.2.2.2, c.2 ++ t.2.2.1)] else []) := by
  unfold onM
  rw [take_get h, List.filter_append, List.map_append]
  by_cases e : stKey t = [Sum.inl c.1, Sum.inr (⟨#[k]⟩ : Str)] <;> simp [e]
def NI (K : PySem.W.Frag) (H : Hp) (d fl : Addr) (L : List Mk) : Prop := ∃ kvs fs, H d = some (.dT kvs) ∧ kvs.map (·.1) = (onceM L).map pKey ∧ H fl = some (.lst fs) ∧ Paired (MkV K H) (onceM L) fs
theorem NI.mono {K : PySem.W.Frag} {H H' : Hp} {d fl : Addr} {L : List Mk} (h : NI K H d fl L) (g : Same H H') : NI K H' d fl L := by
  obtain ⟨kvs, fs, a, b, c, e⟩ := h
  exact ⟨kvs, fs, g _ _ a, b, g _ _ c, paired_mono (fun _ _ => MkV.mono (Same.grow g)) e⟩
theorem NI.put {K : PySem.W.Frag} {H : Hp} {d fl : Addr} {L : List Mk} {m : Mk} {kvs : List (List Key × V)} {fs : List V} (hne : fl ≠ d) (h1 : H d = some (.dT kvs)) (h2 : kvs.map (·.1) = (onceM L).map pKey) (h3 : H fl = some (.lst fs)) (h4 : Paired (MkV K H) (onceM L) fs) (hn : m ∉ onceM L)
    {H2 : Hp} {p : Addr} (g : Same (upd H d (.dT (putK kvs (pKey m) (.bl true)))) H2) (hp : SqT K H2 p [.int m.1, .str m.2]) : NI K (upd H2 fl (.lst (fs ++ [.ref p]))) d fl (L ++ [m]) := by
  have gt := gt_upd h1 (fun _ z => nomatch z) (fun _ _ z => nomatch z) (.dT (putK kvs (pKey m) (.bl true)))
  have e3 : upd H d (.dT (putK kvs (pKey m) (.bl true))) fl = some (.lst fs) := by rw [upd_ne hne]; exact h3
  have gr := grow_upd (g _ _ e3) (.lst (fs ++ [.ref p]))
  have eo : onceM (L ++ [m]) = onceM L ++ [m] := by rw [once_snoc]; unfold addM; rw [if_neg hn]
  refine ⟨_, _, by rw [upd_ne hne.symm]; exact g _ _ upd_same, ?_, upd_same, ?_⟩
  · rw [put_keys, h2, ← add_map pKey_inj, once_snoc]
  · rw [eo]
    exact paired_append (paired_mono (fun _ _ => MkV.mono gr) (paired_mono (fun _ _ => MkV.mono (Same.grow g)) (paired_mono (fun _ _ ⟨b, e, h⟩ => ⟨b, e, gt.seqT h⟩) h4))) (.cons (MkV.mono gr ⟨p, rfl, hp⟩) .nil)
theorem NI.same {K : PySem.W.Frag} {H : Hp} {d fl : Addr} {L : List Mk} {m : Mk} (h : NI K H d fl L) (hm : m ∈ onceM L) : NI K H d fl (L ++ [m]) := by
  unfold NI
  have eo : onceM (L ++ [m]) = onceM L := by rw [once_snoc]; unfold addM; rw [if_pos hm]
  rw [eo]; exact h
theorem key_has {kvs : List (List Key × V)} {L : List Mk} (m : Mk) (h2 : kvs.map (·.1) = (onceM L).map pKey) : (valV kvs (pKey m)).isSome = true ↔ m ∈ onceM L := by
  rw [← valV_any, List.any_eq_true]
  constructor
  · rintro ⟨x, h, e⟩
    have : x.1 ∈ (onceM L).map pKey := h2 ▸ List.mem_map.mpr ⟨x, h, rfl⟩
    obtain ⟨m', hm', e'⟩ := List.mem_map.mp this
    rw [of_decide_eq_true e] at e'
    rw [← pKey_inj _ _ e']; exact hm'
  · intro h
    have : pKey m ∈ kvs.map (·.1) := h2 ▸ List.mem_map.mpr ⟨m, h, rfl⟩
    obtain ⟨x, hx, e⟩ := List.mem_map.mp this
    exact ⟨x, hx, decide_eq_true e⟩

def Tame (s : Scr) : Prop := s.begins.length + s.steps.length + s.ends.length ≤ 33 ∧ Short s
def spDue15 (K : PySem.W.Frag) : Sp := fun vs H Q _ => ∃ v s pb ps pe x, vs = [v, .str x] ∧ ScV K H s v pb ps pe ∧ Tame s ∧ x.length ≤ 30 ∧
  (∀ P, pairsM s (cl x) = some P → ∀ l ss H', Same H H' → H l = none → ss.Perm (onceS (P.flatMap (wOnM s))) → ss.Pairwise leT → H' l = some (StL' l ss) → Q (.ref l) H') ∧ (pairsM s (cl x) = none → ∀ H', Same H H' → Q .non H')
noncomputable def wOnE (E : List Mk) (c : Mk) : List Str := (E.filter (fun m => decide (mkKey m = Sum.inl c.1))).map fun m => c.2 ++ m.2
theorem wOnE_le (E : List Mk) (c : Mk) : (wOnE E c).length ≤ E.length := by
  unfold wOnE; rw [List.length_map]; exact List.length_filter_le _ _
theorem wOnE_snoc {E : List Mk} {c : Mk} {j : Nat} {m : Mk} (h : E[j]? = some m) : wOnE (E.take (j + 1)) c = wOnE (E.take j) c ++ (if m.1 = c.1 then [c.2 ++ m.2] else []) := by
  unfold wOnE
  rw [take_get h, List.filter_append, List.map_append]
  by_cases e : m.1 = c.1 <;> simp [e, mkey_iff]
theorem pairs_few {s : Scr} : ∀ (ks : List Nat) (P0 P : List Mk), ks.foldl (fun o k => o.bind fun P => if (behindM s.steps P k).length ≤ 1000 then some (behindM s.steps P k) else none) (some P0) = some P → (s.steps.length ≤ 1 → P.length ≤ P0.length) ∧ (P0 = [] → P = []) ∧ (P0.length ≤ 1000 → P.length ≤ 1000)
  | [], P0, P, h => by injection h with h; subst h; exact ⟨fun _ => Nat.le_refl _, fun e => e, fun e => e⟩
  | k :: ks, P0, P, h => by
    rw [List.foldl_cons] at h
    by_cases c : (behindM s.steps P0 k).length ≤ 1000
    · have e : (some P0).bind (fun P => if (behindM s.steps P k).length ≤ 1000 then some (behindM s.steps P k) else none) = some (behindM s.steps P0 k) := if_pos c
      rw [e] at h
      obtain ⟨a1, a2, a3⟩ := pairs_few ks _ _ h
      have l1 := once_len (newsM s.steps P0 k)
      refine ⟨fun hs => Nat.le_trans (a1 hs) (Nat.le_trans l1 ?_), fun hp => a2 (by subst hp; rfl), fun _ => a3 c⟩
      have := flatLe (onM s.steps k) 1 P0 fun x _ => Nat.le_trans (onM_le ..) hs
      unfold newsM; omega
    · have e : (some P0).bind (fun P => if (behindM s.steps P k).length ≤ 1000 then some (behindM s.steps P k) else none) = none := if_neg c
      rw [e, pairs_none] at h; cases h
theorem words_few {s : Scr} {ks : List Nat} {P : List Mk} (t : s.begins.length + s.steps.length + s.ends.length ≤ 33) (h : pairsM s ks = some P) : (P.flatMap (wOnM s)).length ≤ 30999 ∧ P.length ≤ 1000 := by
  obtain ⟨a1, a2, a3⟩ := pairs_few ks _ _ h
  have l3 := a3 (by omega)
  refine ⟨?_, l3⟩
  have f := flatLe (wOnM s) s.ends.length P fun c _ => wOnE_le s.ends c
  by_cases c : s.ends.length ≤ 30
  · have := Nat.mul_le_mul c l3; omega
  · by_cases c1 : s.steps.length ≤ 1
    · have := Nat.mul_le_mul (show s.ends.length ≤ 33 by omega) (Nat.le_trans (a1 c1) (show s.begins.length ≤ 33 by omega)); omega
    · have := a2 (List.eq_nil_of_length_eq_zero (by omega))
      subst this; exact Nat.zero_le _

theorem short_of {pl : Bool} {s : Scr} {n : Nat} (ok : OkS pl s n) : Short s := ⟨fun m hm => Nat.le_trans (ok.mb m hm).2.2.1 (by decide), fun t ht => ⟨by
  obtain ⟨c, _, e⟩ := (ok.ms t ht).2.2.1
  rw [e, one_len]; decide, Nat.le_trans (ok.ms t ht).2.2.2.1.1 (by decide)⟩, fun m hm => Nat.le_trans (ok.me m hm).2.2.1 (by decide)⟩

section
seal L2.PE L2.PT L2.PW L2.PA L2.PS L2.PSs L2.PC L2.PG L2.PGs L2.PI L2.PO
variable {P : Program} {w : World} {K : PySem.W.Frag} {mg : Str → Option Value} {base : Heap}
theorem sc_steps_by_start : FnScope ["scribe", "found", "step"] ["scribe"] (defScope s_steps_by_start) := ⟨rfl, rfl, rfl, by decide +kernel, rfl, by decide +kernel, by decide +kernel⟩
theorem ok_steps_by_start (B : Bi mg) {c_ScribeError c_NoWay c_NoRoom c_NotPlain c_OtherSigns c_TooMany c_TwoWays c_NeverPlain c_NoText : Addr} (XB : Xb K mg c_ScribeError c_NoWay c_NoRoom c_NotPlain c_OtherSigns c_TooMany c_TwoWays c_NeverPlain c_NoText)  {f : Addr} {fd : FuncData} (F : Fun K "steps_by_start" "steps_by_start" s_steps_by_start f fd) : FnOk P w K mg base CX0 1 f fd ["scribe"] (spSteps K) := by
  refine F.ok sc_steps_by_start (fun vs H Q E h => ?_) (fun cdv A outer s H vs Q E hr h => ?_)
  · obtain ⟨v, s, pb, ps, pe, rfl, _⟩ := h; rfl
  obtain ⟨v, s, pb, ps, pe, rfl, hV, hs, q⟩ := h
  refine ⟨_, (pss_cons (ps_set (i := 1) sc_steps_by_start.nd rfl (Or.inl rfl) pe_dnewT)
      (pss_cons (ps_for PassesOwn.never (by rfl) (kPI (K := K) (fun k => iList k _) (pi_list (pe_ix (kIx (K := K) rIxT ix_tup) (pv 0) (pe_globI (by rfl) B.STEPS) (by intro _ _; rfl)))) (pg_name (i := 2) sc_steps_by_start.nd rfl (Or.inl rfl)) (pss_one (ps_expr (kPE (K := K) (fun k => tBM k _ _ _ _) (pe_bm PySem.F.plainAttrs_list PySem.F.slot_list_append PySem.F.type_list_append mt_append (kPE (K := K) (fun k => tBM k _ _ _ _) (pe_bm PySem.F.plainAttrs_dict PySem.F.slot_dict_setdefault PySem.F.type_dict_setdefault (mt_setdefault hr) (pv 1) (pa_cons (pe_tup (pa_cons (pe_ix (kIx (K := K) rIxT ix_tup) (pv 2) pe_int (by intro _ _; rfl)) (pa_cons (pe_ix (kIx (K := K) rIxT ix_tup) (pv 2) pe_int (by intro _ _; rfl)) pa_nil))) (pa_cons (pe_lst pa_nil) pa_nil)))) (pa_cons (pv 2) pa_nil))))))
      (pss_one (ps_ret (pv 1))))), ?_⟩
  obtain ⟨a, xb, xs, xe, rfl, h1, h2, h3, h4, h5, h6, h7⟩ := hV
  rw [h6.length] at hs
  refine fun d hd => ?_
  have g0 := same_new hd (.dT [])
  refine ⟨_, rfl, _, _, _, _, rfl, rfl, Same.seqT g0 h1, rfl, ps, rfl, ⟨xs, g0.seq h3⟩, ?_⟩
  refine for_list (xs := xs) (fun i σ H' => Same H H' ∧ i ≤ xs.length ∧ (∃ x, σ = [some (.ref a), some (.ref d), x]) ∧ ∃ kvs, H' d = some (.dT kvs) ∧ Bk (StV K) stKey H H' d (s.steps.take i) kvs)
    ⟨g0, Nat.zero_le _, ⟨_, rfl⟩, [], upd_same, Bk.nil⟩ (fun i σ H' _ z => z.1.seq h3) ?_ ?_
  · rintro i x σ H1 hx ⟨g1, hi, ⟨x2, rfl⟩, kvs, hkd, bk⟩
    obtain ⟨t, ht, b, rfl, hb⟩ := paired_get h6 hx
    have hil : i < xs.length := (List.getElem?_eq_some_iff.mp hx).1
    have hb1 := (Same.grow g1).seqT hb
    have hkl : kvs.length ≤ 999 := by have := bk.len; rw [List.length_take] at this; omega
    refine ⟨_, rfl, .inr (.inr (.inl ⟨rfl, .inr ⟨kvs, hkd⟩⟩)), ?_⟩
    refine ⟨_, rfl, _, _, _, _, rfl, rfl, hb1, rfl, _, rfl, _, _, _, _, rfl, rfl, hb1, rfl, (by show 2 ≤ sizeLine; decide), fun p hp => ?_⟩
    have gp := same_new hp (.tup [V.int t.1, V.str t.2.1])
    have ep : upd H1 p (.tup [V.int t.1, V.str t.2.1]) p = some (.tup ((stKey t).map kV)) := upd_same
    refine ⟨szl (Nat.le_of_ble_eq_true rfl), fun l hl => ?_⟩
    have gl := same_new hl (.lst [])
    have hk2 := (gp.trans gl) _ _ hkd
    have bk2 := bk.mono (stv_gt K) (gp.trans gl)
    have g2 := (g1.trans gp).trans gl
    have hb2 := (Same.grow (gp.trans gl)).seqT hb1
    have el : upd (upd H1 p (.tup [V.int t.1, V.str t.2.1])) l (.lst []) l = some (.lst []) := upd_same
    have hl0 : H l = none := (g1.trans gp).free hl
    have hln : ∀ k, valV kvs k ≠ some (.ref l) := fun k hk => by
      obtain ⟨l', ys, e, _, _, h3', _⟩ := bk.there k _ hk
      injection e with e
      subst e
      rw [gp _ _ h3'] at hl; cases hl
    have hld : l ≠ d := (ne_of_none (gp _ _ hkd) hl).symm
    have ep2 := gl _ _ ep
    generalize upd (upd H1 p (.tup [V.int t.1, V.str t.2.1])) l (.lst []) = H2 at hk2 bk2 g2 hb2 el ep2 ⊢
    refine ⟨d, .ref p, .ref l, rfl, rfl, .inr ⟨kvs, stKey t, p, hk2, rfl, ep2, szl' (by omega), fun r hr2 => ?_, fun hn => ?_⟩⟩
    · obtain ⟨l2, ys, rfl, j1, j2, j3, j4, j5⟩ := bk2.there _ _ hr2
      have hyl : ys.length ≤ 999 := by
        rw [← j4.length]
        have := List.length_filter_le (fun t' => decide (stKey t' = stKey t)) (s.steps.take i)
        rw [List.length_take] at this; omega
      refine ⟨.inl ⟨rfl, _, SqL.of j3⟩, _, rfl, l2, ys, _, rfl, rfl, j3, szl' (by omega), ?_⟩
      refine ⟨same_updN g2 j1, hil, ⟨_, rfl⟩, kvs, by rw [upd_ne j2.symm]; exact hk2, ?_⟩
      rw [take_get ht]
      exact bk2.put (stv_gt K) hr2 j3 ⟨b, rfl, hb2⟩
    · have e3 : upd H2 d (.dT (putK kvs (stKey t) (.ref l))) l = some (.lst []) := by rw [upd_ne hld]; exact el
      refine ⟨.inl ⟨rfl, _, SqL.of e3⟩, _, rfl, l, [], _, rfl, rfl, e3, szl' (by simp), ?_⟩
      refine ⟨same_updN (same_updN g2 hd) hl0, hil, ⟨_, rfl⟩, putK kvs (stKey t) (.ref l), by rw [upd_ne hld.symm]; exact upd_same, ?_⟩
      rw [take_get ht]
      exact bk2.new (stv_gt K) hn hl0 hld hk2 (fun _ z => nomatch z) (fun _ _ z => nomatch z) hln el ⟨b, rfl, hb2⟩
  rintro σ H1 ⟨g1, _, ⟨x2, rfl⟩, kvs, hkd, bk⟩
  rw [← h6.length, List.take_length] at bk
  exact ⟨_, rfl, q _ _ g1 ⟨d, kvs, rfl, hkd, bk⟩⟩

theorem sc_end_words_by_room : FnScope ["scribe", "found", "room", "word"] ["scribe"] (defScope s_end_words_by_room) := ⟨rfl, rfl, rfl, by decide +kernel, rfl, by decide +kernel, by decide +kernel⟩
theorem ok_end_words_by_room (B : Bi mg) {c_ScribeError c_NoWay c_NoRoom c_NotPlain c_OtherSigns c_TooMany c_TwoWays c_NeverPlain c_NoText : Addr} (XB : Xb K mg c_ScribeError c_NoWay c_NoRoom c_NotPlain c_OtherSigns c_TooMany c_TwoWays c_NeverPlain c_NoText)  {f : Addr} {fd : FuncData} (F : Fun K "end_words_by_room" "end_words_by_room" s_end_words_by_room f fd) : FnOk P w K mg base CX0 1 f fd ["scribe"] (spEnds K) := by
  refine F.ok sc_end_words_by_room (fun vs H Q E h => ?_) (fun cdv A outer s H vs Q E hr h => ?_)
  · obtain ⟨v, s, pb, ps, pe, rfl, _⟩ := h; rfl
  obtain ⟨v, s, pb, ps, pe, rfl, hV, hs, q⟩ := h
  refine ⟨_, (pss_cons (ps_set (i := 1) sc_end_words_by_room.nd rfl (Or.inl rfl) pe_dnewK)
      (pss_cons (ps_for PassesOwn.never (by rfl) (kPI (K := K) (fun k => iList k _) (pi_list (pe_ix (kIx (K := K) rIxT ix_tup) (pv 0) (pe_globI (by rfl) B.ENDS) (by intro _ _; rfl)))) (kPG (K := K) (fun k => gTup k 2 _) (pg_tup (n := 2) (by rfl) (pgs_cons (pg_name (i := 2) sc_end_words_by_room.nd rfl (Or.inl rfl)) (pgs_cons (pg_name (i := 3) sc_end_words_by_room.nd rfl (Or.inl rfl)) pgs_nil)))) (pss_one (ps_expr (kPE (K := K) (fun k => tBM k _ _ _ _) (pe_bm PySem.F.plainAttrs_list PySem.F.slot_list_append PySem.F.type_list_append mt_append (kPE (K := K) (fun k => tBM k _ _ _ _) (pe_bm PySem.F.plainAttrs_dict PySem.F.slot_dict_setdefault PySem.F.type_dict_setdefault (mt_setdefault hr) (pv 1) (pa_cons (pv 2) (pa_cons (pe_lst pa_nil) pa_nil)))) (pa_cons (pv 3) pa_nil))))))
      (pss_one (ps_ret (pv 1))))), ?_⟩
  obtain ⟨a, xb, xs, xe, rfl, h1, h2, h3, h4, h5, h6, h7⟩ := hV
  rw [h7.length] at hs
  refine fun d hd => ?_
  have g0 := same_new hd (.dK [])
  refine ⟨_, rfl, _, _, _, _, rfl, rfl, Same.seqT g0 h1, rfl, pe, rfl, ⟨xe, g0.seq h4⟩, ?_⟩
  refine for_list (xs := xe) (fun i σ H' => Same H H' ∧ i ≤ xe.length ∧ (∃ x y, σ = [some (.ref a), some (.ref d), x, y]) ∧ ∃ kvs, H' d = some (.dK kvs) ∧ Bk WdV mkKey H H' d (s.ends.take i) kvs)
    ⟨g0, Nat.zero_le _, ⟨_, _, rfl⟩, [], upd_same, Bk.nil⟩ (fun i σ H' _ z => z.1.seq h4) ?_ ?_
  · rintro i x σ H1 hx ⟨g1, hi, ⟨x2, x3, rfl⟩, kvs, hkd, bk⟩
    obtain ⟨t, ht, b, rfl, hb⟩ := paired_get h7 hx
    have hil : i < xe.length := (List.getElem?_eq_some_iff.mp hx).1
    have hb1 := (Same.grow g1).seqT hb
    have hkl : kvs.length ≤ 999 := by have := bk.len; rw [List.length_take] at this; omega
    refine ⟨b, _, rfl, hb1, rfl, _, _, rfl, _, _, rfl, rfl, ?_⟩
    refine ⟨_, rfl, .inr (.inr (.inl ⟨rfl, .inl ⟨kvs, hkd⟩⟩)), ?_⟩
    refine ⟨_, rfl, szl (Nat.le_of_ble_eq_true rfl), fun l hl => ?_⟩
    have gl := same_new hl (.lst [])
    have hk2 := gl _ _ hkd
    have bk2 := bk.mono (fun _ _ _ _ _ h => h) gl
    have g2 := g1.trans gl
    have el : upd H1 l (.lst []) l = some (.lst []) := upd_same
    have hl0 : H l = none := g1.free hl
    have hln : ∀ k, valV kvs k ≠ some (.ref l) := fun k hk => by
      obtain ⟨l', ys, e, _, _, h3', _⟩ := bk.there k _ hk
      injection e with e
      subst e
      rw [h3'] at hl; cases hl
    have hld : l ≠ d := (ne_of_none hkd hl).symm
    generalize upd H1 l (.lst []) = H2 at hk2 bk2 g2 el ⊢
    refine ⟨d, .int t.1, .ref l, rfl, rfl, .inl ⟨kvs, mkKey t, hk2, rfl, szl' (by omega), fun r hr2 => ?_, fun hn => ?_⟩⟩
    · obtain ⟨l2, ys, rfl, j1, j2, j3, j4, j5⟩ := bk2.there _ _ hr2
      have hyl : ys.length ≤ 999 := by
        rw [← j4.length]
        have := List.length_filter_le (fun t' => decide (mkKey t' = mkKey t)) (s.ends.take i)
        rw [List.length_take] at this; omega
      refine ⟨.inl ⟨rfl, _, SqL.of j3⟩, _, rfl, l2, ys, _, rfl, rfl, j3, szl' (by omega), ?_⟩
      refine ⟨same_updN g2 j1, hil, ⟨_, _, rfl⟩, kvs, by rw [upd_ne j2.symm]; exact hk2, ?_⟩
      rw [take_get ht]
      exact bk2.put (fun _ _ _ _ _ h => h) hr2 j3 rfl
    · have e3 : upd H2 d (.dK (putK kvs (mkKey t) (.ref l))) l = some (.lst []) := by rw [upd_ne hld]; exact el
      refine ⟨.inl ⟨rfl, _, SqL.of e3⟩, _, rfl, l, [], _, rfl, rfl, e3, szl' (by simp), ?_⟩
      refine ⟨same_updN (same_updN g2 hd) hl0, hil, ⟨_, _, rfl⟩, putK kvs (mkKey t) (.ref l), by rw [upd_ne hld.symm]; exact upd_same, ?_⟩
      rw [take_get ht]
      exact bk2.new (fun _ _ _ _ _ h => h) hn hl0 hld hk2 (fun _ z => nomatch z) (fun _ _ z => nomatch z) hln el rfl
  rintro σ H1 ⟨g1, _, ⟨x2, x3, rfl⟩, kvs, hkd, bk⟩
  rw [← h7.length, List.take_length] at bk
  exact ⟨_, rfl, q _ _ g1 ⟨d, kvs, rfl, hkd, bk⟩⟩

theorem sc_refuse_many : FnScope ["pairs"] ["pairs"] (defScope s_refuse_many) := ⟨rfl, rfl, rfl, by decide +kernel, rfl, by decide +kernel, by decide +kernel⟩
theorem ok_refuse_many (B : Bi mg) {c_ScribeError c_NoWay c_NoRoom c_NotPlain c_OtherSigns c_TooMany c_TwoWays c_NeverPlain c_NoText : Addr} (XB : Xb K mg c_ScribeError c_NoWay c_NoRoom c_NotPlain c_OtherSigns c_TooMany c_TwoWays c_NeverPlain c_NoText)  {f : Addr} {fd : FuncData} (F : Fun K "refuse_many" "refuse_many" s_refuse_many f fd) : FnOk P w K mg base (CX1 P w) 1 f fd ["pairs"] (spRefuse K c_TooMany) := by
  refine Fun.ok1 F sc_refuse_many (fun vs H Q E h => ?_) (fun cdv A outer s H vs Q E hr h => ?_)
  · obtain ⟨p, n, rfl, _⟩ := h; rfl
  obtain ⟨p, n, rfl, hp, q, hE⟩ := h
  refine ⟨_, (pss_one (ps_if (pt_cmpR op_gt (pe_callB (CallR.or call_len_seq call_len_d) (by rfl) B.len bt_len (pa_cons (pv 0) pa_nil)) (pe_globI (by rfl) B.MOST_PAIRS) (nomark _)) (pss_one (ps_raise XB.own_TooMany (by rfl) (by rfl) raise_on pe_str)) pss_nil)), ?_⟩
  rcases hp with ⟨ys, hS, rfl⟩ | hd
  · refine ⟨_, rfl, .inl ⟨p, ys, rfl, .inl hS, _, _, rfl, rfl, _, rfl, iteDd (fun c1 => ?_) (fun c1 => ?_)⟩⟩
    · exact ⟨rfl, hE (by omega)⟩
    · exact q (by omega)
  · refine ⟨_, rfl, .inr ⟨p, n, rfl, hd, _, _, rfl, rfl, _, rfl, iteDd (fun c1 => ?_) (fun c1 => ?_)⟩⟩
    · exact ⟨rfl, hE (by omega)⟩
    · exact q (by omega)

theorem sc_pairs_behind : FnScope ["pairs", "sign", "steps", "behind", "room", "word", "step"] ["pairs", "sign", "steps"] (defScope s_pairs_behind) := ⟨rfl, rfl, rfl, by decide +kernel, rfl, by decide +kernel, by decide +kernel⟩
theorem ok_pairs_behind (B : Bi mg) {c_ScribeError c_NoWay c_NoRoom c_NotPlain c_OtherSigns c_TooMany c_TwoWays c_NeverPlain c_NoText : Addr} (XB : Xb K mg c_ScribeError c_NoWay c_NoRoom c_NotPlain c_OtherSigns c_TooMany c_TwoWays c_NeverPlain c_NoText) (C_refuse_many : Cal1 P w K mg base "refuse_many" ["pairs"] 1 (spRefuse K c_TooMany)) {f : Addr} {fd : FuncData} (F : Fun K "pairs_behind" "pairs_behind" s_pairs_behind f fd) : FnOk P w K mg base (CX1 P w) 2 f fd ["pairs", "sign", "steps"] (spPairs K c_TooMany) := by
  refine Fun.ok1 F sc_pairs_behind (fun vs H Q E h => ?_) (fun cdv A outer s H vs Q E hr h => ?_)
  · obtain ⟨vp, k, sv, H0, Pm, ts, rfl, _⟩ := h; rfl
  obtain ⟨vp, k, sv, H0, Pm, ts, rfl, hP, hS, lP, wP, wT, q, hE⟩ := h
  refine ⟨_, (pss_cons (ps_set (i := 3) sc_pairs_behind.nd rfl (Or.inl rfl) pe_dnewT)
      (pss_cons (ps_for own_on (by rfl) (kPI (K := K) (fun k => iList k _) (pi_list (pv 0))) (kPG (K := K) (fun k => gTup k 2 _) (pg_tup (n := 2) (by rfl) (pgs_cons (pg_name (i := 4) sc_pairs_behind.nd rfl (Or.inl rfl)) (pgs_cons (pg_name (i := 5) sc_pairs_behind.nd rfl (Or.inl rfl)) pgs_nil)))) (pss_one (ps_for own_on (by rfl) (kPI (K := K) (fun k => iList k _) (pi_list (kPE (K := K) (fun k => tBM k _ _ _ _) (pe_bm PySem.F.plainAttrs_dict PySem.F.slot_dict_get PySem.F.type_dict_get (mt_get2 hr) (pv 2) (pa_cons (pe_tup (pa_cons (pv 4) (pa_cons (pv 1) pa_nil))) (pa_cons (pe_lst pa_nil) pa_nil)))))) (pg_name (i := 6) sc_pairs_behind.nd rfl (Or.inl rfl)) (pss_cons (ps_dput (hu_of hr) (pv 3) (pe_tup (pa_cons (pe_ix (kIx (K := K) rIxT ix_tup) (pv 6) pe_int (by intro _ _; rfl)) (pa_cons (pe_op op_add_str (pv 5) (pe_ix (kIx (K := K) rIxT ix_tup) (pv 6) pe_int (by intro _ _; rfl))) pa_nil))) pe_bl rfl)
      (pss_one (ps_expr (pe_fn1 C_refuse_many hr (by decide : 1 ≤ 1) (by rfl) pass_on (pa_cons (pv 3) pa_nil))))))))
      (pss_one (ps_ret (pe_callTy (call_list_d (by rfl)) (by rfl) B.list bt_list (pa_cons (pv 3) pa_nil)))))), ?_⟩
  obtain ⟨pp, xs, rfl, p1, p2⟩ := hP
  have lx : xs.length ≤ 1000 := by rw [← p2.length]; exact lP
  refine fun d hd => ?_
  have g0 := same_new hd (.dT [])
  refine ⟨_, rfl, pp, rfl, ⟨xs, g0.seq p1⟩, ?_⟩
  refine for_list (xs := xs) (fun i σ H' => Same H H' ∧ i ≤ xs.length ∧ (∃ x4 x5 x6, σ = [some (.ref pp), some (.str ⟨#[k]⟩), some sv, some (.ref d), x4, x5, x6]) ∧ ∃ kvs, H' d = some (.dT kvs) ∧ kvs.map (·.1) = (onceM ((Pm.take i).flatMap (onM ts k))).map pKey ∧ kvs.length ≤ 1000)
    ⟨g0, Nat.zero_le _, ⟨_, _, _, rfl⟩, [], upd_same, rfl, Nat.zero_le _⟩ (fun i σ H' _ z => z.1.seq p1) ?_ ?_
  · rintro i x σ H1 hx ⟨g1, hi, ⟨x4, x5, x6, rfl⟩, kvs, hkd, hkk, hkl⟩
    obtain ⟨c, hc, b, rfl, hb⟩ := paired_get p2 hx
    have hil : i < xs.length := (List.getElem?_eq_some_iff.mp hx).1
    have hb1 := (Same.grow g1).seqT hb
    have wc : c.2.length ≤ 50000 := wP c (List.mem_of_getElem? hc)
    refine ⟨b, _, rfl, hb1, rfl, _, _, rfl, _, _, rfl, rfl, ?_⟩
    refine ⟨_, rfl, (hS.mono g1).ty, _, rfl, _, rfl, (by show 2 ≤ sizeLine; decide), fun p hp => ?_⟩
    have gp := same_new hp (.tup [V.int c.1, V.str ⟨#[k]⟩])
    refine ⟨szl (Nat.le_of_ble_eq_true rfl), fun l hl => ?_⟩
    have gl := same_new hl (.lst [])
    have g2 := gp.trans gl
    have ep := gl _ _ (upd_same (H := H1) (a := p) (o := .tup [V.int c.1, V.str ⟨#[k]⟩]))
    have el : upd (upd H1 p (.tup [V.int c.1, V.str ⟨#[k]⟩])) l (.lst []) l = some (.lst []) := upd_same
    generalize upd (upd H1 p (.tup [V.int c.1, V.str ⟨#[k]⟩])) l (.lst []) = H2 at g2 ep el ⊢
    obtain ⟨sd, o, la, ys, rfl, hget, hgd, hla, hpy⟩ := ((hS.mono g1).mono g2).get2 ep el
    refine ⟨sd, _, _, o, rfl, rfl, hget, ?_⟩
    rw [hgd]
    have hk2 := g2 _ _ hkd
    refine ⟨la, rfl, ⟨ys, SqL.of hla⟩, ?_⟩
    have hle : la ≠ d := fun e => by rw [e, hk2] at hla; cases hla
    refine for_list (xs := ys) (fun j σ H' => Same H H' ∧ j ≤ ys.length ∧ (∃ x6, σ = [some (.ref pp), some (.str ⟨#[k]⟩), some (.ref sd), some (.ref d), some (.int c.1), some (.str c.2), x6]) ∧ H' la = some (.lst ys) ∧ GT H2 H' ∧ ∃ kvs, H' d = some (.dT kvs) ∧ kvs.map (·.1) = (onceM ((Pm.take i).flatMap (onM ts k) ++ ((onM ts k c).take j))).map pKey ∧ kvs.length ≤ 1000)
      ⟨g1.trans g2, Nat.zero_le _, ⟨_, rfl⟩, hla, GT.of (Same.refl _), kvs, hk2, by rw [List.take_zero, List.append_nil]; exact hkk, hkl⟩ (fun j σ H' _ z => SqL.of z.2.2.2.1) ?_ ?_
    · rintro j y σ H3 hy ⟨g3, hj, ⟨x6, rfl⟩, hla3, gt3, kvs3, hk3, hkk3, hkl3⟩
      obtain ⟨t, ht, bt, rfl, hbt⟩ := paired_get hpy hy
      have hbt3 := gt3.seqT hbt
      have hjl : j < ys.length := (List.getElem?_eq_some_iff.mp hy).1
      have tm : t ∈ ts := (List.mem_filter.mp (List.mem_of_getElem? ht)).1
      have tw := wT t tm
      have hon : (onM ts k c)[j]? = some (t.2.2.2, c.2 ++ t.2.2.1) := by unfold onM; rw [List.getElem?_map, ht]; rfl
      refine ⟨_, rfl, _, rfl, _, _, _, _, rfl, rfl, hbt3, rfl, _, rfl, _, rfl, _, _, _, _, rfl, rfl, hbt3, rfl, _, _, rfl, rfl, szl (by omega), (by show 2 ≤ sizeLine; decide), fun p2 hp2 => ?_⟩
      have gp2 := same_new hp2 (.tup [V.int t.2.2.2, V.str (c.2 ++ t.2.2.1)])
      have ep2 : upd H3 p2 (.tup [V.int t.2.2.2, V.str (c.2 ++ t.2.2.1)]) p2 = some (.tup ((pKey (t.2.2.2, c.2 ++ t.2.2.1)).map kV)) := upd_same
      have hk4 := gp2 _ _ hk3
      refine ⟨d, _, rfl, DPut.t (v := .bl true) hk4 ep2 (szl' (by omega)), ?_⟩
      have hla4 := gp2 _ _ hla3
      have g4 : Same H (upd (upd H3 p2 (.tup [V.int t.2.2.2, V.str (c.2 ++ t.2.2.1)])) d (.dT (putK kvs3 (pKey (t.2.2.2, c.2 ++ t.2.2.1)) (.bl true)))) := same_updN (g3.trans gp2) hd
      have gt4 := (gt3.trans (GT.of gp2)).trans (gt_upd hk4 (fun _ z => nomatch z) (fun _ _ z => nomatch z) (.dT (putK kvs3 (pKey (t.2.2.2, c.2 ++ t.2.2.1)) (.bl true))))
      have hla5 : upd (upd H3 p2 (.tup [V.int t.2.2.2, V.str (c.2 ++ t.2.2.1)])) d (.dT (putK kvs3 (pKey (t.2.2.2, c.2 ++ t.2.2.1)) (.bl true))) la = some (.lst ys) := by rw [upd_ne hle]; exact hla4
      have hk5 : upd (upd H3 p2 (.tup [V.int t.2.2.2, V.str (c.2 ++ t.2.2.1)])) d (.dT (putK kvs3 (pKey (t.2.2.2, c.2 ++ t.2.2.1)) (.bl true))) d = some (.dT (putK kvs3 (pKey (t.2.2.2, c.2 ++ t.2.2.1)) (.bl true))) := upd_same
      have hkk5 : (putK kvs3 (pKey (t.2.2.2, c.2 ++ t.2.2.1)) (.bl true)).map (·.1) = (onceM ((Pm.take i).flatMap (onM ts k) ++ ((onM ts k c).take (j + 1)))).map pKey := by
        rw [put_keys, hkk3, take_get hon, ← List.append_assoc, once_snoc, add_map pKey_inj]
      generalize upd (upd H3 p2 (.tup [V.int t.2.2.2, V.str (c.2 ++ t.2.2.1)])) d (.dT (putK kvs3 (pKey (t.2.2.2, c.2 ++ t.2.2.1)) (.bl true))) = H5 at g4 gt4 hla5 hk5 ⊢
      generalize putK kvs3 (pKey (t.2.2.2, c.2 ++ t.2.2.1)) (.bl true) = kvs5 at hk5 hkk5 ⊢
      refine ⟨_, rfl, d, kvs5.length, rfl, .inr (.inr ⟨kvs5, hk5, rfl⟩), fun hle5 => ?_, fun hgt5 => hE ?_ _ g4⟩
      · exact ⟨g4, hjl, ⟨_, rfl⟩, hla5, gt4, kvs5, hk5, hkk5, hle5⟩
      · have e1 := congrArg List.length hkk5
        rw [List.length_map, List.length_map] at e1
        obtain ⟨r, hr'⟩ := flat_cut (onM ts k) hc
        have e2 : newsM ts Pm k = ((Pm.take i).flatMap (onM ts k) ++ ((onM ts k c).take (j + 1))) ++ ((onM ts k c).drop (j + 1) ++ r) := by
          unfold newsM
          rw [hr', List.append_assoc, List.append_assoc, ← List.append_assoc (List.take _ _), List.take_append_drop]
        unfold behindM
        rw [e2]
        have := once_le ((Pm.take i).flatMap (onM ts k) ++ ((onM ts k c).take (j + 1))) ((onM ts k c).drop (j + 1) ++ r)
        omega
    rintro σ H3 ⟨g3, _, ⟨x6, rfl⟩, hla3, gt3, kvs3, hk3, hkk3, hkl3⟩
    refine ⟨g3, hil, ⟨_, _, _, rfl⟩, kvs3, hk3, ?_, hkl3⟩
    have e : ys.length = (onM ts k c).length := by unfold onM; rw [List.length_map]; exact hpy.length.symm
    rw [e, List.take_length] at hkk3
    rw [flat_take _ hc]; exact hkk3
  rintro σ H1 ⟨g1, _, ⟨x4, x5, x6, rfl⟩, kvs, hkd, hkk, hkl⟩
  rw [← p2.length, List.take_length] at hkk
  have e1 := congrArg List.length hkk
  rw [List.length_map, List.length_map] at e1
  refine ⟨_, rfl, d, rfl, .inr ⟨kvs, hkd, fun bs l hb hl => ?_⟩⟩
  have gl := same_new hl (.lst (bs.map V.ref))
  exact q (by show (onceM (newsM ts Pm k)).length ≤ 1000; unfold newsM; omega) _ _ (g1.trans gl) ⟨l, _, rfl, SqL.of upd_same, paired_mono (fun _ _ => MkV.mono (Same.grow gl)) (mk_of_keys hb hkk)⟩

theorem sc_all_written : FnScope ["scribe", "text", "pairs", "steps", "sign", "ends", "words", "room", "word", "last"] ["scribe", "text"] (defScope s_all_written) := ⟨rfl, rfl, rfl, by decide +kernel, rfl, by decide +kernel, by decide +kernel⟩
theorem ok_all_written (B : Bi mg) {c_ScribeError c_NoWay c_NoRoom c_NotPlain c_OtherSigns c_TooMany c_TwoWays c_NeverPlain c_NoText : Addr} (XB : Xb K mg c_ScribeError c_NoWay c_NoRoom c_NotPlain c_OtherSigns c_TooMany c_TwoWays c_NeverPlain c_NoText) (C_refuse_many : Cal1 P w K mg base "refuse_many" ["pairs"] 1 (spRefuse K c_TooMany)) (C_steps_by_start : Cal P w K mg base "steps_by_start" ["scribe"] 1 (spSteps K)) (C_end_words_by_room : Cal P w K mg base "end_words_by_room" ["scribe"] 1 (spEnds K)) (C_pairs_behind : Cal1 P w K mg base "pairs_behind" ["pairs", "sign", "steps"] 2 (spPairs K c_TooMany)) {f : Addr} {fd : FuncData} (F : Fun K "all_written" "all_written" s_all_written f fd) : FnOk P w K mg base (CX1 P w) 3 f fd ["scribe", "text"] (spAllX K c_TooMany) := by
  refine Fun.ok1 F sc_all_written (fun vs H Q E h => ?_) (fun cdv A outer s H vs Q E hr h => ?_)
  · obtain ⟨v, s, pb, ps, pe, x, rfl, _⟩ := h; rfl
  obtain ⟨v, s, pb, ps, pe, x, rfl, hV, hL, hSh, hx, q, hE⟩ := h
  refine ⟨_, (pss_cons (ps_set (i := 2) sc_all_written.nd rfl (Or.inl rfl) (pe_ix (kIx (K := K) rIxT ix_tup) (pv 0) (pe_globI (by rfl) B.BEGINS) (by intro _ _; rfl)))
      (pss_cons (ps_expr (pe_fn1 C_refuse_many hr (by decide : 1 ≤ 2) (by rfl) pass_on (pa_cons (pv 2) pa_nil)))
      (pss_cons (ps_set (i := 3) sc_all_written.nd rfl (Or.inl rfl) (pe_fn C_steps_by_start hr (by decide : 1 ≤ 2) (by rfl) (pa_cons (pv 0) pa_nil)))
      (pss_cons (ps_for own_on (by rfl) (pi_str (pv 1)) (pg_name (i := 4) sc_all_written.nd rfl (Or.inl rfl)) (pss_one (ps_set (i := 2) sc_all_written.nd rfl (Or.inl rfl) (pe_fn1 C_pairs_behind hr (by decide : 2 ≤ 2) (by rfl) pass_on (pa_cons (pv 2) (pa_cons (pv 4) (pa_cons (pv 3) pa_nil)))))))
      (pss_cons (ps_set (i := 5) sc_all_written.nd rfl (Or.inl rfl) (pe_fn C_end_words_by_room hr (by decide : 1 ≤ 2) (by rfl) (pa_cons (pv 0) pa_nil)))
      (pss_cons (ps_set (i := 6) sc_all_written.nd rfl (Or.inl rfl) pe_dnewK)
      (pss_cons (ps_for own_on (by rfl) (kPI (K := K) (fun k => iList k _) (pi_list (pv 2))) (kPG (K := K) (fun k => gTup k 2 _) (pg_tup (n := 2) (by rfl) (pgs_cons (pg_name (i := 7) sc_all_written.nd rfl (Or.inl rfl)) (pgs_cons (pg_name (i := 8) sc_all_written.nd rfl (Or.inl rfl)) pgs_nil)))) (pss_one (ps_for own_on (by rfl) (kPI (K := K) (fun k => iList k _) (pi_list (kPE (K := K) (fun k => tBM k _ _ _ _) (pe_bm PySem.F.plainAttrs_dict PySem.F.slot_dict_get PySem.F.type_dict_get (mt_get2 hr) (pv 5) (pa_cons (pv 7) (pa_cons (pe_lst pa_nil) pa_nil)))))) (pg_name (i := 9) sc_all_written.nd rfl (Or.inl rfl)) (pss_one (ps_dput (hu_of hr) (pv 6) (pe_op op_add_str (pv 8) (pv 9)) pe_bl rfl)))))
      (pss_one (ps_ret (pe_callB (call_sorted_tW (by rfl)) (by rfl) B.sorted bt_sorted (pa_cons (pv 6) pa_nil))))))))))), ?_⟩
  obtain ⟨lb, ls, le⟩ := hL
  have hV0 := hV
  obtain ⟨a, xb, xs, xe, rfl, h1, h2, h3, h4, h5, h6, h7⟩ := hV
  have lb' : xb.length ≤ 999 := by rw [← h5.length]; exact lb
  refine ⟨_, rfl, _, _, _, _, rfl, rfl, h1, rfl, ?_⟩
  refine ⟨_, rfl, pb, xb.length, rfl, .inl ⟨xb, h2, rfl⟩, fun _ => ?_, fun z => absurd z (by omega)⟩
  refine ⟨_, rfl, _, s, pb, ps, pe, rfl, hV0, ls, fun vS H1 g1 hS1 => ?_⟩
  refine ⟨_, rfl, _, rfl, ?_⟩
  have hxl : (cl x).length = x.length := cl_length x
  have wT : ∀ t ∈ s.steps, t.2.2.1.length ≤ 100 := fun t ht => (hSh.2.1 t ht).2
  refine for_str (fun i σ H' => i ≤ x.length ∧ Same H1 H' ∧ ∃ P vP x4, pairsM s ((cl x).take i) = some P ∧ PrV K H' P vP ∧ P.length ≤ 1000 ∧ (∀ m ∈ P, m.2.length ≤ 100 * (i + 1)) ∧ σ = [some (.ref a), some (.str x), some vP, some vS, x4, none, none, none, none, none])
    ⟨Nat.zero_le _, Same.refl _, s.begins, .ref pb, none, rfl, (PrV.mono g1 ⟨pb, xb, rfl, h2, h5⟩), by omega, fun m hm => by have := hSh.1 m hm; omega, rfl⟩ ?_ ?_
  · rintro i c σ H2 hc ⟨hi, g2, Pm, vP, x4, hpm, hPr, lP, wP, rfl⟩
    have hil : i < x.length := by rw [← hxl]; exact (List.getElem?_eq_some_iff.mp hc).1
    refine ⟨_, rfl, _, rfl, _, rfl, vP, c, vS, H, Pm, s.steps, rfl, hPr, hS1.mono g2, lP, fun m hm => by have := wP m hm; omega, wT, fun hle v' H3 g3 hPr3 => ?_, fun hgt H3 g3 => hE (pairs_cut (i := i + 1) ?_) _ ((g1.trans g2).trans g3)⟩
    · refine ⟨hil, g2.trans g3, behindM s.steps Pm c, v', _, ?_, hPr3, hle, fun m hm => ?_, rfl⟩
      · rw [pairs_take hc, hpm]
        show (if _ then _ else _) = _
        rw [if_pos hle]
      · have := behind_len wT wP m hm; omega
    · rw [pairs_take hc, hpm]
      show (if _ then _ else _) = _
      rw [if_neg (by omega)]
  rintro σ H2 ⟨_, g2, Pm, vP, x4, hpm, hPr, lP, wP, rfl⟩
  have lzx : x.cps.toList.length = x.length := hxl
  have hpm' : pairsM s (cl x) = some Pm := by
    have e : (cl x).take x.cps.toList.length = cl x := List.take_length ..
    rw [e] at hpm; exact hpm
  have wP' : ∀ m ∈ Pm, m.2.length ≤ 50000 := fun m hm => by have := wP m hm; omega
  refine ⟨_, rfl, _, s, pb, ps, pe, rfl, (hV0.mono g1).mono g2, le, fun vE H3 g3 hE3 => ?_⟩
  refine fun d hd => ?_
  have gd := same_new hd (.dK [])
  obtain ⟨pp, ys0, rfl, p1, p2⟩ := (hPr.mono g3)
  have lys : ys0.length ≤ 1000 := by rw [← p2.length]; exact lP
  refine ⟨_, rfl, pp, rfl, ⟨ys0, gd.seq p1⟩, ?_⟩
  have wl : ∀ c : Mk, (wOnM s c).length ≤ 999 := fun c => by
    unfold wOnM
    rw [List.length_map]
    have := List.length_filter_le (fun m => decide (mkKey m = Sum.inl c.1)) s.ends
    omega
  have big : ∀ (i j : Nat) (c : Mk) (kvs : List (Key × V)), i ≤ 1000 → kvs.map (·.1) = (onceM ((Pm.take i).flatMap (wOnM s) ++ ((wOnM s c).take j))).map Sum.inr → kvs.length < sizeLine := fun i j c kvs hi hk => by
    have e1 := congrArg List.length hk
    rw [List.length_map, List.length_map] at e1
    have e2 := once_len ((Pm.take i).flatMap (wOnM s) ++ ((wOnM s c).take j))
    have e3 := flat_len wl (Pm.take i)
    have e4 := wl c
    rw [List.length_append, List.length_take] at e2
    rw [List.length_take] at e3
    have e5 : 999 * min i Pm.length ≤ 999 * 1000 := Nat.mul_le_mul_left _ (by omega)
    rw [sizeLine_eq]; omega
  refine for_list (xs := ys0) (fun i σ H' => Same H3 H' ∧ i ≤ ys0.length ∧ (∃ x7 x8 x9, σ = [some (.ref a), some (.str x), some (.ref pp), some vS, x4, some vE, some (.ref d), x7, x8, x9]) ∧ ∃ kvs, H' d = some (.dK kvs) ∧ kvs.map (·.1) = (onceM ((Pm.take i).flatMap (wOnM s))).map Sum.inr)
    ⟨gd, Nat.zero_le _, ⟨_, _, _, rfl⟩, [], upd_same, rfl⟩ (fun i σ H' _ z => z.1.seq p1) ?_ ?_
  · rintro i y σ H4 hy ⟨g4, hi, ⟨x7, x8, x9, rfl⟩, kvs, hkd, hkk⟩
    obtain ⟨c, hc, b, rfl, hb⟩ := paired_get p2 hy
    have hil : i < ys0.length := (List.getElem?_eq_some_iff.mp hy).1
    have hb4 := (Same.grow g4).seqT hb
    have wc : c.2.length ≤ 50000 := wP' c (List.mem_of_getElem? hc)
    refine ⟨b, _, rfl, hb4, rfl, _, _, rfl, _, _, rfl, rfl, ?_⟩
    refine ⟨_, rfl, (hE3.mono g4).ty, _, rfl, szl (Nat.le_of_ble_eq_true rfl), fun l hl => ?_⟩
    have gl := same_new hl (.lst [])
    have el : upd H4 l (.lst []) l = some (.lst []) := upd_same
    generalize upd H4 l (.lst []) = H5 at gl el ⊢
    obtain ⟨ed, o, la, ys, rfl, hget, hgd, hla, hpy⟩ := ((hE3.mono g4).mono gl).get2 (r := c.1) el
    refine ⟨ed, _, _, o, rfl, rfl, hget, ?_⟩
    rw [hgd]
    have hk5 := gl _ _ hkd
    refine ⟨la, rfl, ⟨ys, SqL.of hla⟩, ?_⟩
    have hle : la ≠ d := fun e => by rw [e, hk5] at hla; cases hla
    refine for_list (xs := ys) (fun j σ H' => Same H3 H' ∧ j ≤ ys.length ∧ (∃ x9, σ = [some (.ref a), some (.str x), some (.ref pp), some vS, x4, some (.ref ed), some (.ref d), some (.int c.1), some (.str c.2), x9]) ∧ H' la = some (.lst ys) ∧ ∃ kvs, H' d = some (.dK kvs) ∧ kvs.map (·.1) = (onceM ((Pm.take i).flatMap (wOnM s) ++ ((wOnM s c).take j))).map Sum.inr)
      ⟨g4.trans gl, Nat.zero_le _, ⟨_, rfl⟩, hla, kvs, hk5, by rw [List.take_zero, List.append_nil]; exact hkk⟩ (fun j σ H' _ z => SqL.of z.2.2.2.1) ?_ ?_
    · rintro j y σ H6 hy6 ⟨g6, hj, ⟨x9, rfl⟩, hla6, kvs6, hk6, hkk6⟩
      obtain ⟨m, hm, e⟩ := paired_get hpy hy6
      cases (show y = .str m.2 from e)
      have hjl : j < ys.length := (List.getElem?_eq_some_iff.mp hy6).1
      have mw := hSh.2.2 m (List.mem_filter.mp (List.mem_of_getElem? hm)).1
      have hon : (wOnM s c)[j]? = some (c.2 ++ m.2) := by unfold wOnM; rw [List.getElem?_map, hm]; rfl
      refine ⟨_, rfl, _, rfl, _, rfl, _, _, rfl, rfl, szl (by omega), d, _, rfl, DPut.k (k := Sum.inr (c.2 ++ m.2)) (v := .bl true) hk6 (big i j c kvs6 (by omega) hkk6), ?_⟩
      refine ⟨same_updN g6 hd, hjl, ⟨_, rfl⟩, by rw [upd_ne hle]; exact hla6, _, upd_same, ?_⟩
      rw [put_keys, hkk6, take_get hon, ← List.append_assoc, once_snoc, add_map (fun a b h => by injection h)]
    rintro σ H6 ⟨g6, _, ⟨x9, rfl⟩, hla6, kvs6, hk6, hkk6⟩
    refine ⟨g6, hil, ⟨_, _, _, rfl⟩, kvs6, hk6, ?_⟩
    have e : ys.length = (wOnM s c).length := by unfold wOnM; rw [List.length_map]; exact hpy.length.symm
    rw [e, List.take_length] at hkk6
    rw [flat_take _ hc]; exact hkk6
  rintro σ H4 ⟨g4, _, ⟨x7, x8, x9, rfl⟩, kvs, hkd, hkk⟩
  rw [← p2.length, List.take_length] at hkk
  have gA := ((g1.trans g2).trans g3).trans g4
  refine ⟨_, rfl, d, kvs, wordsM s Pm, rfl, hkd, hkk, fun l ss hp hs hl => ?_⟩
  exact q Pm hpm' l ss _ (gA.trans (same_new hl _)) (gA.free hl) hp hs upd_same

theorem sc_law_cell_at : FnScope ["_law_script", "_law_k"] ["_law_script", "_law_k"] (defScope s_law_cell_at) := ⟨rfl, rfl, rfl, by decide +kernel, rfl, by decide +kernel, by decide +kernel⟩
theorem ok_law_cell_at (B : Bi mg) {c_ScribeError c_NoWay c_NoRoom c_NotPlain c_OtherSigns c_TooMany c_TwoWays c_NeverPlain c_NoText : Addr} (XB : Xb K mg c_ScribeError c_NoWay c_NoRoom c_NotPlain c_OtherSigns c_TooMany c_TwoWays c_NeverPlain c_NoText)  {f : Addr} {fd : FuncData} (F : Fun K "_law_cell_at" "_law_cell_at" s_law_cell_at f fd) : FnOk P w K mg base CX0 1 f fd ["_law_script", "_law_k"] (spCell K) := by
  refine F.ok sc_law_cell_at (fun vs H Q E h => ?_) (fun cdv A outer s H vs Q E hr h => ?_)
  · obtain ⟨a, ns, k, rfl, _⟩ := h; rfl
  obtain ⟨a, ns, k, rfl, hS, hk, q⟩ := h
  refine ⟨_, (pss_cons (ps_if (pt_cmpR op_lt (pv 1) (pe_callB (kLen (K := K)) (by rfl) B.len bt_len (pa_cons (pv 0) pa_nil)) (nomark _)) (pss_one (ps_ret (pe_ix (kIx (K := K) rIxL ix_list) (pv 0) (pv 1) (by intro _ _; rfl)))) pss_nil)
      (pss_one (ps_ret pe_int))), ?_⟩
  refine ⟨_, rfl, _, rfl, a, _, rfl, .inl hS, _, _, rfl, rfl, _, rfl, ?_⟩
  rw [List.length_map]
  refine iteDd (fun c => ?_) (fun c => ?_)
  · obtain ⟨v, h1, h2⟩ := at_some (xs := ns) hk c
    refine ⟨_, rfl, _, rfl, a, _, _, .int v, rfl, rfl, hS, ?_, ?_⟩
    · obtain ⟨j, rfl⟩ := Int.eq_ofNat_of_zero_le hk
      exact atI_nat (by rw [List.getElem?_map]; rw [Int.toNat_natCast] at h2; rw [h2]; rfl)
    · have e : cellAt ns k = v := by unfold cellAt; rw [if_pos c, h2]; rfl
      rw [← e]; exact q
  · have e : cellAt ns k = 0 := by unfold cellAt; rw [if_neg c]
    rw [e] at q
    exact q

theorem sc_law_digits_at : FnScope ["_law_script", "_law_k", "_law_cell", "_law_number"] ["_law_script", "_law_k"] (defScope s_law_digits_at) := ⟨rfl, rfl, rfl, by decide +kernel, rfl, by decide +kernel, by decide +kernel⟩
theorem ok_law_digits_at (B : Bi mg) {c_ScribeError c_NoWay c_NoRoom c_NotPlain c_OtherSigns c_TooMany c_TwoWays c_NeverPlain c_NoText : Addr} (XB : Xb K mg c_ScribeError c_NoWay c_NoRoom c_NotPlain c_OtherSigns c_TooMany c_TwoWays c_NeverPlain c_NoText) (C_law_cell_at : Cal P w K mg base "_law_cell_at" ["_law_script", "_law_k"] 1 (spCell K)) {f : Addr} {fd : FuncData} (F : Fun K "_law_digits_at" "_law_digits_at" s_law_digits_at f fd) : FnOk P w K mg base CX0 2 f fd ["_law_script", "_law_k"] (spDigits K) := by
  refine F.ok sc_law_digits_at (fun vs H Q E h => ?_) (fun cdv A outer s H vs Q E hr h => ?_)
  · obtain ⟨a, ns, k, rfl, _⟩ := h; rfl
  obtain ⟨a, ns, k, rfl, hS, hk, q⟩ := h
  refine ⟨_, (pss_cons (ps_set (i := 2) sc_law_digits_at.nd rfl (Or.inl rfl) (pe_fn C_law_cell_at hr (by decide : 1 ≤ 1) (by rfl) (pa_cons (pv 0) (pa_cons (pv 1) pa_nil))))
      (pss_cons (ps_if (pt_cmpR op_eq (pe_op op_mod (pe_op op_fdiv (pe_fn C_law_cell_at hr (by decide : 1 ≤ 1) (by rfl) (pa_cons (pv 0) (pa_cons pe_int pa_nil))) pe_int) pe_int) pe_int (nomark _)) (pss_one (ps_ret (pv 2))) pss_nil)
      (pss_cons (ps_set (i := 3) sc_law_digits_at.nd rfl (Or.inl rfl) (pe_abs (pe_op op_mod (pe_op op_add (pe_op op_add (pe_op op_mul (pv 2) pe_int) (pe_op op_mul (pv 1) pe_int)) pe_int) pe_int)))
      (pss_cons (ps_set (i := 3) sc_law_digits_at.nd rfl (Or.inl rfl) (pe_abs (pe_op op_mod (pe_op op_mul (pv 3) (pv 3)) pe_int)))
      (pss_one (ps_ret (pe_op op_add (pe_op op_mul (pv 3) pe_int) (pe_op op_mod (pe_op op_mul (pv 3) (pv 3)) pe_int)))))))), ?_⟩
  refine ⟨_, rfl, _, rfl, a, ns, k, rfl, hS, hk, ?_⟩
  refine ⟨_, rfl, a, ns, 0, rfl, hS, (by decide), _, _, rfl, rfl, ⟨by decide, by decide⟩, _, _, rfl, rfl, pz, rfl, _, rfl, ?_⟩
  refine iteDd (fun c => ?_) (fun c => ?_)
  · refine ⟨_, rfl, q _⟩
  refine ⟨fun v H' => H = H' ∧ isNum 0 2147483647 v, ⟨_, rfl, _, _, rfl, rfl, .inr ⟨by decide, by decide⟩, _, rfl, _, _, rfl, rfl, .inr ⟨by decide, by decide⟩, _, _, rfl, rfl, _, _, rfl, rfl, _, _, rfl, rfl, pz, rfl, _, rfl, by omega, by omega⟩, ?_⟩
  rintro _ _ ⟨rfl, n, rfl, h0, h1⟩
  refine ⟨fun v H' => H = H' ∧ isNum 0 2147483647 v, ⟨_, rfl, _, rfl, _, _, rfl, rfl, .inl ⟨by omega, by omega⟩, _, _, rfl, rfl, pz, rfl, _, rfl, by omega, by omega⟩, ?_⟩
  rintro _ _ ⟨rfl, m, rfl, h2, h3⟩
  refine ⟨_, rfl, _, _, rfl, rfl, .inr ⟨by decide, by decide⟩, _, rfl, _, rfl, _, _, rfl, rfl, .inl ⟨by omega, by omega⟩, _, _, rfl, rfl, pz, _, _, rfl, rfl, q _⟩

theorem sc_law_word : FnScope ["_law_cell", "_law_size", "_law_number", "_law_word_here", "_law_k"] ["_law_cell"] (defScope s_law_word) := ⟨rfl, rfl, rfl, by decide +kernel, rfl, by decide +kernel, by decide +kernel⟩
theorem ok_law_word (B : Bi mg) {c_ScribeError c_NoWay c_NoRoom c_NotPlain c_OtherSigns c_TooMany c_TwoWays c_NeverPlain c_NoText : Addr} (XB : Xb K mg c_ScribeError c_NoWay c_NoRoom c_NotPlain c_OtherSigns c_TooMany c_TwoWays c_NeverPlain c_NoText)  {f : Addr} {fd : FuncData} (F : Fun K "_law_word" "_law_word" s_law_word f fd) : FnOk P w K mg base CX0 1 f fd ["_law_cell"] (spWord) := by
  refine F.ok sc_law_word (fun vs H Q E h => ?_) (fun cdv A outer s H vs Q E hr h => ?_)
  · obtain ⟨a, rfl, _⟩ := h; rfl
  obtain ⟨c, rfl, q⟩ := h
  refine ⟨_, (pss_cons (ps_set (i := 1) sc_law_word.nd rfl (Or.inl rfl) (pe_op op_mod (pv 0) pe_int))
      (pss_mid (ps_if (pt_cmpR op_eq (pe_op op_mod (pv 0) pe_int) pe_int (nomark _)) (pss_one (ps_set (i := 1) sc_law_word.nd rfl (Or.inl rfl) pe_int)) pss_nil)
      (pss_cons (ps_set (i := 2) sc_law_word.nd rfl (Or.inl rfl) (pe_op op_fdiv (pv 0) pe_int))
      (pss_cons (ps_set (i := 3) sc_law_word.nd rfl (Or.inl rfl) pe_str)
      (pss_cons (ps_for PassesOwn.never (by rfl) (pi_range1 (by rfl) B.range (pa_cons (pv 1) pa_nil)) (pg_name (i := 4) sc_law_word.nd rfl (Or.inl rfl)) (pss_cons (ps_set (i := 3) sc_law_word.nd rfl (Or.inl rfl) (pe_op op_add_str (pv 3) (pe_ix ix_str pe_str (pe_op op_mod (pv 2) pe_int) (by intro _ _; rfl))))
      (pss_one (ps_set (i := 2) sc_law_word.nd rfl (Or.inl rfl) (pe_op op_fdiv (pv 2) pe_int)))))
      (pss_one (ps_ret (pv 3)))))))), ?_⟩
  refine ⟨_, rfl, _, _, rfl, rfl, pz, ?_⟩
  refine ⟨fun σ H' => H = H' ∧ ∃ n : Int, 0 ≤ n ∧ n ≤ 40 ∧ σ = [some (.int c), some (.int n), none, none, none], ?_, ?_⟩
  · refine ⟨_, rfl, _, _, rfl, rfl, pz, rfl, _, rfl, ?_⟩
    refine iteDd (fun _ => ?_) (fun _ => ?_)
    · exact ⟨rfl, _, by omega, by omega, rfl⟩
    · exact ⟨rfl, _, by omega, by omega, rfl⟩
  rintro σ H' ⟨rfl, n, h0, h1, rfl⟩
  refine ⟨_, rfl, _, _, rfl, rfl, ⟨by decide, by decide⟩, ?_⟩
  have g1 := Same.refl H
  have hz : ("abz" : Str).length = 3 := by decide +kernel
  have hzl : ∀ c ∈ cl ("abz" : Str), 97 ≤ c ∧ c ≤ 122 := by decide +kernel
  refine ⟨_, rfl, _, rfl, by omega, by omega, ?_⟩
  
  refine for_range (fun i σ H' => H = H' ∧ ∃ (r : Int) (x : Str) (y : Option V), x.length = i ∧ (∀ c ∈ cl x, 97 ≤ c ∧ c ≤ 122) ∧ σ = [some (.int c), some (.int n), some (.int r), some (.str x), y]) ⟨rfl, _, "", _, rfl, cl_nil, rfl⟩ ?_ ?_
  · rintro i σ H' hi ⟨rfl, r2, x, y, hx, hxl, rfl⟩
    obtain ⟨c', hc, hm⟩ := at_mem (xs := cl ("abz" : Str)) (i := r2 % 3) (by omega) (by rw [cl_length, hz]; omega)
    refine ⟨_, rfl, _, rfl, _, _, rfl, rfl, pz, ("abz" : Str), _, c', rfl, rfl, szl (by omega), hc, _, _, rfl, rfl, szl (by rw [hx, one_len]; omega), ?_⟩
    refine ⟨_, rfl, _, _, rfl, rfl, ⟨by decide, by decide⟩, ?_⟩
    refine ⟨rfl, _, _, _, ?_, ?_, rfl⟩
    · rw [len_app, hx]; rfl
    · intro c1 h1
      rw [cl_append] at h1
      rcases List.mem_append.mp h1 with h1 | h1
      · exact hxl c1 h1
      · rw [cl_one, List.mem_singleton] at h1
        subst h1; exact hzl c1 hm
  · rintro σ H' ⟨rfl, r2, x, y, hx, hxl, rfl⟩
    refine ⟨_, rfl, ?_⟩
    exact q x _ ⟨by omega, hxl⟩ g1

theorem sc_law_scribe : FnScope ["_law_script", "_law_at", "_law_plain", "_law_first", "_law_signs", "_law_rooms", "_law_begins", "_law_steps", "_law_ends", "_law_k", "_law_number", "_law_way", "_law_room", "_law_sign", "_law_word_here", "_law_step"] ["_law_script", "_law_at", "_law_plain"] (defScope s_law_scribe) := ⟨rfl, rfl, rfl, by decide +kernel, rfl, by decide +kernel, by decide +kernel⟩
theorem ok_law_scribe (B : Bi mg) {c_ScribeError c_NoWay c_NoRoom c_NotPlain c_OtherSigns c_TooMany c_TwoWays c_NeverPlain c_NoText : Addr} (XB : Xb K mg c_ScribeError c_NoWay c_NoRoom c_NotPlain c_OtherSigns c_TooMany c_TwoWays c_NeverPlain c_NoText) (C_law_cell_at : Cal P w K mg base "_law_cell_at" ["_law_script", "_law_k"] 1 (spCell K)) (C_law_digits_at : Cal P w K mg base "_law_digits_at" ["_law_script", "_law_k"] 2 (spDigits K)) (C_law_word : Cal P w K mg base "_law_word" ["_law_cell"] 1 (spWord)) {f : Addr} {fd : FuncData} (F : Fun K "_law_scribe" "_law_scribe" s_law_scribe f fd) : FnOk P w K mg base CX0 3 f fd ["_law_script", "_law_at", "_law_plain"] (spScribeT K) := by
  refine F.ok sc_law_scribe (fun vs H Q E h => ?_) (fun cdv A outer s H vs Q E hr h => ?_)
  · obtain ⟨a, ns, at_, pl, rfl, _⟩ := h; rfl
  obtain ⟨a, ns, at_, pl, rfl, hS, h63, h0, h1, q⟩ := h
  refine ⟨_, (pss_cons (ps_set (i := 3) sc_law_scribe.nd rfl (Or.inl rfl) (pe_fn C_law_cell_at hr (by decide : 1 ≤ 2) (by rfl) (pa_cons (pv 0) (pa_cons (pv 1) pa_nil))))
      (pss_cons (ps_set (i := 4) sc_law_scribe.nd rfl (Or.inl rfl) (pe_abs (pe_ix (kIx (K := K) rPick ix_pick) (pe_lst (pa_cons pe_str (pa_cons pe_str (pa_cons pe_str (pa_cons pe_str (pa_cons pe_str pa_nil)))))) (pe_op op_mod (pv 3) pe_int) (by intro _ _; rfl))))
      (pss_cons (ps_set (i := 5) sc_law_scribe.nd rfl (Or.inl rfl) (pe_abs (pe_op op_mod (pe_op op_fdiv (pv 3) pe_int) (pe_ix (kIx (K := K) rPick ix_pick) (pe_lst (pa_cons pe_int (pa_cons pe_int pa_nil))) (pe_callTy call_int1 (by rfl) B.int bt_int (pa_cons (pe_not (pv 2)) pa_nil)) (by intro _ _; rfl)))))
      (pss_cons (ps_set (i := 6) sc_law_scribe.nd rfl (Or.inl rfl) (pe_lst pa_nil))
      (pss_cons (ps_set (i := 7) sc_law_scribe.nd rfl (Or.inl rfl) (pe_lst pa_nil))
      (pss_cons (ps_set (i := 8) sc_law_scribe.nd rfl (Or.inl rfl) (pe_lst pa_nil))
      (pss_cons (ps_for PassesOwn.never (by rfl) (pi_range2 (by rfl) B.range (pa_cons (pe_op op_add (pv 1) pe_int) (pa_cons (pe_callB (call_min2 (by rfl)) (by rfl) B.min bt_min (pa_cons (pe_op op_add (pv 1) pe_int) (pa_cons (pe_callB (kLen (K := K)) (by rfl) B.len bt_len (pa_cons (pv 0) pa_nil)) pa_nil))) pa_nil))) (pg_name (i := 9) sc_law_scribe.nd rfl (Or.inl rfl)) (pss_cons (ps_set (i := 10) sc_law_scribe.nd rfl (Or.inl rfl) (pe_abs (pe_fn C_law_digits_at hr (by decide : 2 ≤ 2) (by rfl) (pa_cons (pv 0) (pa_cons (pv 9) pa_nil)))))
      (pss_cons (ps_set (i := 11) sc_law_scribe.nd rfl (Or.inl rfl) (pe_op op_mod (pv 10) pe_int))
      (pss_cons (ps_set (i := 12) sc_law_scribe.nd rfl (Or.inr rfl) (pe_abs (pe_op op_mod (pe_op op_fdiv (pv 10) pe_int) (pe_callB (call_max2 (by rfl)) (by rfl) B.max bt_max (pa_cons pe_int (pa_cons (pv 5) pa_nil))))))
      (pss_cons (ps_set (i := 10) sc_law_scribe.nd rfl (Or.inl rfl) (pe_abs (pe_op op_fdiv (pe_op op_fdiv (pv 10) pe_int) (pe_callB (call_max2 (by rfl)) (by rfl) B.max bt_max (pa_cons pe_int (pa_cons (pv 5) pa_nil))))))
      (pss_cons (ps_set (i := 13) sc_law_scribe.nd rfl (Or.inl rfl) (pe_abs (pe_ix ix_str (pv 4) (pe_op op_mod (pv 10) (pe_callB call_len_str (by rfl) B.len bt_len (pa_cons (pv 4) pa_nil))) (by intro _ _; rfl))))
      (pss_cons (ps_set (i := 10) sc_law_scribe.nd rfl (Or.inl rfl) (pe_abs (pe_op op_fdiv (pv 10) (pe_callB call_len_str (by rfl) B.len bt_len (pa_cons (pv 4) pa_nil)))))
      (pss_cons (ps_set (i := 14) sc_law_scribe.nd rfl (Or.inl rfl) (pe_fn C_law_word hr (by decide : 1 ≤ 2) (by rfl) (pa_cons (pe_op op_fdiv (pv 10) (pe_callB (call_max2 (by rfl)) (by rfl) B.max bt_max (pa_cons pe_int (pa_cons (pv 5) pa_nil)))) pa_nil)))
      (pss_cons (ps_set (i := 15) sc_law_scribe.nd rfl (Or.inr rfl) (pe_tup (pa_cons (pv 12) (pa_cons (pv 13) (pa_cons (pv 14) (pa_cons (pe_op op_mod (pv 10) (pe_callB (call_max2 (by rfl)) (by rfl) B.max bt_max (pa_cons pe_int (pa_cons (pv 5) pa_nil)))) pa_nil))))))
      (pss_mid (ps_if (pt_abs (PW.pt (pw_and (pt_cmpR op_gt (pv 5) pe_int (nomark _)) (pw_and (pt_cmpR op_lt (pv 11) pe_int (nomark _)) (pw_and1 (pt_cmpR (kOp (K := K) (rInD · true) (op_notInD hr.units)) (pv 15) (pv 7) rfl)))))) (pss_one (ps_if (pt_abs (PW.pt (pw_or (pt_not (pt_val (pv 2))) (pw_or1 (pt_cmpR op_eq (pe_callB (kLen (K := K)) (by rfl) B.len bt_len (pa_cons (pe_comp rfl (blk_mk (N' := ["_law_one", "_law_step"]) (js := [none, some 15]) rfl (by decide +kernel) rfl (by decide +kernel) rfl rfl) (kPI (K := K) (fun k => iList k _) (pi_list (pv 7))) (fun _ _ _ _ _ => (pg_name (i := 0) (show List.Nodup (["_law_one", "_law_step"] : List Str) by decide +kernel) rfl (Or.inl rfl))) (fun _ _ _ _ _ => (pf_one (pt_cmpR (kOp (K := K) rEqD (op_eqD hr.units)) (pe_slice (kSl (K := K) rSlT sl_tup) (pv 0) po_none (po_some pe_int)) (pe_slice (kSl (K := K) rSlT sl_tup) (pv 1) po_none (po_some pe_int)) (nomark _)))) (fun _ _ _ _ _ => (pv 0))) pa_nil)) pe_int (nomark _)))))) (pss_one (ps_expr (kPE (K := K) (fun k => tBM k _ _ _ _) (pe_bm PySem.F.plainAttrs_list PySem.F.slot_list_append PySem.F.type_list_append mt_append (pv 7) (pa_cons (pv 15) pa_nil))))) pss_nil)) pss_nil)
      (pss_mid (ps_if (pt_abs (PW.pt (pw_and (pt_cmpR op_gt (pv 5) pe_int (nomark _)) (pw_and (pt_cmpR op_eq (pv 11) pe_int (nomark _)) (pw_and1 (pt_cmpR (kOp (K := K) (rInD · true) (op_notInD hr.units)) (pe_tup (pa_cons (pv 12) (pa_cons (pv 14) pa_nil))) (pv 8) rfl)))))) (pss_one (ps_if (pt_abs (PW.pt (pw_or (pt_not (pt_val (pv 2))) (pw_or1 (pt_cmpR op_eq (pe_callB (kLen (K := K)) (by rfl) B.len bt_len (pa_cons (pe_comp rfl (blk_mk (N' := ["_law_one", "_law_room"]) (js := [none, some 12]) rfl (by decide +kernel) rfl (by decide +kernel) rfl rfl) (kPI (K := K) (fun k => iList k _) (pi_list (pv 8))) (fun _ _ _ _ _ => (pg_name (i := 0) (show List.Nodup (["_law_one", "_law_room"] : List Str) by decide +kernel) rfl (Or.inl rfl))) (fun _ _ _ _ _ => (pf_one (pt_cmpR op_eq (pe_ix (kIx (K := K) rIxT ix_tup) (pv 0) pe_int (by intro _ _; rfl)) (pv 1) (nomark _)))) (fun _ _ _ _ _ => (pv 0))) pa_nil)) pe_int (nomark _)))))) (pss_one (ps_expr (kPE (K := K) (fun k => tBM k _ _ _ _) (pe_bm PySem.F.plainAttrs_list PySem.F.slot_list_append PySem.F.type_list_append mt_append (pv 8) (pa_cons (pe_tup (pa_cons (pv 12) (pa_cons (pv 14) pa_nil))) pa_nil))))) pss_nil)) pss_nil)
      (pss_one (ps_if (pt_abs (PW.pt (pw_and (pt_cmpR op_gt (pv 5) pe_int (nomark _)) (pw_and (pt_cmpR op_eq (pv 11) pe_int (nomark _)) (pw_and (pt_cmpR (kOp (K := K) (rInD · true) (op_notInD hr.units)) (pe_tup (pa_cons (pv 12) (pa_cons (pv 14) pa_nil))) (pv 6) rfl) (pw_and1 (PW.pt (pw_or (pt_cmpR op_eq (pe_callB (kLen (K := K)) (by rfl) B.len bt_len (pa_cons (pv 6) pa_nil)) pe_int (nomark _)) (pw_or1 (pt_not (pt_val (pv 2)))))))))))) (pss_one (ps_expr (kPE (K := K) (fun k => tBM k _ _ _ _) (pe_bm PySem.F.plainAttrs_list PySem.F.slot_list_append PySem.F.type_list_append mt_append (pv 6) (pa_cons (pe_tup (pa_cons (pv 12) (pa_cons (pv 14) pa_nil))) pa_nil))))) pss_nil)))))))))))))
      (pss_mid (ps_if (pt_abs (PW.pt (pw_and (pt_cmpR op_gt (pv 5) pe_int (nomark _)) (pw_and (pt_cmpR op_eq (pe_callB (kLen (K := K)) (by rfl) B.len bt_len (pa_cons (pv 6) pa_nil)) pe_int (nomark _)) (pw_and1 (pt_cmpR op_gt (pe_op op_mod (pe_op op_fdiv (pv 3) pe_int) pe_int) pe_int (nomark _))))))) (pss_one (ps_expr (kPE (K := K) (fun k => tBM k _ _ _ _) (pe_bm PySem.F.plainAttrs_list PySem.F.slot_list_append PySem.F.type_list_append mt_append (pv 6) (pa_cons (pe_tup (pa_cons (pe_op op_mod (pe_op op_fdiv (pv 3) pe_int) (pv 5)) (pa_cons (pe_fn C_law_word hr (by decide : 1 ≤ 2) (by rfl) (pa_cons (pe_op op_fdiv (pv 3) pe_int) pa_nil)) pa_nil))) pa_nil))))) pss_nil)
      (pss_mid (ps_if (pt_abs (PW.pt (pw_and (pt_cmpR op_gt (pv 5) pe_int (nomark _)) (pw_and (pt_cmpR op_eq (pe_callB (kLen (K := K)) (by rfl) B.len bt_len (pa_cons (pv 8) pa_nil)) pe_int (nomark _)) (pw_and1 (pt_cmpR op_gt (pe_op op_mod (pe_op op_fdiv (pv 3) pe_int) pe_int) pe_int (nomark _))))))) (pss_one (ps_expr (kPE (K := K) (fun k => tBM k _ _ _ _) (pe_bm PySem.F.plainAttrs_list PySem.F.slot_list_append PySem.F.type_list_append mt_append (pv 8) (pa_cons (pe_tup (pa_cons (pe_op op_mod (pe_op op_fdiv (pv 3) pe_int) (pv 5)) (pa_cons (pe_fn C_law_word hr (by decide : 1 ≤ 2) (by rfl) (pa_cons (pe_op op_fdiv (pv 3) pe_int) pa_nil)) pa_nil))) pa_nil))))) pss_nil)
      (pss_one (ps_ret (pe_tup (pa_cons (pv 4) (pa_cons (pv 5) (pa_cons (pv 6) (pa_cons (pv 7) (pa_cons (pv 8) pa_nil))))))))))))))))), ?_⟩
  refine ⟨_, rfl, _, rfl, a, ns, at_, rfl, hS, h0, ?_⟩
  generalize cellAt ns at_ = fi
  refine ⟨fun v H' => Same H H' ∧ isSgn v, ⟨szl (Nat.le_of_ble_eq_true rfl), fun p hp => ⟨_, rfl, _, _, rfl, rfl, pz, p, _, _, rfl, rfl, SqL.of upd_same, by omega, (by show fi % 5 < 5; omega), isSgn, ?_, fun v hv => ⟨same_new hp _, hv⟩⟩⟩, ?_⟩
  · intro v hv
    simp only [List.mem_cons, List.not_mem_nil, or_false] at hv
    rcases hv with rfl | rfl | rfl | rfl | rfl <;> exact ⟨_, rfl, by unfold SgnOk; decide +kernel⟩
  rintro _ H1 ⟨g1, g, rfl, hg1, hg2, hg3, hg4⟩
  refine ⟨fun v H' => Same H1 H' ∧ isNum 0 14 v, ⟨_, rfl, _, _, rfl, rfl, ⟨by decide, by decide⟩, szl (Nat.le_of_ble_eq_true rfl), fun p hp => ⟨_, rfl, _, rfl, .inr ⟨_, rfl, p, _, _, rfl, rfl, SqL.of upd_same, ?_, ?_, isNum 5 9, ?_, ?_⟩⟩⟩, ?_⟩
  · split <;> decide
  · split <;> decide
  · intro v hv
    simp only [List.mem_cons, List.not_mem_nil, or_false] at hv
    rcases hv with rfl | rfl <;> exact ⟨_, rfl, by decide, by decide⟩
  · rintro _ ⟨m, rfl, h5, h9⟩
    have hm : 0 < m := by omega
    have hm1 := Int.emod_nonneg (fi / 5) (show m ≠ 0 by omega)
    have hm2 := Int.emod_lt_of_pos (fi / 5) hm
    exact ⟨_, _, rfl, rfl, hm, same_new hp _, _, rfl, hm1, by omega⟩
  rintro _ H2 ⟨g2, r, rfl, hr0, hr1⟩
  
  refine ⟨szl (Nat.le_of_ble_eq_true rfl), fun pb hpb => ?_⟩
  refine ⟨szl (Nat.le_of_ble_eq_true rfl), fun ps hps => ?_⟩
  refine ⟨szl (Nat.le_of_ble_eq_true rfl), fun pe hpe => ?_⟩
  have G0 : Same H H2 := g1.trans g2
  have hps' : H2 ps = none := (same_new hpb _).free hps
  have hpe' : upd H2 pb (.lst []) pe = none := (same_new hps _).free hpe
  have AP : Apart H pb ps pe := ⟨G0.free hpb, G0.free hps', G0.free ((same_new hpb _).free hpe'), ne_of_none upd_same hps, ne_of_none upd_same hpe', ne_of_none upd_same hpe⟩
  have HI0 : HI K H pb ps pe pl g r 0 (upd (upd (upd H2 pb (.lst [])) ps (.lst [])) pe (.lst [])) :=
    ⟨[], [], [], [], [], [], ((G0.trans (same_new hpb _)).trans (same_new hps _)).trans (same_new hpe _), by rw [upd_ne AP.be, upd_ne AP.bs]; exact upd_same, by rw [upd_ne AP.se]; exact upd_same, upd_same, .nil, .nil, .nil,
      ⟨Nat.zero_le _, Nat.zero_le _, Nat.zero_le _, by simp, by simp, by simp, by simp, by simp, by simp, fun _ => Nat.zero_le _, fun _ => by simp, fun _ => by simp⟩⟩
  have T0 : Tot pb ps pe 0 (upd (upd (upd H2 pb (.lst [])) ps (.lst [])) pe (.lst [])) := ⟨[], [], [], by rw [upd_ne AP.be, upd_ne AP.bs]; exact upd_same, by rw [upd_ne AP.se]; exact upd_same, upd_same, Nat.le_refl _⟩
  generalize upd (upd (upd H2 pb (.lst [])) ps (.lst [])) pe (.lst []) = H3 at HI0 T0 ⊢
  have hS3 : SqL K H3 a (ns.map V.int) := by obtain ⟨_, _, _, _, _, _, z, _⟩ := HI0; exact z.seq hS
  refine ⟨_, rfl, _, _, rfl, rfl, _, rfl, _, _, rfl, rfl, _, rfl, a, _, rfl, .inl hS3, _, _, rfl, _, _, rfl, ⟨?_, ?_, ?_, ?_⟩, ?_⟩
  · show -(2 ^ 62) ≤ at_ + 1; omega
  · show at_ + 1 < 2 ^ 62; omega
  · rw [List.length_map]
    show -(2 ^ 62 : Int) ≤ if (ns.length : Int) < at_ + 32 then (ns.length : Int) else at_ + 32
    split <;> omega
  · rw [List.length_map]
    show (if (ns.length : Int) < at_ + 32 then (ns.length : Int) else at_ + 32) < 2 ^ 62
    split <;> omega
  rw [List.length_map]
  have hturns : ((if (ns.length : Int) < at_ + 32 then (ns.length : Int) else at_ + 32) - (at_ + 1)).toNat ≤ 31 := by split <;> omega
  refine for_range (fun i σ H' => HI K H pb ps pe pl g r (3 * i) H' ∧ Tot pb ps pe i H' ∧ ∃ x9 x10 x11 x12 x13 x14 x15, σ = [some (.ref a), some (.int at_), some (.bl pl), some (.int fi), some (.str g), some (.int r), some (.ref pb), some (.ref ps), some (.ref pe), x9, x10, x11, x12, x13, x14, x15]) ⟨HI0, T0, _, _, _, _, _, _, _, rfl⟩ ?_ ?_
  · rintro i σ H4 hi ⟨hI, hT, x9, x10, x11, x12, x13, x14, x15, rfl⟩
    have hi31 : i < 31 := Nat.lt_of_lt_of_le hi hturns
    have hS4 : SqL K H4 a (ns.map V.int) := by obtain ⟨_, _, _, _, _, _, z, _⟩ := hI; exact z.seq hS
    refine ⟨fun v H' => H4 = H' ∧ ∃ n : Int, v = .int n, ⟨_, rfl, _, rfl, a, ns, _, rfl, hS4, by omega, fun n => ⟨rfl, n, rfl⟩⟩, ?_⟩
    rintro _ _ ⟨rfl, n1, rfl⟩
    refine ⟨_, rfl, _, _, rfl, rfl, pz, ?_⟩
    have hmx : 0 < (if r > 1 then r else 1) ∧ (if r > 1 then r else 1) < 1073741824 := by split <;> omega
    refine ⟨fun v H' => H4 = H' ∧ ∃ n : Int, v = .int n ∧ 0 ≤ n ∧ (0 < r → n < r), ⟨_, rfl, _, _, rfl, rfl, ⟨by decide, by decide⟩, _, rfl, _, _, rfl, _, _, rfl, rfl, hmx.1, rfl, _, rfl, modmax _ hr0⟩, ?_⟩
    rintro _ _ ⟨rfl, ro, rfl, ro0, ro1⟩
    refine ⟨fun v H' => H4 = H' ∧ ∃ n : Int, v = .int n, ⟨_, rfl, _, _, rfl, rfl, ⟨by decide, by decide⟩, _, rfl, _, _, rfl, _, _, rfl, rfl, hmx, rfl, _, rfl⟩, ?_⟩
    rintro _ _ ⟨rfl, n2, rfl⟩
    have hgl : (0 : Int) < g.length ∧ (g.length : Int) < 1073741824 := by omega
    refine ⟨fun v H' => H4 = H' ∧ ∃ c ∈ cl g, v = .str ⟨#[c]⟩, ?_, ?_⟩
    · obtain ⟨c, hc, hm⟩ := at_mem (xs := cl g) (i := n2 % (g.length : Int)) (Int.emod_nonneg _ (by omega)) (by rw [cl_length]; exact Int.emod_lt_of_pos _ hgl.1)
      exact ⟨_, rfl, _, rfl, _, rfl, g, rfl, szl (by omega), _, _, rfl, rfl, hgl.1, g, _, c, rfl, rfl, szl (by omega), hc, rfl, c, hm, rfl⟩
    rintro _ _ ⟨rfl, sg, hsg, rfl⟩
    refine ⟨fun v H' => H4 = H' ∧ ∃ n : Int, v = .int n, ⟨_, rfl, _, rfl, g, rfl, szl (by omega), _, _, rfl, rfl, hgl, rfl, _, rfl⟩, ?_⟩
    rintro _ _ ⟨rfl, n3, rfl⟩
    refine ⟨_, rfl, _, rfl, _, _, rfl, _, _, rfl, rfl, hmx, _, rfl, fun wd H5 hwd g5 => ?_⟩
    obtain ⟨to0, to1⟩ := modmax n3 hr0
    refine ⟨_, rfl, _, rfl, _, rfl, _, rfl, _, rfl, _, _, rfl, _, _, rfl, rfl, hmx.1, (by show 4 ≤ sizeLine; decide), fun t ht => ?_⟩
    dsimp only
    generalize n3 % (if r > 1 then r else 1) = to at to0 to1 ⊢
    have hI6 : HI K H pb ps pe pl g r (3 * i) (upd H5 t (.tup [.int ro, .str ⟨#[sg]⟩, .str wd, .int to])) := hI.mono (g5.trans (same_new ht _)) (Nat.le_refl _)
    have hT0 : Tot pb ps pe i (upd H5 t (.tup [.int ro, .str ⟨#[sg]⟩, .str wd, .int to])) := hT.mono (g5.trans (same_new ht _)) (Nat.le_refl _)
    have hT6 : SqT K (upd H5 t (.tup [.int ro, .str ⟨#[sg]⟩, .str wd, .int to])) t [.int ro, .str ⟨#[sg]⟩, .str wd, .int to] := SqT.of upd_same
    generalize upd H5 t (.tup [.int ro, .str ⟨#[sg]⟩, .str wd, .int to]) = H6 at hI6 hT6 hT0 ⊢
    obtain ⟨B, S, E', xb, xs, xe, i1, i2, i3, i4, i5, i6, i7, i8⟩ := hI6
    -- a step
    refine ⟨fun σ' H' => [some (.ref a), some (.int at_), some (.bl pl), some (.int fi), some (.str g), some (.int r), some (.ref pb), some (.ref ps), some (.ref pe), some (.int (at_ + 1 + (i : Int))), some (.int n3), some (.int (n1 % 6)), some (.int ro), some (.str ⟨#[sg]⟩), some (.str wd), some (.ref t)] = σ' ∧ HI K H pb ps pe pl g r (3 * i + 1) H' ∧ SqT K H' t [.int ro, .str ⟨#[sg]⟩, .str wd, .int to] ∧ Tot pb ps pe (i + 1) H' ∧ (¬ n1 % 6 < 4 → Tot pb ps pe i H'), ?_, ?_⟩
    · have stay : ∀ H', Same H6 H' → HI K H pb ps pe pl g r (3 * i + 1) H' := fun H' g' => HI.mono ⟨B, S, E', xb, xs, xe, i1, i2, i3, i4, i5, i6, i7, i8⟩ g' (by omega)
      refine ⟨fun b H' => H6 = H' ∧ (b = true → 0 < r ∧ n1 % 6 < 4 ∧ (ro, (⟨#[sg]⟩ : Str), wd, to) ∉ S), ?_, ?_⟩
      · refine ⟨_, rfl, _, _, rfl, rfl, _, rfl, iteDd (fun c1 => ?_) (fun _ => ⟨rfl, fun z => nomatch z⟩)⟩
        refine ⟨_, rfl, _, _, rfl, rfl, _, rfl, iteDd (fun cw => ?_) (fun _ => ⟨rfl, fun z => nomatch z⟩)⟩
        refine ⟨_, rfl, _, rfl, dSt (ro, ⟨#[sg]⟩, wd, to), ps, xs, S.map dSt, StV.rep ⟨t, rfl, hT6⟩, rfl, SqL.of i3, reps_st i6, Nat.le_trans (deeps_map dSt 1 deep_dSt S) (by decide), _, rfl, rfl, fun z => ⟨c1, cw, ?_⟩⟩
        have z' : (!((S.map dSt).any fun e => eqD e (dSt (ro, ⟨#[sg]⟩, wd, to)))) = true := z
        rw [any_mem dSt eqD_dSt] at z'
        simpa using z'
      · rintro b _ ⟨rfl, hb⟩
        refine iteB (fun hbt => ?_) (fun _ => ⟨rfl, stay _ (Same.refl _), hT6, hT0.mono (Same.refl _) (by omega), fun _ => hT0⟩)
        obtain ⟨hr2, hw4, hnS⟩ := hb hbt
        refine ⟨fun b H' => Same H6 H' ∧ (b = true → pl = true → ∀ t' ∈ S, ¬ (t'.1 = ro ∧ t'.2.1 = ⟨#[sg]⟩)), ?_, ?_⟩
        · refine ⟨_, rfl, _, rfl, iteB (fun hn => ⟨Same.refl _, fun _ h => by rw [h] at hn; cases hn⟩) (fun _ => ?_)⟩
          refine ⟨_, rfl, ps, rfl, ⟨xs, SqL.of i3⟩, ?_⟩
          refine comp_list (xs := xs) (fun j ys τ H' => Same H6 H' ∧ (∃ x, τ = [x, some (.ref t)]) ∧ j ≤ xs.length ∧ ys.length ≤ j ∧ (ys = [] → ∀ t' ∈ S.take j, ¬ (t'.1 = ro ∧ t'.2.1 = ⟨#[sg]⟩))) ⟨Same.refl _, ⟨_, rfl⟩, Nat.zero_le _, Nat.zero_le _, fun _ t' ht' => by simp at ht'⟩ (fun j ys τ H' z => z.1.seq (SqL.of i3)) ?_ ?_
          · rintro j x ys τ H7 hx ⟨g7, ⟨y, rfl⟩, hj, hyl, hyn⟩
            obtain ⟨t', ht', b', rfl, hb'⟩ := paired_get i6 hx
            have hjl : j < xs.length := (List.getElem?_eq_some_iff.mp hx).1
            have hb7 := (Same.grow g7).seqT hb'
            have hT7 := (Same.grow g7).seqT hT6
            have hx31 : xs.length ≤ 93 := by have := i6.length; have : S.length ≤ 3 * i := i8.ls; omega
            refine ⟨_, rfl, _, rfl, b', _, rfl, hb7, (show ¬ (0 = 0 ∧ 2 = 4) by decide), fun p1 hp1 => ?_⟩
            have hT8 := (grow_new hp1 (.tup (cutV [V.int t'.1, V.str t'.2.1, V.str t'.2.2.1, V.int t'.2.2.2] none (some 2)))).seqT hT7
            refine ⟨_, rfl, _, rfl, t, _, rfl, hT8, (show ¬ (0 = 0 ∧ 2 = 4) by decide), fun p2 hp2 => ?_⟩
            have e1 := (grow_new hp2 (.tup (cutV [V.int ro, V.str ⟨#[sg]⟩, V.str wd, V.int to] none (some 2)))).seqT (SqT.of (K := K) (upd_same (H := H7) (a := p1) (o := .tup (cutV [V.int t'.1, V.str t'.2.1, V.str t'.2.2.1, V.int t'.2.2.2] none (some 2)))))
            refine ⟨.tup [.int t'.1, .str t'.2.1], .tup [.int ro, .str ⟨#[sg]⟩], rep_tup e1 (.cons (rep_int _) (.cons (rep_str _) .nil)), rep_tup (SqT.of upd_same) (.cons (rep_int _) (.cons (rep_str _) .nil)), (by simp [deep, deeps]), _, rfl, ?_⟩
            rw [eq2]
            have g9 := (g7.trans (same_new hp1 (.tup (cutV [V.int t'.1, V.str t'.2.1, V.str t'.2.2.1, V.int t'.2.2.2] none (some 2))))).trans (same_new hp2 (.tup (cutV [V.int ro, V.str ⟨#[sg]⟩, V.str wd, V.int to] none (some 2))))
            refine iteDd (fun c => ?_) (fun c => ?_)
            · refine ⟨_, rfl, szl' (by omega), g9, ⟨_, rfl⟩, hjl, by rw [List.length_append, List.length_singleton]; omega, fun z => absurd z (by simp)⟩
            · refine ⟨g9, ⟨_, rfl⟩, hjl, by omega, fun z t'' h'' => ?_⟩
              rw [take_get ht'] at h''
              rcases List.mem_append.mp h'' with h'' | h''
              · exact hyn z t'' h''
              · rw [List.mem_singleton.mp h'']; exact c
          · rintro ys τ H7 ⟨g7, _, _, hyl, hyn⟩ p hp
            refine ⟨p, ys, rfl, .inl (SqL.of upd_same), rfl, _, rfl, g7.trans (same_new hp _), fun z _ => ?_⟩
            have hy0 : ys = [] := by
              have := of_decide_eq_true z
              injection this with this
              exact List.eq_nil_of_length_eq_zero (by omega)
            have := hyn hy0
            rw [← i6.length, List.take_length] at this
            exact this
        · rintro b H7 ⟨g7, hb7⟩
          have hT7 := (Same.grow g7).seqT hT6
          refine iteB (fun hbt2 => ?_) (fun _ => ⟨rfl, stay _ g7, hT7, hT0.mono g7 (by omega), fun _ => hT0.mono g7 (Nat.le_refl _)⟩)
          have hlx : xs.length < sizeLine := by have := i6.length; have : S.length ≤ 3 * i := i8.ls; exact szl' (by omega)
          refine ⟨_, rfl, .inl ⟨rfl, _, SqL.of (g7 _ _ i3)⟩, _, rfl, ps, xs, .ref t, rfl, rfl, g7 _ _ i3, hlx, rfl, ?_, (grow_upd (g7 _ _ i3) _).seqT hT7, (hT0.mono g7 (Nat.le_refl _)).s AP (g7 _ _ i3), fun c => absurd hw4 c⟩
          exact HI.addStep AP (i1.trans g7) (g7 _ _ i2) (g7 _ _ i3) (g7 _ _ i4) (paired_mono (fun _ _ => MkV.mono (Same.grow g7)) i5) (paired_mono (fun _ _ => StV.mono (Same.grow g7)) i6) (paired_mono (fun _ _ => MkV.mono (Same.grow g7)) i7)
            (i8.step ro0 (ro1 hr2) ⟨sg, hsg, rfl⟩ hwd to0 (to1 hr2) hnS (hb7 hbt2)) ⟨t, rfl, hT7⟩
    clear i1 i2 i3 i4 i5 i6 i7 i8 B S E' xb xs xe
    rintro _ H7 ⟨rfl, hI7, hT7, hT1, hT1'⟩
    obtain ⟨B, S, E', xb, xs, xe, i1, i2, i3, i4, i5, i6, i7, i8⟩ := hI7
    -- an end
    refine ⟨fun σ' H' => [some (.ref a), some (.int at_), some (.bl pl), some (.int fi), some (.str g), some (.int r), some (.ref pb), some (.ref ps), some (.ref pe), some (.int (at_ + 1 + (i : Int))), some (.int n3), some (.int (n1 % 6)), some (.int ro), some (.str ⟨#[sg]⟩), some (.str wd), some (.ref t)] = σ' ∧ HI K H pb ps pe pl g r (3 * i + 2) H' ∧ Tot pb ps pe (i + 1) H' ∧ (¬ n1 % 6 < 4 → n1 % 6 ≠ 4 → Tot pb ps pe i H'), ?_, ?_⟩
    · have stay : ∀ H', Same H7 H' → HI K H pb ps pe pl g r (3 * i + 2) H' := fun H' g' => HI.mono ⟨B, S, E', xb, xs, xe, i1, i2, i3, i4, i5, i6, i7, i8⟩ g' (by omega)
      refine ⟨fun b H' => Same H7 H' ∧ (b = true → 0 < r ∧ n1 % 6 = 4 ∧ (ro, wd) ∉ E'), ?_, ?_⟩
      · refine ⟨_, rfl, _, _, rfl, rfl, _, rfl, iteDd (fun c1 => ?_) (fun _ => ⟨Same.refl _, fun z => nomatch z⟩)⟩
        refine ⟨_, rfl, rfl, _, rfl, iteDd (fun cw => ?_) (fun _ => ⟨Same.refl _, fun z => nomatch z⟩)⟩
        refine ⟨_, rfl, _, rfl, (by show 2 ≤ sizeLine; decide), fun p hp => ?_⟩
        have gp := same_new hp (.tup [V.int ro, V.str wd])
        refine ⟨_, rfl, dMk (ro, wd), pe, xe, E'.map dMk, MkV.rep ⟨p, rfl, SqT.of upd_same⟩, rfl, SqL.of (gp _ _ i4), notIn_mk (m := (ro, wd)) (paired_mono (fun _ _ => MkV.mono (Same.grow gp)) i7), Nat.le_trans (deeps_map dMk 1 deep_dMk E') (by decide), _, rfl, gp, fun z => ⟨c1, by injection cw, ?_⟩⟩
        have z' : (!((E'.map dMk).any fun e => eqD e (dMk (ro, wd)))) = true := z
        rw [any_mem dMk eqD_dMk] at z'
        simpa using z'
      · rintro b H8 ⟨g8, hb⟩
        refine iteB (fun hbt => ?_) (fun _ => ⟨rfl, stay _ g8, hT1.mono g8 (Nat.le_refl _), fun a _ => (hT1' a).mono g8 (Nat.le_refl _)⟩)
        obtain ⟨hr2, hw4, hnE⟩ := hb hbt
        have i7' : Paired (MkV K H8) E' xe := paired_mono (fun _ _ => MkV.mono (Same.grow g8)) i7
        refine ⟨fun b H' => Same H8 H' ∧ (b = true → pl = true → ∀ m ∈ E', m.1 ≠ ro), ?_, ?_⟩
        · refine ⟨_, rfl, _, rfl, iteB (fun hn => ⟨Same.refl _, fun _ h => by rw [h] at hn; cases hn⟩) (fun _ => ?_)⟩
          refine ⟨_, rfl, pe, rfl, ⟨xe, SqL.of (g8 _ _ i4)⟩, ?_⟩
          refine comp_list (xs := xe) (fun j ys τ H' => H8 = H' ∧ (∃ x, τ = [x, some (.int ro)]) ∧ j ≤ xe.length ∧ ys.length ≤ j ∧ (ys = [] → ∀ m ∈ E'.take j, m.1 ≠ ro)) ⟨rfl, ⟨_, rfl⟩, Nat.zero_le _, Nat.zero_le _, fun _ m hm => by simp at hm⟩ (fun j ys τ H' z => z.1 ▸ SqL.of (g8 _ _ i4)) ?_ ?_
          · rintro j x ys τ _ hx ⟨rfl, ⟨y, rfl⟩, hj, hyl, hyn⟩
            obtain ⟨m, hm, b', rfl, hb'⟩ := paired_get i7' hx
            have hjl : j < xe.length := (List.getElem?_eq_some_iff.mp hx).1
            have hx31 : xe.length ≤ 94 := by have := i7.length; have : E'.length ≤ 3 * i + 1 := i8.le; omega
            refine ⟨_, rfl, _, _, _, _, rfl, rfl, hb', rfl, _, rfl, rfl, _, rfl, ?_⟩
            refine iteDd (fun c => ?_) (fun c => ?_)
            · exact ⟨_, rfl, szl' (by omega), rfl, ⟨_, rfl⟩, hjl, by rw [List.length_append, List.length_singleton]; omega, fun z => absurd z (by simp)⟩
            · refine ⟨rfl, ⟨_, rfl⟩, hjl, by omega, fun z m' h' => ?_⟩
              rw [take_get hm] at h'
              rcases List.mem_append.mp h' with h' | h'
              · exact hyn z m' h'
              · rw [List.mem_singleton.mp h']; exact fun e => c (by rw [e])
          · rintro ys τ _ ⟨rfl, _, _, hyl, hyn⟩ p hp
            refine ⟨p, ys, rfl, .inl (SqL.of upd_same), rfl, _, rfl, same_new hp _, fun z _ => ?_⟩
            have hy0 : ys = [] := by
              have := of_decide_eq_true z
              injection this with this
              exact List.eq_nil_of_length_eq_zero (by omega)
            have := hyn hy0
            rw [← i7.length, List.take_length] at this
            exact this
        · rintro b H9 ⟨g9, hb9⟩
          have gg := g8.trans g9
          refine iteB (fun hbt2 => ?_) (fun _ => ⟨rfl, stay _ gg, hT1.mono gg (Nat.le_refl _), fun a _ => (hT1' a).mono gg (Nat.le_refl _)⟩)
          have hlx : xe.length < sizeLine := by have := i7.length; have : E'.length ≤ 3 * i + 1 := i8.le; exact szl' (by omega)
          refine ⟨_, rfl, .inl ⟨rfl, _, SqL.of (gg _ _ i4)⟩, _, rfl, _, rfl, (by show 2 ≤ sizeLine; decide), fun p hp => ?_⟩
          have gp := gg.trans (same_new hp (.tup [V.int ro, V.str wd]))
          refine ⟨pe, xe, .ref p, rfl, rfl, gp _ _ i4, hlx, rfl, ?_, ((hT1' (by omega)).mono gp (Nat.le_refl _)).e AP (gp _ _ i4), fun _ c => absurd hw4 c⟩
          exact HI.addEnd AP (i1.trans gp) (gp _ _ i2) (gp _ _ i3) (gp _ _ i4) (paired_mono (fun _ _ => MkV.mono (Same.grow gp)) i5) (paired_mono (fun _ _ => StV.mono (Same.grow gp)) i6) (paired_mono (fun _ _ => MkV.mono (Same.grow gp)) i7)
            (i8.end_ ro0 (ro1 hr2) hwd hnE (hb9 hbt2)) ⟨p, rfl, SqT.of upd_same⟩
    clear i1 i2 i3 i4 i5 i6 i7 i8 B S E' xb xs xe
    rintro _ H8 ⟨rfl, hI8, hT2, hT2'⟩
    obtain ⟨B, S, E', xb, xs, xe, i1, i2, i3, i4, i5, i6, i7, i8⟩ := hI8
    -- a begin
    have stay : ∀ H', Same H8 H' → HI K H pb ps pe pl g r (3 * (i + 1)) H' := fun H' g' => HI.mono ⟨B, S, E', xb, xs, xe, i1, i2, i3, i4, i5, i6, i7, i8⟩ g' (by omega)
    refine ⟨fun b H' => Same H8 H' ∧ (b = true → 0 < r ∧ n1 % 6 = 5 ∧ (ro, wd) ∉ B ∧ (pl = true → B.length = 0)), ?_, ?_⟩
    · refine ⟨_, rfl, _, _, rfl, rfl, _, rfl, iteDd (fun c1 => ?_) (fun _ => ⟨Same.refl _, fun z => nomatch z⟩)⟩
      refine ⟨_, rfl, rfl, _, rfl, iteDd (fun cw => ?_) (fun _ => ⟨Same.refl _, fun z => nomatch z⟩)⟩
      refine ⟨_, rfl, _, rfl, (by show 2 ≤ sizeLine; decide), fun p hp => ?_⟩
      have gp := same_new hp (.tup [V.int ro, V.str wd])
      refine ⟨_, rfl, dMk (ro, wd), pb, xb, B.map dMk, MkV.rep ⟨p, rfl, SqT.of upd_same⟩, rfl, SqL.of (gp _ _ i2), notIn_mk (m := (ro, wd)) (paired_mono (fun _ _ => MkV.mono (Same.grow gp)) i5), Nat.le_trans (deeps_map dMk 1 deep_dMk B) (by decide), _, rfl, iteB (fun z => ?_) (fun _ => ⟨gp, fun z => nomatch z⟩)⟩
      have z' : (!((B.map dMk).any fun e => eqD e (dMk (ro, wd)))) = true := z
      rw [any_mem dMk eqD_dMk] at z'
      have hnB : (ro, wd) ∉ B := by simpa using z'
      refine ⟨_, rfl, pb, xb, rfl, .inl (SqL.of (gp _ _ i2)), rfl, _, rfl, iteDd (fun c => ?_) (fun c => ?_)⟩
      · refine ⟨gp, fun _ => ⟨c1, by injection cw, hnB, fun _ => ?_⟩⟩
        injection c with c
        rw [i5.length]; omega
      · refine ⟨_, rfl, _, rfl, gp, fun hn => ⟨c1, by injection cw, hnB, fun h => ?_⟩⟩
        rw [h] at hn; cases hn
    · rintro b H9 ⟨g9, hb⟩
      refine iteB (fun hbt => ?_) (fun _ => ⟨stay _ g9, hT2.mono g9 (Nat.le_refl _), _, _, _, _, _, _, _, rfl⟩)
      obtain ⟨hr2, hw4, hnB, hB0⟩ := hb hbt
      have hlx : xb.length < sizeLine := by have := i5.length; have : B.length ≤ 3 * i + 2 := i8.lb; exact szl' (by omega)
      refine ⟨_, rfl, .inl ⟨rfl, _, SqL.of (g9 _ _ i2)⟩, _, rfl, _, rfl, (by show 2 ≤ sizeLine; decide), fun p hp => ?_⟩
      have gp := g9.trans (same_new hp (.tup [V.int ro, V.str wd]))
      refine ⟨pb, xb, .ref p, rfl, rfl, gp _ _ i2, hlx, ?_, ((hT2' (by omega) (by omega)).mono gp (Nat.le_refl _)).b AP (gp _ _ i2), _, _, _, _, _, _, _, rfl⟩
      exact HI.addBegin AP (i1.trans gp) (gp _ _ i2) (gp _ _ i3) (gp _ _ i4) (paired_mono (fun _ _ => MkV.mono (Same.grow gp)) i5) (paired_mono (fun _ _ => StV.mono (Same.grow gp)) i6) (paired_mono (fun _ _ => MkV.mono (Same.grow gp)) i7)
        (i8.begin ro0 (ro1 hr2) hwd hnB hB0) ⟨p, rfl, SqT.of upd_same⟩
  rintro σ H4 ⟨hI, hT, x9, x10, x11, x12, x13, x14, x15, rfl⟩
  have hI : HI K H pb ps pe pl g r 93 H4 := hI.mono (Same.refl _) (by omega)
  replace hT : Tot pb ps pe 31 H4 := hT.mono (Same.refl _) (by omega)
  obtain ⟨B, S, E', xb, xs, xe, i1, i2, i3, i4, i5, i6, i7, i8⟩ := hI
  refine ⟨fun σ' H' => [some (.ref a), some (.int at_), some (.bl pl), some (.int fi), some (.str g), some (.int r), some (.ref pb), some (.ref ps), some (.ref pe), x9, x10, x11, x12, x13, x14, x15] = σ' ∧ HI K H pb ps pe pl g r 94 H' ∧ Tot pb ps pe 32 H', ?_, ?_⟩
  · have stay : ∀ H', Same H4 H' → HI K H pb ps pe pl g r 94 H' := fun H' g' => HI.mono ⟨B, S, E', xb, xs, xe, i1, i2, i3, i4, i5, i6, i7, i8⟩ g' (by omega)
    refine ⟨fun b H' => H4 = H' ∧ (b = true → 0 < r ∧ B = []), ?_, ?_⟩
    · refine ⟨_, rfl, _, _, rfl, rfl, _, rfl, iteDd (fun c1 => ?_) (fun _ => ⟨rfl, fun z => nomatch z⟩)⟩
      refine ⟨_, rfl, pb, xb, rfl, .inl (SqL.of i2), rfl, _, rfl, iteDd (fun c => ?_) (fun _ => ⟨rfl, fun z => nomatch z⟩)⟩
      refine ⟨_, rfl, _, _, rfl, rfl, ⟨by decide, by decide⟩, _, _, rfl, rfl, pz, _, _, rfl, rfl, _, rfl, rfl, fun _ => ⟨c1, ?_⟩⟩
      injection c with c
      exact List.eq_nil_of_length_eq_zero (by rw [i5.length]; omega)
    · rintro b _ ⟨rfl, hb⟩
      refine iteB (fun hbt => ?_) (fun _ => ⟨rfl, stay _ (Same.refl _), hT.mono (Same.refl _) (by omega)⟩)
      obtain ⟨hr2, rfl⟩ := hb hbt
      have m0 := Int.emod_nonneg (fi / 360) (show r ≠ 0 by omega)
      have m1 := Int.emod_lt_of_pos (fi / 360) hr2
      have hlx : xb.length < sizeLine := by rw [← i5.length]; exact szl' (by decide)
      refine ⟨_, rfl, .inl ⟨rfl, _, SqL.of i2⟩, _, rfl, _, _, rfl, rfl, ⟨by decide, by decide⟩, _, rfl, _, _, rfl, rfl, hr2, _, rfl, _, _, rfl, rfl, ⟨by decide, by decide⟩, _, rfl, fun wd H5 hwd g5 => ⟨(by show 2 ≤ sizeLine; decide), fun p hp => ?_⟩⟩
      dsimp only at hp ⊢
      have gp := g5.trans (same_new hp (.tup [V.int (fi / 360 % r), V.str wd]))
      refine ⟨pb, xb, .ref p, rfl, rfl, gp _ _ i2, hlx, rfl, ?_, (hT.mono gp (Nat.le_refl _)).b AP (gp _ _ i2)⟩
      exact HI.addBegin AP (i1.trans gp) (gp _ _ i2) (gp _ _ i3) (gp _ _ i4) (paired_mono (fun _ _ => MkV.mono (Same.grow gp)) i5) (paired_mono (fun _ _ => StV.mono (Same.grow gp)) i6) (paired_mono (fun _ _ => MkV.mono (Same.grow gp)) i7)
        (i8.begin m0 m1 hwd (by simp) (fun _ => rfl)) ⟨p, rfl, SqT.of upd_same⟩
  clear i1 i2 i3 i4 i5 i6 i7 i8 B S E' xb xs xe
  clear hT
  rintro _ H5 ⟨rfl, ⟨B, S, E', xb, xs, xe, i1, i2, i3, i4, i5, i6, i7, i8⟩, hT⟩
  refine ⟨fun σ' H' => [some (.ref a), some (.int at_), some (.bl pl), some (.int fi), some (.str g), some (.int r), some (.ref pb), some (.ref ps), some (.ref pe), x9, x10, x11, x12, x13, x14, x15] = σ' ∧ HI K H pb ps pe pl g r 95 H' ∧ Tot pb ps pe 33 H', ?_, ?_⟩
  · have stay : ∀ H', Same H5 H' → HI K H pb ps pe pl g r 95 H' := fun H' g' => HI.mono ⟨B, S, E', xb, xs, xe, i1, i2, i3, i4, i5, i6, i7, i8⟩ g' (by omega)
    refine ⟨fun b H' => H5 = H' ∧ (b = true → 0 < r ∧ E' = []), ?_, ?_⟩
    · refine ⟨_, rfl, _, _, rfl, rfl, _, rfl, iteDd (fun c1 => ?_) (fun _ => ⟨rfl, fun z => nomatch z⟩)⟩
      refine ⟨_, rfl, pe, xe, rfl, .inl (SqL.of i4), rfl, _, rfl, iteDd (fun c => ?_) (fun _ => ⟨rfl, fun z => nomatch z⟩)⟩
      refine ⟨_, rfl, _, _, rfl, rfl, ⟨by decide, by decide⟩, _, _, rfl, rfl, pz, _, _, rfl, rfl, _, rfl, rfl, fun _ => ⟨c1, ?_⟩⟩
      injection c with c
      exact List.eq_nil_of_length_eq_zero (by rw [i7.length]; omega)
    · rintro b _ ⟨rfl, hb⟩
      refine iteB (fun hbt => ?_) (fun _ => ⟨rfl, stay _ (Same.refl _), hT.mono (Same.refl _) (by omega)⟩)
      obtain ⟨hr2, rfl⟩ := hb hbt
      have m0 := Int.emod_nonneg (fi / 361) (show r ≠ 0 by omega)
      have m1 := Int.emod_lt_of_pos (fi / 361) hr2
      have hlx : xe.length < sizeLine := by rw [← i7.length]; exact szl' (by decide)
      refine ⟨_, rfl, .inl ⟨rfl, _, SqL.of i4⟩, _, rfl, _, _, rfl, rfl, ⟨by decide, by decide⟩, _, rfl, _, _, rfl, rfl, hr2, _, rfl, _, _, rfl, rfl, ⟨by decide, by decide⟩, _, rfl, fun wd H6 hwd g6 => ⟨(by show 2 ≤ sizeLine; decide), fun p hp => ?_⟩⟩
      dsimp only at hp ⊢
      have gp := g6.trans (same_new hp (.tup [V.int (fi / 361 % r), V.str wd]))
      refine ⟨pe, xe, .ref p, rfl, rfl, gp _ _ i4, hlx, rfl, ?_, (hT.mono gp (Nat.le_refl _)).e AP (gp _ _ i4)⟩
      exact HI.addEnd AP (i1.trans gp) (gp _ _ i2) (gp _ _ i3) (gp _ _ i4) (paired_mono (fun _ _ => MkV.mono (Same.grow gp)) i5) (paired_mono (fun _ _ => StV.mono (Same.grow gp)) i6) (paired_mono (fun _ _ => MkV.mono (Same.grow gp)) i7)
        (i8.end_ m0 m1 hwd (by simp) (fun _ m hm => by simp at hm)) ⟨p, rfl, SqT.of upd_same⟩
  clear i1 i2 i3 i4 i5 i6 i7 i8 B S E' xb xs xe
  clear hT
  rintro _ H6 ⟨rfl, ⟨B, S, E', xb, xs, xe, i1, i2, i3, i4, i5, i6, i7, i8⟩, hT⟩
  refine ⟨_, rfl, _, rfl, _, rfl, _, rfl, _, rfl, (by show 5 ≤ sizeLine; decide), fun v hv => ?_⟩
  have gv := same_new hv (.tup [V.str g, V.int r, V.ref pb, V.ref ps, V.ref pe])
  exact q _ _ ⟨g, r, B, S, E'⟩ pb ps pe ⟨i1.trans gv, ⟨v, xb, xs, xe, rfl, SqT.of upd_same, SqL.of (gv _ _ i2), SqL.of (gv _ _ i3), SqL.of (gv _ _ i4), paired_mono (fun _ _ => MkV.mono (Same.grow gv)) i5, paired_mono (fun _ _ => StV.mono (Same.grow gv)) i6, paired_mono (fun _ _ => MkV.mono (Same.grow gv)) i7⟩,
    i8, hr0, hr1, hg1, hg2, hg3, hg4⟩ (by have := hT.le i2 i3 i4; rw [← i5.length, ← i6.length, ← i7.length] at this; exact this)

theorem sc_law_text : FnScope ["_law_cell", "_law_signs", "_law_text_here", "_law_number", "_law_k"] ["_law_cell", "_law_signs"] (defScope s_law_text) := ⟨rfl, rfl, rfl, by decide +kernel, rfl, by decide +kernel, by decide +kernel⟩
theorem ok_law_text (B : Bi mg) {c_ScribeError c_NoWay c_NoRoom c_NotPlain c_OtherSigns c_TooMany c_TwoWays c_NeverPlain c_NoText : Addr} (XB : Xb K mg c_ScribeError c_NoWay c_NoRoom c_NotPlain c_OtherSigns c_TooMany c_TwoWays c_NeverPlain c_NoText)  {f : Addr} {fd : FuncData} (F : Fun K "_law_text" "_law_text" s_law_text f fd) : FnOk P w K mg base CX0 1 f fd ["_law_cell", "_law_signs"] (spText) := by
  refine F.ok sc_law_text (fun vs H Q E h => ?_) (fun cdv A outer s H vs Q E hr h => ?_)
  · obtain ⟨c, g, rfl, _⟩ := h; rfl
  obtain ⟨c, g, rfl, hg1, hg2, q⟩ := h
  refine ⟨_, (pss_cons (ps_set (i := 2) sc_law_text.nd rfl (Or.inl rfl) pe_str)
      (pss_cons (ps_set (i := 3) sc_law_text.nd rfl (Or.inl rfl) (pe_op op_fdiv (pv 0) pe_int))
      (pss_cons (ps_for PassesOwn.never (by rfl) (pi_range1 (by rfl) B.range (pa_cons (pe_op op_mod (pv 0) pe_int) pa_nil)) (pg_name (i := 4) sc_law_text.nd rfl (Or.inl rfl)) (pss_cons (ps_set (i := 2) sc_law_text.nd rfl (Or.inl rfl) (pe_op op_add_str (pv 2) (pe_ix ix_str (pv 1) (pe_op op_mod (pv 3) (pe_callB call_len_str (by rfl) B.len bt_len (pa_cons (pv 1) pa_nil))) (by intro _ _; rfl))))
      (pss_one (ps_set (i := 3) sc_law_text.nd rfl (Or.inl rfl) (pe_op op_fdiv (pv 3) (pe_callB call_len_str (by rfl) B.len bt_len (pa_cons (pv 1) pa_nil)))))))
      (pss_one (ps_ret (pv 2)))))), ?_⟩
  have hgl : (0 : Int) < g.length ∧ (g.length : Int) < 1073741824 := by omega
  refine ⟨_, rfl, _, _, rfl, rfl, ⟨by decide, by decide⟩, ?_⟩
  refine ⟨_, rfl, _, _, rfl, rfl, pz, _, rfl, by omega, by omega, ?_⟩
  have h13 : (c % 13).toNat ≤ 12 := by omega
  refine for_range (fun i σ H' => H = H' ∧ ∃ (y : Str) (n : Int) (x4 : Option V), y.length = i ∧ σ = [some (.int c), some (.str g), some (.str y), some (.int n), x4]) ⟨rfl, "", _, none, rfl, rfl⟩ ?_ ?_
  · rintro i σ _ hi ⟨rfl, y, n, x4, hy, rfl⟩
    have hi12 : i < 12 := Nat.lt_of_lt_of_le hi h13
    obtain ⟨k, hk, hm⟩ := at_mem (xs := cl g) (i := n % (g.length : Int)) (Int.emod_nonneg _ (by omega)) (by rw [cl_length]; exact Int.emod_lt_of_pos _ hgl.1)
    refine ⟨_, rfl, _, rfl, _, rfl, _, rfl, g, rfl, szl (by omega), _, _, rfl, rfl, hgl.1, g, _, k, rfl, rfl, szl (by omega), hk, _, _, rfl, rfl, szl (by rw [hy, one_len]; omega), ?_⟩
    refine ⟨_, rfl, _, rfl, g, rfl, szl (by omega), _, _, rfl, rfl, hgl, ?_⟩
    exact ⟨rfl, _, _, _, by rw [len_app, hy]; rfl, rfl⟩
  · rintro σ _ ⟨rfl, y, n, x4, hy, rfl⟩
    exact ⟨_, rfl, q y (by omega)⟩

theorem sc_law_copied : FnScope ["_law_scribe_here"] ["_law_scribe_here"] (defScope s_law_copied) := ⟨rfl, rfl, rfl, by decide +kernel, rfl, by decide +kernel, by decide +kernel⟩
theorem ok_law_copied (B : Bi mg) {c_ScribeError c_NoWay c_NoRoom c_NotPlain c_OtherSigns c_TooMany c_TwoWays c_NeverPlain c_NoText : Addr} (XB : Xb K mg c_ScribeError c_NoWay c_NoRoom c_NotPlain c_OtherSigns c_TooMany c_TwoWays c_NeverPlain c_NoText)  {f : Addr} {fd : FuncData} (F : Fun K "_law_copied" "_law_copied" s_law_copied f fd) : FnOk P w K mg base CX0 1 f fd ["_law_scribe_here"] (spCopied K) := by
  refine F.ok sc_law_copied (fun vs H Q E h => ?_) (fun cdv A outer s H vs Q E hr h => ?_)
  · obtain ⟨v, s, pb, ps, pe, rfl, _⟩ := h; rfl
  obtain ⟨v, s, pb, ps, pe, rfl, hV, q⟩ := h
  refine ⟨_, (pss_one (ps_ret (pe_tup (pa_cons (pe_ix (kIx (K := K) rIxT ix_tup) (pv 0) pe_int (by intro _ _; rfl)) (pa_cons (pe_ix (kIx (K := K) rIxT ix_tup) (pv 0) pe_int (by intro _ _; rfl)) (pa_cons (pe_callTy (kCall (K := K) rLo call_list_of) (by rfl) B.list bt_list (pa_cons (pe_ix (kIx (K := K) rIxT ix_tup) (pv 0) pe_int (by intro _ _; rfl)) pa_nil)) (pa_cons (pe_callTy (kCall (K := K) rLo call_list_of) (by rfl) B.list bt_list (pa_cons (pe_ix (kIx (K := K) rIxT ix_tup) (pv 0) pe_int (by intro _ _; rfl)) pa_nil)) (pa_cons (pe_callTy (kCall (K := K) rLo call_list_of) (by rfl) B.list bt_list (pa_cons (pe_ix (kIx (K := K) rIxT ix_tup) (pv 0) pe_int (by intro _ _; rfl)) pa_nil)) pa_nil)))))))), ?_⟩
  obtain ⟨a, xb, xs, xe, rfl, h1, h2, h3, h4, h5, h6, h7⟩ := hV
  refine ⟨_, rfl, _, _, _, _, rfl, rfl, h1, rfl, _, rfl, _, _, _, _, rfl, rfl, h1, rfl, _, rfl, _, _, _, _, rfl, rfl, h1, rfl, pb, xb, rfl, .inl h2, fun qb hqb => ?_⟩
  have g1 := same_new hqb (.lst xb)
  refine ⟨_, rfl, _, _, _, _, rfl, rfl, Same.seqT g1 h1, rfl, ps, xs, rfl, .inl (g1.seq h3), fun qs hqs => ?_⟩
  have g2 := g1.trans (same_new hqs (.lst xs))
  refine ⟨_, rfl, _, _, _, _, rfl, rfl, Same.seqT g2 h1, rfl, pe, xe, rfl, .inl (g2.seq h4), fun qe hqe => ⟨(by show 5 ≤ sizeLine; decide), fun v hv => ?_⟩⟩
  have g3 := g2.trans (same_new hqe (.lst xe))
  have gv := same_new hv (.tup [V.str s.signs, V.int s.rooms, V.ref qb, V.ref qs, V.ref qe])
  have hqs' : H qs = none := g1.free hqs
  have hqe' : upd H qb (.lst xb) qe = none := (same_new hqs (.lst xs)).free hqe
  have AP : Apart H qb qs qe := ⟨hqb, hqs', g1.free hqe', ne_of_none upd_same hqs, ne_of_none upd_same hqe', ne_of_none upd_same hqe⟩
  have eb : upd (upd (upd H qb (.lst xb)) qs (.lst xs)) qe (.lst xe) qb = some (.lst xb) := by rw [upd_ne AP.be, upd_ne AP.bs]; exact upd_same
  have es : upd (upd (upd H qb (.lst xb)) qs (.lst xs)) qe (.lst xe) qs = some (.lst xs) := by rw [upd_ne AP.se]; exact upd_same
  have ee : upd (upd (upd H qb (.lst xb)) qs (.lst xs)) qe (.lst xe) qe = some (.lst xe) := upd_same
  have G := Same.grow (g3.trans gv)
  exact q _ _ qb qs qe (g3.trans gv) ⟨v, xb, xs, xe, rfl, SqT.of upd_same, gv _ _ eb, gv _ _ es, gv _ _ ee, paired_mono (fun _ _ => MkV.mono G) h5, paired_mono (fun _ _ => StV.mono G) h6, paired_mono (fun _ _ => MkV.mono G) h7⟩ AP

theorem sc_law_kinds : FnScope ["_law_kept", "_law_kinds_here"] ["_law_kept"] (defScope s_law_kinds) := ⟨rfl, rfl, rfl, by decide +kernel, rfl, by decide +kernel, by decide +kernel⟩
theorem ok_law_kinds (B : Bi mg) {c_ScribeError c_NoWay c_NoRoom c_NotPlain c_OtherSigns c_TooMany c_TwoWays c_NeverPlain c_NoText : Addr} (XB : Xb K mg c_ScribeError c_NoWay c_NoRoom c_NotPlain c_OtherSigns c_TooMany c_TwoWays c_NeverPlain c_NoText)  {f : Addr} {fd : FuncData} (F : Fun K "_law_kinds" "_law_kinds" s_law_kinds f fd) : FnOk P w K mg base CX0 1 f fd ["_law_kept"] (spKinds K c_TooMany [false, false, false, false, true, false, false, false, true]) := by
  refine F.ok sc_law_kinds (fun vs H Q E h => ?_) (fun cdv A outer s H vs Q E hr h => ?_)
  · obtain ⟨v, rfl, _⟩ := h; rfl
  obtain ⟨v, rfl, h⟩ := h
  refine ⟨_, (pss_cons (ps_if (pt_cmpR op_isN (pv 0) pe_non (nomark _)) (pss_one (ps_ret (pe_lst pa_nil))) pss_nil)
      (pss_cons (ps_set (i := 1) sc_law_kinds.nd rfl (Or.inl rfl) (pe_lst (pa_cons (pe_callB (kCall (K := K) rIsX call_isinstX) (by rfl) B.isinstance bt_isinstance (pa_cons (pv 0) (pa_cons (pe_globC (by rfl) XB.nm_NoWay) pa_nil))) (pa_cons (pe_callB (kCall (K := K) rIsX call_isinstX) (by rfl) B.isinstance bt_isinstance (pa_cons (pv 0) (pa_cons (pe_globC (by rfl) XB.nm_NoRoom) pa_nil))) (pa_cons (pe_callB (kCall (K := K) rIsX call_isinstX) (by rfl) B.isinstance bt_isinstance (pa_cons (pv 0) (pa_cons (pe_globC (by rfl) XB.nm_NotPlain) pa_nil))) pa_nil)))))
      (pss_cons (ps_set (i := 1) sc_law_kinds.nd rfl (Or.inl rfl) (pe_op op_cat (pv 1) (pe_lst (pa_cons (pe_callB (kCall (K := K) rIsX call_isinstX) (by rfl) B.isinstance bt_isinstance (pa_cons (pv 0) (pa_cons (pe_globC (by rfl) XB.nm_OtherSigns) pa_nil))) (pa_cons (pe_callB (kCall (K := K) rIsX call_isinstX) (by rfl) B.isinstance bt_isinstance (pa_cons (pv 0) (pa_cons (pe_globC (by rfl) XB.nm_TooMany) pa_nil))) (pa_cons (pe_callB (kCall (K := K) rIsX call_isinstX) (by rfl) B.isinstance bt_isinstance (pa_cons (pv 0) (pa_cons (pe_globC (by rfl) XB.nm_TwoWays) pa_nil))) pa_nil))))))
      (pss_cons (ps_set (i := 1) sc_law_kinds.nd rfl (Or.inl rfl) (pe_op op_cat (pv 1) (pe_lst (pa_cons (pe_callB (kCall (K := K) rIsX call_isinstX) (by rfl) B.isinstance bt_isinstance (pa_cons (pv 0) (pa_cons (pe_globC (by rfl) XB.nm_NeverPlain) pa_nil))) (pa_cons (pe_callB (kCall (K := K) rIsX call_isinstX) (by rfl) B.isinstance bt_isinstance (pa_cons (pv 0) (pa_cons (pe_globC (by rfl) XB.nm_NoText) pa_nil))) pa_nil)))))
      (pss_one (ps_ret (pe_op op_cat (pv 1) (pe_lst (pa_cons (pe_callB (kCall (K := K) rIsX call_isinstX) (by rfl) B.isinstance bt_isinstance (pa_cons (pv 0) (pa_cons (pe_ty (by rfl) B.ValueError bt_ValueError) pa_nil))) pa_nil))))))))), ?_⟩
  rcases h with ⟨rfl, q⟩ | ⟨x, rfl, hx, q⟩
  · refine ⟨_, rfl, rfl, _, rfl, iteDT rfl ?_⟩
    exact ⟨szl (Nat.le_of_ble_eq_true rfl), fun p hp => q p _ (same_new hp _) upd_same⟩
  refine ⟨_, rfl, rfl, _, rfl, iteD (fun z => nomatch z) ?_⟩
  refine ⟨_, rfl, x, c_TooMany, _, _, _, rfl, hx, XB.xc_TooMany, rfl, XB.is_TooMany_NoWay, _, rfl, x, c_TooMany, _, _, _, rfl, hx, XB.xc_TooMany, rfl, XB.is_TooMany_NoRoom, _, rfl, x, c_TooMany, _, _, _, rfl, hx, XB.xc_TooMany, rfl, XB.is_TooMany_NotPlain, szl (Nat.le_of_ble_eq_true rfl), fun p1 hp1 => ?_⟩
  have g1 := same_new hp1 (.lst [V.bl false, V.bl false, V.bl false])
  have e1 : upd H p1 (.lst [V.bl false, V.bl false, V.bl false]) p1 = some (.lst [V.bl false, V.bl false, V.bl false]) := upd_same
  have hx1 := g1 _ _ hx
  generalize upd H p1 (.lst [V.bl false, V.bl false, V.bl false]) = H1 at g1 e1 hx1 ⊢
  refine ⟨_, rfl, _, rfl, x, c_TooMany, _, _, _, rfl, hx1, XB.xc_TooMany, rfl, XB.is_TooMany_OtherSigns, _, rfl, x, c_TooMany, _, _, _, rfl, hx1, XB.xc_TooMany, rfl, XB.is_TooMany_TooMany, _, rfl, x, c_TooMany, _, _, _, rfl, hx1, XB.xc_TooMany, rfl, XB.is_TooMany_TwoWays, szl (Nat.le_of_ble_eq_true rfl), fun p2 hp2 => ?_⟩
  have g2 := same_new hp2 (.lst [V.bl false, V.bl true, V.bl false])
  refine ⟨p1, p2, _, _, rfl, rfl, g2 _ _ e1, upd_same, szl (Nat.le_of_ble_eq_true rfl), fun p3 hp3 => ?_⟩
  have g3 := (g1.trans g2).trans (same_new hp3 (.lst [V.bl false, V.bl false, V.bl false, V.bl false, V.bl true, V.bl false]))
  have e3 : upd (upd H1 p2 (.lst [V.bl false, V.bl true, V.bl false])) p3 (.lst [V.bl false, V.bl false, V.bl false, V.bl false, V.bl true, V.bl false]) p3 = some (.lst [V.bl false, V.bl false, V.bl false, V.bl false, V.bl true, V.bl false]) := upd_same
  have hx3 := g3 _ _ hx
  show _
  generalize hH3 : upd (upd H1 p2 (.lst [V.bl false, V.bl true, V.bl false])) p3 (.lst [V.bl false, V.bl false, V.bl false, V.bl false, V.bl true, V.bl false]) = H3 at g3 e3 hx3
  have hH3' : upd (upd H1 p2 (.lst [V.bl false, V.bl true, V.bl false])) p3 (.lst ([V.bl false, V.bl false, V.bl false] ++ [V.bl false, V.bl true, V.bl false])) = H3 := hH3
  rw [hH3']
  refine ⟨_, rfl, _, rfl, x, c_TooMany, _, _, _, rfl, hx3, XB.xc_TooMany, rfl, XB.is_TooMany_NeverPlain, _, rfl, x, c_TooMany, _, _, _, rfl, hx3, XB.xc_TooMany, rfl, XB.is_TooMany_NoText, szl (Nat.le_of_ble_eq_true rfl), fun p4 hp4 => ?_⟩
  have g4 := same_new hp4 (.lst [V.bl false, V.bl false])
  refine ⟨p3, p4, _, _, rfl, rfl, g4 _ _ e3, upd_same, szl (Nat.le_of_ble_eq_true rfl), fun p5 hp5 => ?_⟩
  have g5 := (g3.trans g4).trans (same_new hp5 (.lst [V.bl false, V.bl false, V.bl false, V.bl false, V.bl true, V.bl false, V.bl false, V.bl false]))
  have e5 : upd (upd H3 p4 (.lst [V.bl false, V.bl false])) p5 (.lst [V.bl false, V.bl false, V.bl false, V.bl false, V.bl true, V.bl false, V.bl false, V.bl false]) p5 = some (.lst [V.bl false, V.bl false, V.bl false, V.bl false, V.bl true, V.bl false, V.bl false, V.bl false]) := upd_same
  have hx5 := g5 _ _ hx
  generalize hH5 : upd (upd H3 p4 (.lst [V.bl false, V.bl false])) p5 (.lst [V.bl false, V.bl false, V.bl false, V.bl false, V.bl true, V.bl false, V.bl false, V.bl false]) = H5 at g5 e5 hx5
  have hH5' : upd (upd H3 p4 (.lst [V.bl false, V.bl false])) p5 (.lst ([V.bl false, V.bl false, V.bl false, V.bl false, V.bl true, V.bl false] ++ [V.bl false, V.bl false])) = H5 := hH5
  rw [hH5']
  refine ⟨_, rfl, _, rfl, x, c_TooMany, _, _, _, rfl, hx5, XB.xc_TooMany, rfl, XB.iv_TooMany_ValueError, szl (Nat.le_of_ble_eq_true rfl), fun p6 hp6 => ?_⟩
  have g6 := same_new hp6 (.lst [V.bl true])
  refine ⟨p5, p6, _, _, rfl, rfl, g6 _ _ e5, upd_same, szl (Nat.le_of_ble_eq_true rfl), fun p7 hp7 => ?_⟩
  exact q p7 _ ((g5.trans g6).trans (same_new hp7 _)) upd_same

theorem sc_law_wide : FnScope ["_law_script", "_law_cell", "_law_steps", "_law_sign", "_law_k", "_law_j", "_law_word_here"] ["_law_script"] (defScope s_law_wide) := ⟨rfl, rfl, rfl, by decide +kernel, rfl, by decide +kernel, by decide +kernel⟩
theorem ok_law_wide (B : Bi mg) {c_ScribeError c_NoWay c_NoRoom c_NotPlain c_OtherSigns c_TooMany c_TwoWays c_NeverPlain c_NoText : Addr} (XB : Xb K mg c_ScribeError c_NoWay c_NoRoom c_NotPlain c_OtherSigns c_TooMany c_TwoWays c_NeverPlain c_NoText) (C_law_cell_at : Cal P w K mg base "_law_cell_at" ["_law_script", "_law_k"] 1 (spCell K)) {f : Addr} {fd : FuncData} (F : Fun K "_law_wide" "_law_wide" s_law_wide f fd) : FnOk P w K mg base CX0 2 f fd ["_law_script"] (spWide K) := by
  refine F.ok sc_law_wide (fun vs H Q E h => ?_) (fun cdv A outer s H vs Q E hr h => ?_)
  · obtain ⟨a, ns, rfl, _⟩ := h; rfl
  obtain ⟨a, ns, rfl, hS, q⟩ := h
  refine ⟨_, (pss_cons (ps_set (i := 1) sc_law_wide.nd rfl (Or.inl rfl) (pe_op op_fdiv (pe_fn C_law_cell_at hr (by decide : 1 ≤ 1) (by rfl) (pa_cons (pv 0) (pa_cons pe_int pa_nil))) pe_int))
      (pss_cons (ps_set (i := 2) sc_law_wide.nd rfl (Or.inl rfl) (pe_lst pa_nil))
      (pss_cons (ps_for PassesOwn.never (by rfl) (pi_str pe_str) (pg_name (i := 3) sc_law_wide.nd rfl (Or.inl rfl)) (pss_one (ps_for PassesOwn.never (by rfl) (pi_range1 (by rfl) B.range (pa_cons pe_int pa_nil)) (pg_name (i := 4) sc_law_wide.nd rfl (Or.inl rfl)) (pss_one (ps_for PassesOwn.never (by rfl) (pi_range1 (by rfl) B.range (pa_cons pe_int pa_nil)) (pg_name (i := 5) sc_law_wide.nd rfl (Or.inl rfl)) (pss_cons (ps_set (i := 6) sc_law_wide.nd rfl (Or.inl rfl) (pe_abs (pe_ix (kIx (K := K) rPick ix_pick) (pe_lst (pa_cons pe_str (pa_cons pe_str (pa_cons pe_str (pa_cons pe_str (pa_cons pe_str pa_nil)))))) (pe_op op_mod (pe_op op_fdiv (pv 1) (pe_op op_add (pe_op op_add (pe_op op_mul pe_int (pv 4)) (pe_op op_mul pe_int (pv 5))) pe_int)) pe_int) (by intro _ _; rfl))))
      (pss_one (ps_if (pt_abs (PW.pt (pw_and (pt_cmpR (kOp (K := K) (rInD · true) (op_notInD hr.units)) (pe_tup (pa_cons (pv 4) (pa_cons (pv 3) (pa_cons (pv 6) (pa_cons (pv 5) pa_nil))))) (pv 2) rfl) (pw_and1 (pt_cmpR op_gt (pe_op op_mod (pe_op op_fdiv (pv 1) (pe_op op_add (pe_op op_add (pv 4) (pe_op op_mul pe_int (pv 5))) pe_int)) pe_int) pe_int (nomark _)))))) (pss_one (ps_expr (kPE (K := K) (fun k => tBM k _ _ _ _) (pe_bm PySem.F.plainAttrs_list PySem.F.slot_list_append PySem.F.type_list_append mt_append (pv 2) (pa_cons (pe_tup (pa_cons (pv 4) (pa_cons (pv 3) (pa_cons (pv 6) (pa_cons (pv 5) pa_nil))))) pa_nil))))) pss_nil))))))))
      (pss_one (ps_ret (pe_tup (pa_cons pe_str (pa_cons pe_int (pa_cons (pe_lst (pa_cons (pe_tup (pa_cons pe_int (pa_cons pe_str pa_nil))) pa_nil)) (pa_cons (pv 2) (pa_cons (pe_lst (pa_cons (pe_tup (pa_cons pe_int (pa_cons pe_str pa_nil))) (pa_cons (pe_tup (pa_cons pe_int (pa_cons pe_str pa_nil))) pa_nil))) pa_nil))))))))))), ?_⟩
  refine ⟨_, rfl, a, ns, 1, rfl, hS, (by decide), _, _, rfl, rfl, ⟨by decide, by decide⟩, ?_⟩
  obtain ⟨ce, hce⟩ : ∃ ce, ce = cellAt ns 1 / 7 := ⟨_, rfl⟩
  refine ⟨szl (Nat.le_of_ble_eq_true rfl), fun ps hps => ?_⟩
  have W0 : WI K H ps 0 (upd H ps (.lst [])) := ⟨same_new hps _, [], [], upd_same, .nil, Nat.le_refl _, fun t h => by cases h⟩
  generalize upd H ps (.lst []) = H1 at W0 ⊢
  refine ⟨_, rfl, ?_⟩
  refine for_str (fun i σ H' => WI K H ps (4 * i) H' ∧ ∃ x3 x4 x5 x6, σ = [some (.ref a), some (.int ce), some (.ref ps), x3, x4, x5, x6]) ⟨W0, _, _, _, _, by rw [hce]; rfl⟩ ?_ ?_
  · rintro i c σ H2 hc ⟨w2, x3, x4, x5, x6, rfl⟩
    refine ⟨_, rfl, ?_⟩
    refine ⟨by decide, by decide, ?_⟩
    refine for_range (fun j σ H' => WI K H ps (4 * i + 2 * j) H' ∧ ∃ x4 x5 x6, σ = [some (.ref a), some (.int ce), some (.ref ps), some (.str ⟨#[c]⟩), x4, x5, x6]) ⟨w2, _, _, _, rfl⟩ ?_ ?_
    · rintro j σ H3 hj ⟨w3, x4, x5, x6, rfl⟩
      refine ⟨_, rfl, ?_⟩
      refine ⟨by decide, by decide, ?_⟩
      refine for_range (fun k σ H' => WI K H ps (4 * i + 2 * j + k) H' ∧ ∃ x5 x6, σ = [some (.ref a), some (.int ce), some (.ref ps), some (.str ⟨#[c]⟩), some (.int (0 + (j : Int))), x5, x6]) ⟨w3, _, _, rfl⟩ ?_ ?_
      · rintro k σ H4 hk ⟨w4, x5, x6, rfl⟩
        refine ⟨fun v H' => Same H4 H' ∧ ∃ x : Str, v = .str x ∧ x.length ≤ 2, ⟨szl (Nat.le_of_ble_eq_true rfl), fun p hp => ⟨_, rfl, _, rfl, _, _, rfl, rfl, .inl ⟨by decide, by decide⟩, _, rfl, _, _, rfl, rfl, .inl ⟨by decide, by decide⟩, _, _, rfl, rfl, _, _, rfl, rfl, _, _, rfl, rfl, ⟨by omega, by omega⟩, _, _, rfl, rfl, pz, p, _, _, rfl, rfl, SqL.of upd_same, by omega, (by show _ % 5 < (5 : Int); omega), fun v => ∃ x : Str, v = .str x ∧ x.length ≤ 2, ?_, fun v hv => ⟨same_new hp _, hv⟩⟩⟩, ?_⟩
        · intro v hv
          simp only [List.mem_cons, List.not_mem_nil, or_false] at hv
          rcases hv with rfl | rfl | rfl | rfl | rfl <;> exact ⟨_, rfl, by decide +kernel⟩
        rintro _ H5 ⟨g5, x, rfl, hx⟩
        have w5 := w4.mono g5 (Nat.le_refl _)
        obtain ⟨g0, S, xs, i3, i6, hl, ho⟩ := w5
        have hl8 : i < 2 := by
          have := (List.getElem?_eq_some_iff.mp hc).1
          have e : (Str.ofString "ab").cps.toList.length = 2 := by decide +kernel
          omega
        have hx8 : xs.length ≤ 16 := by rw [← i6.length]; omega
        refine ⟨fun b H' => Same H5 H', ?_, ?_⟩
        · refine ⟨_, rfl, _, rfl, _, rfl, _, rfl, (by show 4 ≤ sizeLine; decide), fun t ht => ?_⟩
          have gt := same_new ht (.tup [V.int (0 + (j : Int)), V.str ⟨#[c]⟩, V.str x, V.int (0 + (k : Int))])
          refine ⟨_, rfl, dSt (0 + (j : Int), ⟨#[c]⟩, x, 0 + (k : Int)), ps, xs, S.map dSt, StV.rep ⟨t, rfl, SqT.of upd_same⟩, rfl, SqL.of (gt _ _ i3), reps_st (paired_mono (fun _ _ => StV.mono (Same.grow gt)) i6), Nat.le_trans (deeps_map dSt 1 deep_dSt S) (by decide), _, rfl, iteB (fun _ => ?_) (fun _ => gt)⟩
          exact ⟨_, rfl, _, rfl, _, rfl, _, _, rfl, rfl, .inl ⟨by decide, by decide⟩, _, _, rfl, rfl, _, _, rfl, rfl, _, _, rfl, rfl, ⟨by omega, by omega⟩, _, _, rfl, rfl, pz, _, _, rfl, rfl, _, rfl, gt⟩
        · rintro b H6 g6
          refine iteB (fun _ => ?_) (fun _ => ⟨WI.mono ⟨g0, S, xs, i3, i6, hl, ho⟩ g6 (by omega), _, _, rfl⟩)
          refine ⟨_, rfl, .inl ⟨rfl, _, SqL.of (g6 _ _ i3)⟩, _, rfl, _, rfl, _, rfl, _, rfl, (by show 4 ≤ sizeLine; decide), fun t ht => ?_⟩
          have gt := g6.trans (same_new ht (.tup [V.int (0 + (j : Int)), V.str ⟨#[c]⟩, V.str x, V.int (0 + (k : Int))]))
          refine ⟨ps, xs, .ref t, rfl, rfl, gt _ _ i3, szl' (by omega), ?_, _, _, rfl⟩
          exact WI.add (WI.mono ⟨g0, S, xs, i3, i6, hl, ho⟩ gt (Nat.le_refl _)) hps (gt _ _ i3) (t := (0 + (j : Int), ⟨#[c]⟩, x, 0 + (k : Int))) ⟨by show (1 : Nat) ≤ 1; omega, hx⟩ ⟨t, rfl, SqT.of upd_same⟩
      · rintro σ H4 ⟨w4, x5, x6, rfl⟩
        exact ⟨w4, _, _, _, rfl⟩
    · rintro σ H3 ⟨w3, x4, x5, x6, rfl⟩
      exact ⟨w3, _, _, _, _, rfl⟩
  rintro σ H2 ⟨w2, x3, x4, x5, x6, rfl⟩
  have e2 : (Str.ofString "ab").cps.toList.length = 2 := by decide +kernel
  rw [e2] at w2
  obtain ⟨g0, S, xs, i3, i6, hl, ho⟩ := w2
  refine ⟨(by show 2 ≤ sizeLine; decide), fun m0 hm0 => ⟨szl (Nat.le_of_ble_eq_true rfl), fun pb hpb => ⟨_, rfl, (by show 2 ≤ sizeLine; decide), fun m1 hm1 => ⟨(by show 2 ≤ sizeLine; decide), fun m2 hm2 => ⟨szl (Nat.le_of_ble_eq_true rfl), fun pe hpe => ⟨(by show 5 ≤ sizeLine; decide), fun v hv => ?_⟩⟩⟩⟩⟩⟩
  have k0 := same_new hm0 (.tup [V.int 0, V.str ""])
  have k1 := same_new hpb (.lst [V.ref m0])
  have k2 := same_new hm1 (.tup [V.int 0, V.str ""])
  have k3 := same_new hm2 (.tup [V.int 1, V.str "a"])
  have k4 := same_new hpe (.lst [V.ref m1, V.ref m2])
  have k5 := same_new hv (.tup [V.str "ab", V.int 2, V.ref pb, V.ref ps, V.ref pe])
  have t2 := (k2.trans k3).trans (k4.trans k5)
  have t1 := k1.trans t2
  refine q _ _ ⟨"ab", 2, [(0, "")], S, [(0, ""), (1, "a")]⟩ pb ps pe (g0.trans (k0.trans t1)) ⟨v, [.ref m0], xs, [.ref m1, .ref m2], rfl, SqT.of upd_same, SqL.of (t2 _ _ upd_same), SqL.of ((k0.trans t1) _ _ i3), SqL.of (k5 _ _ upd_same), ?_, ?_, ?_⟩ ?_
  · exact .cons ⟨m0, rfl, Same.seqT t1 (SqT.of upd_same)⟩ .nil
  · exact paired_mono (fun _ _ => StV.mono (Same.grow (k0.trans t1))) i6
  · exact .cons ⟨m1, rfl, Same.seqT ((k3.trans k4).trans k5) (SqT.of upd_same)⟩ (.cons ⟨m2, rfl, Same.seqT (k4.trans k5) (SqT.of upd_same)⟩ .nil)
  · refine ⟨rfl, rfl, hl, rfl, fun m hm => ?_, fun t ht => ⟨Nat.le_trans (ho t ht).1 (by decide), Nat.le_trans (ho t ht).2 (by decide)⟩, fun m hm => ?_⟩
    · rw [List.mem_singleton.mp hm]; decide +kernel
    · simp only [List.mem_cons, List.not_mem_nil, or_false] at hm
      rcases hm with rfl | rfl <;> decide +kernel

theorem sc_law_next : FnScope ["_law_steps", "_law_pairs", "_law_sign", "_law_found", "_law_marks", "_law_room", "_law_word_here", "_law_step"] ["_law_steps", "_law_pairs", "_law_sign"] (defScope s_law_next) := ⟨rfl, rfl, rfl, by decide +kernel, rfl, by decide +kernel, by decide +kernel⟩
theorem ok_law_next (B : Bi mg) {c_ScribeError c_NoWay c_NoRoom c_NotPlain c_OtherSigns c_TooMany c_TwoWays c_NeverPlain c_NoText : Addr} (XB : Xb K mg c_ScribeError c_NoWay c_NoRoom c_NotPlain c_OtherSigns c_TooMany c_TwoWays c_NeverPlain c_NoText)  {f : Addr} {fd : FuncData} (F : Fun K "_law_next" "_law_next" s_law_next f fd) : FnOk P w K mg base CX0 1 f fd ["_law_steps", "_law_pairs", "_law_sign"] (spNext K) := by
  refine F.ok sc_law_next (fun vs H Q E h => ?_) (fun cdv A outer s H vs Q E hr h => ?_)
  · obtain ⟨sv, qv, k, S, Pm, rfl, _⟩ := h; rfl
  obtain ⟨sv, qv, k, S, Pm, rfl, hS, hP, lP, lS, wP, wT, q⟩ := h
  refine ⟨_, (pss_cons (ps_set (i := 3) sc_law_next.nd rfl (Or.inl rfl) (pe_lst pa_nil))
      (pss_cons (ps_set (i := 4) sc_law_next.nd rfl (Or.inl rfl) pe_dnewT)
      (pss_cons (ps_for PassesOwn.never (by rfl) (kPI (K := K) (fun k => iList k _) (pi_list (pv 1))) (kPG (K := K) (fun k => gTup k 2 _) (pg_tup (n := 2) (by rfl) (pgs_cons (pg_name (i := 5) sc_law_next.nd rfl (Or.inl rfl)) (pgs_cons (pg_name (i := 6) sc_law_next.nd rfl (Or.inl rfl)) pgs_nil)))) (pss_one (ps_for PassesOwn.never (by rfl) (kPI (K := K) (fun k => iList k _) (pi_list (pv 0))) (pg_name (i := 7) sc_law_next.nd rfl (Or.inl rfl)) (pss_one (ps_if (pt_abs (PW.pt (pw_and (pt_cmpR op_eq (pe_ix (kIx (K := K) rIxT ix_tup) (pv 7) pe_int (by intro _ _; rfl)) (pv 5) (nomark _)) (pw_and (pt_cmpR op_eq (pe_ix (kIx (K := K) rIxT ix_tup) (pv 7) pe_int (by intro _ _; rfl)) (pv 2) (nomark _)) (pw_and1 (pt_cmp (pc_dnotin (hu_of hr) (pe_tup (pa_cons (pe_ix (kIx (K := K) rIxT ix_tup) (pv 7) pe_int (by intro _ _; rfl)) (pa_cons (pe_op op_add_str (pv 6) (pe_ix (kIx (K := K) rIxT ix_tup) (pv 7) pe_int (by intro _ _; rfl))) pa_nil))) (pv 4)))))))) (pss_cons (ps_dput (hu_of hr) (pv 4) (pe_tup (pa_cons (pe_ix (kIx (K := K) rIxT ix_tup) (pv 7) pe_int (by intro _ _; rfl)) (pa_cons (pe_op op_add_str (pv 6) (pe_ix (kIx (K := K) rIxT ix_tup) (pv 7) pe_int (by intro _ _; rfl))) pa_nil))) pe_bl rfl)
      (pss_one (ps_expr (kPE (K := K) (fun k => tBM k _ _ _ _) (pe_bm PySem.F.plainAttrs_list PySem.F.slot_list_append PySem.F.type_list_append mt_append (pv 3) (pa_cons (pe_tup (pa_cons (pe_ix (kIx (K := K) rIxT ix_tup) (pv 7) pe_int (by intro _ _; rfl)) (pa_cons (pe_op op_add_str (pv 6) (pe_ix (kIx (K := K) rIxT ix_tup) (pv 7) pe_int (by intro _ _; rfl))) pa_nil))) pa_nil)))))) pss_nil)))))
      (pss_one (ps_ret (pv 3)))))), ?_⟩
  obtain ⟨pp, xs, rfl, p1, p2⟩ := hP
  obtain ⟨ss, ys, rfl, s1, s2⟩ := hS
  have lx : xs.length ≤ 1000 := by rw [← p2.length]; exact lP
  have ly : ys.length ≤ 33 := by rw [← s2.length]; exact lS
  refine ⟨szl (Nat.le_of_ble_eq_true rfl), fun fl hfl => ?_⟩
  have g1 := same_new hfl (.lst [])
  refine fun d hd => ?_
  have g2 := same_new hd (.dT [])
  have hne : fl ≠ d := ne_of_none upd_same hd
  have g0 := g1.trans g2
  have n0 : NI K (upd (upd H fl (.lst [])) d (.dT [])) d fl [] := ⟨[], [], upd_same, rfl, g2 _ _ upd_same, .nil⟩
  have hfd : H fl = none := hfl
  have hdd : H d = none := g1.free hd
  generalize upd (upd H fl (.lst [])) d (.dT []) = H1 at g0 n0 ⊢
  clear g1 g2 hd hfl
  refine ⟨_, rfl, pp, rfl, ⟨xs, g0.seq p1⟩, ?_⟩
  refine for_list (xs := xs) (fun i σ H' => Same H H' ∧ i ≤ xs.length ∧ (∃ x5 x6 x7, σ = [some (.ref ss), some (.ref pp), some (.str ⟨#[k]⟩), some (.ref fl), some (.ref d), x5, x6, x7]) ∧ NI K H' d fl ((Pm.take i).flatMap (onM S k)))
    ⟨g0, Nat.zero_le _, ⟨_, _, _, rfl⟩, n0⟩ (fun i σ H' _ z => z.1.seq p1) ?_ ?_
  · rintro i x σ H2 hx ⟨g2, hi, ⟨x5, x6, x7, rfl⟩, n2⟩
    obtain ⟨c, hc, b, rfl, hb⟩ := paired_get p2 hx
    have hil : i < xs.length := (List.getElem?_eq_some_iff.mp hx).1
    have hb2 := (Same.grow g2).seqT hb
    have wc : c.2.length ≤ 50000 := wP c (List.mem_of_getElem? hc)
    have fli : ((Pm.take i).flatMap (onM S k)).length ≤ 33 * 1000 := Nat.le_trans (flatLe _ 33 _ fun x _ => Nat.le_trans (onM_le ..) lS) (Nat.mul_le_mul_left _ (Nat.le_trans (List.length_take_le ..) (by omega)))
    refine ⟨b, _, rfl, hb2, rfl, _, _, rfl, _, _, rfl, rfl, ?_⟩
    refine ⟨_, rfl, ss, rfl, ⟨ys, g2.seq s1⟩, ?_⟩
    refine for_list (xs := ys) (fun j σ H' => Same H H' ∧ j ≤ ys.length ∧ (∃ x7, σ = [some (.ref ss), some (.ref pp), some (.str ⟨#[k]⟩), some (.ref fl), some (.ref d), some (.int c.1), some (.str c.2), x7]) ∧ NI K H' d fl ((Pm.take i).flatMap (onM S k) ++ onM (S.take j) k c))
      ⟨g2, Nat.zero_le _, ⟨_, rfl⟩, by rw [show onM (S.take 0) k c = [] from rfl, List.append_nil]; exact n2⟩ (fun j σ H' _ z => z.1.seq s1) ?_ ?_
    · rintro j y σ H3 hy ⟨g3, hj, ⟨x7, rfl⟩, n3⟩
      obtain ⟨t, ht, bt, rfl, hbt⟩ := paired_get s2 hy
      have hbt3 := (Same.grow g3).seqT hbt
      have hjl : j < ys.length := (List.getElem?_eq_some_iff.mp hy).1
      have tw := wT t (List.mem_of_getElem? ht)
      have hon := onM_snoc (k := k) (c := c) ht
      have lon : (onM (S.take j) k c).length ≤ 33 := Nat.le_trans (onM_le ..) (Nat.le_trans (List.length_take_le ..) (by omega))
      obtain ⟨L, hL⟩ : ∃ L, L = (Pm.take i).flatMap (onM S k) ++ onM (S.take j) k c := ⟨_, rfl⟩
      have lL : L.length ≤ 34000 := by rw [hL, List.length_append]; omega
      rw [← hL] at n3
      have n3' := n3
      obtain ⟨kvs, fs, k1, k2, k3, k4⟩ := n3
      refine ⟨fun b H' => Same H3 H' ∧ (b = true → stKey t = [Sum.inl c.1, Sum.inr (⟨#[k]⟩ : Str)] ∧ (t.2.2.2, c.2 ++ t.2.2.1) ∉ onceM L) ∧ (b = false → stKey t = [Sum.inl c.1, Sum.inr (⟨#[k]⟩ : Str)] → (t.2.2.2, c.2 ++ t.2.2.1) ∈ onceM L), ?_, ?_⟩
      · refine ⟨_, rfl, _, _, _, _, rfl, rfl, hbt3, rfl, _, rfl, rfl, _, rfl, iteDd (fun c1 => ?_) (fun c1 => ⟨Same.refl _, (fun z => nomatch z), fun _ z => absurd ((key_iff _ _ _).mp z).1 (fun e => c1 (by rw [e]))⟩)⟩
        refine ⟨_, rfl, _, _, _, _, rfl, rfl, hbt3, rfl, _, rfl, rfl, _, rfl, iteDd (fun c2 => ?_) (fun c2 => ⟨Same.refl _, (fun z => nomatch z), fun _ z => absurd ((key_iff _ _ _).mp z).2 (fun e => c2 (by rw [e]))⟩)⟩
        refine ⟨_, rfl, _, _, _, _, rfl, rfl, hbt3, rfl, _, rfl, _, rfl, _, _, _, _, rfl, rfl, hbt3, rfl, _, _, rfl, rfl, szl (by omega), (by show 2 ≤ sizeLine; decide), fun p2 hp2 => ?_⟩
        have gp2 := same_new hp2 (.tup [V.int t.2.2.2, V.str (c.2 ++ t.2.2.1)])
        refine ⟨_, rfl, d, _, rfl, DGet.t (k := pKey (t.2.2.2, c.2 ++ t.2.2.1)) (gp2 _ _ k1) upd_same, _, rfl, gp2, fun z => ⟨(key_iff _ _ _).mpr ⟨by injection c1, by injection c2⟩, fun hm => ?_⟩, fun z _ => ?_⟩
        · rw [(key_has _ k2).mpr hm] at z; cases z
        · refine (key_has _ k2).mp ?_
          generalize (valV kvs (pKey (t.2.2.2, c.2 ++ t.2.2.1))).isSome = bb at z ⊢
          cases bb; cases z; rfl
      · rintro bb H4 ⟨g4, hb1, hb0⟩
        refine iteB (fun hbb => ?_) (fun hbb => ?_)
        · obtain ⟨hk, hn⟩ := hb1 hbb
          have hbt4 := (Same.grow g4).seqT hbt3
          have k1' := g4 _ _ k1
          have k3' := g4 _ _ k3
          have k4' : Paired (MkV K H4) (onceM L) fs := paired_mono (fun _ _ => MkV.mono (Same.grow g4)) k4
          have lk : kvs.length ≤ 34000 := by
            have e1 := congrArg List.length k2
            rw [List.length_map, List.length_map] at e1
            have := once_len L; omega
          have lf : fs.length ≤ 34000 := by rw [← k4.length]; have := once_len L; omega
          refine ⟨_, rfl, _, rfl, _, _, _, _, rfl, rfl, hbt4, rfl, _, rfl, _, rfl, _, _, _, _, rfl, rfl, hbt4, rfl, _, _, rfl, rfl, szl (by omega), (by show 2 ≤ sizeLine; decide), fun p2 hp2 => ?_⟩
          have gp2 := same_new hp2 (.tup [V.int t.2.2.2, V.str (c.2 ++ t.2.2.1)])
          have ep2 : upd H4 p2 (.tup [V.int t.2.2.2, V.str (c.2 ++ t.2.2.1)]) p2 = some (.tup ((pKey (t.2.2.2, c.2 ++ t.2.2.1)).map kV)) := upd_same
          have k1'' := gp2 _ _ k1'
          have hbt5 := (gt_upd k1'' (fun _ z => nomatch z) (fun _ _ z => nomatch z) (.dT (putK kvs (pKey (t.2.2.2, c.2 ++ t.2.2.1)) (.bl true)))).seqT ((Same.grow gp2).seqT hbt4)
          refine ⟨d, _, rfl, DPut.t (v := .bl true) k1'' ep2 (szl' (by omega)), ?_⟩
          have e3 : upd (upd H4 p2 (.tup [V.int t.2.2.2, V.str (c.2 ++ t.2.2.1)])) d (.dT (putK kvs (pKey (t.2.2.2, c.2 ++ t.2.2.1)) (.bl true))) fl = some (.lst fs) := by rw [upd_ne hne]; exact gp2 _ _ k3'
          have g5 : Same H (upd (upd H4 p2 (.tup [V.int t.2.2.2, V.str (c.2 ++ t.2.2.1)])) d (.dT (putK kvs (pKey (t.2.2.2, c.2 ++ t.2.2.1)) (.bl true)))) := same_updN ((g3.trans g4).trans gp2) hdd
          refine ⟨_, rfl, .inl ⟨rfl, _, SqL.of e3⟩, _, rfl, _, _, _, _, rfl, rfl, hbt5, rfl, _, rfl, _, rfl, _, _, _, _, rfl, rfl, hbt5, rfl, _, _, rfl, rfl, szl (by omega), (by show 2 ≤ sizeLine; decide), fun p3 hp3 => ?_⟩
          have gp3 := same_new hp3 (.tup [V.int t.2.2.2, V.str (c.2 ++ t.2.2.1)])
          refine ⟨fl, fs, .ref p3, rfl, rfl, gp3 _ _ e3, szl' (by omega), same_updN (g5.trans gp3) hfd, hjl, ⟨_, rfl⟩, ?_⟩
          rw [hon, if_pos hk, ← List.append_assoc, ← hL]
          exact NI.put hne k1'' k2 (gp2 _ _ k3') (paired_mono (fun _ _ => MkV.mono (Same.grow gp2)) k4') hn gp3 (SqT.of upd_same)
        · refine ⟨g3.trans g4, hjl, ⟨_, rfl⟩, ?_⟩
          rw [hon, ← List.append_assoc, ← hL]
          by_cases hk : stKey t = [Sum.inl c.1, Sum.inr (⟨#[k]⟩ : Str)]
          · rw [if_pos hk]; exact NI.same (n3'.mono g4) (hb0 hbb hk)
          · rw [if_neg hk, List.append_nil]; exact n3'.mono g4
    · rintro σ H3 ⟨g3, _, ⟨x7, rfl⟩, n3⟩
      refine ⟨g3, hil, ⟨_, _, _, rfl⟩, ?_⟩
      rw [← s2.length, List.take_length] at n3
      rw [flat_take _ hc]; exact n3
  rintro σ H2 ⟨g2, _, ⟨x5, x6, x7, rfl⟩, kvs, fs, k1, k2, k3, k4⟩
  rw [← p2.length, List.take_length] at k4
  exact ⟨_, rfl, q _ _ g2 ⟨fl, fs, rfl, SqL.of k3, k4⟩⟩

theorem sc_law_due : FnScope ["_law_scribe_here", "_law_text_here", "_law_pairs", "_law_sign", "_law_words", "_law_room", "_law_word_here"] ["_law_scribe_here", "_law_text_here"] (defScope s_law_due) := ⟨rfl, rfl, rfl, by decide +kernel, rfl, by decide +kernel, by decide +kernel⟩
theorem ok_law_due (B : Bi mg) {c_ScribeError c_NoWay c_NoRoom c_NotPlain c_OtherSigns c_TooMany c_TwoWays c_NeverPlain c_NoText : Addr} (XB : Xb K mg c_ScribeError c_NoWay c_NoRoom c_NotPlain c_OtherSigns c_TooMany c_TwoWays c_NeverPlain c_NoText) (C_law_next : Cal P w K mg base "_law_next" ["_law_steps", "_law_pairs", "_law_sign"] 1 (spNext K)) {f : Addr} {fd : FuncData} (F : Fun K "_law_due" "_law_due" s_law_due f fd) : FnOk P w K mg base CX0 2 f fd ["_law_scribe_here", "_law_text_here"] (spDue15 K) := by
  refine F.ok sc_law_due (fun vs H Q E h => ?_) (fun cdv A outer s H vs Q E hr h => ?_)
  · obtain ⟨v, s, pb, ps, pe, x, rfl, _⟩ := h; rfl
  obtain ⟨v, s, pb, ps, pe, x, rfl, hV, hT, hx, q, hE⟩ := h
  refine ⟨_, (pss_cons (ps_set (i := 2) sc_law_due.nd rfl (Or.inl rfl) (pe_callTy (kCall (K := K) rLo call_list_of) (by rfl) B.list bt_list (pa_cons (pe_ix (kIx (K := K) rIxT ix_tup) (pv 0) pe_int (by intro _ _; rfl)) pa_nil)))
      (pss_cons (ps_for PassesOwn.never (by rfl) (pi_str (pv 1)) (pg_name (i := 3) sc_law_due.nd rfl (Or.inl rfl)) (pss_cons (ps_if (pt_cmpR op_gt (pe_callB (kLen (K := K)) (by rfl) B.len bt_len (pa_cons (pv 2) pa_nil)) pe_int (nomark _)) (pss_one (ps_ret pe_non)) pss_nil)
      (pss_one (ps_set (i := 2) sc_law_due.nd rfl (Or.inl rfl) (pe_fn C_law_next hr (by decide : 1 ≤ 1) (by rfl) (pa_cons (pe_ix (kIx (K := K) rIxT ix_tup) (pv 0) pe_int (by intro _ _; rfl)) (pa_cons (pv 2) (pa_cons (pv 3) pa_nil))))))))
      (pss_cons (ps_if (pt_cmpR op_gt (pe_callB (kLen (K := K)) (by rfl) B.len bt_len (pa_cons (pv 2) pa_nil)) pe_int (nomark _)) (pss_one (ps_ret pe_non)) pss_nil)
      (pss_cons (ps_set (i := 4) sc_law_due.nd rfl (Or.inl rfl) (pe_lst pa_nil))
      (pss_cons (ps_for PassesOwn.never (by rfl) (kPI (K := K) (fun k => iList k _) (pi_list (pv 2))) (kPG (K := K) (fun k => gTup k 2 _) (pg_tup (n := 2) (by rfl) (pgs_cons (pg_name (i := 5) sc_law_due.nd rfl (Or.inr rfl)) (pgs_cons (pg_name (i := 6) sc_law_due.nd rfl (Or.inr rfl)) pgs_nil)))) (pss_one (ps_set (i := 4) sc_law_due.nd rfl (Or.inl rfl) (pe_op op_cat (pv 4) (pe_comp rfl (blk_mk (N' := ["_law_end", "_law_word_here", "_law_room"]) (js := [none, some 6, some 5]) rfl (by decide +kernel) rfl (by decide +kernel) rfl rfl) (kPI (K := K) (fun k => iList k _) (pi_list (pe_ix (kIx (K := K) rIxT ix_tup) (pv 0) pe_int (by intro _ _; rfl)))) (fun _ _ _ _ _ => (pg_name (i := 0) (show List.Nodup (["_law_end", "_law_word_here", "_law_room"] : List Str) by decide +kernel) rfl (Or.inl rfl))) (fun _ _ _ _ _ => (pf_one (pt_cmpR op_eq (pe_ix (kIx (K := K) rIxT ix_tup) (pv 0) pe_int (by intro _ _; rfl)) (pv 2) (nomark _)))) (fun _ _ _ _ _ => (pe_op op_add_str (pv 1) (pe_ix (kIx (K := K) rIxT ix_tup) (pv 0) pe_int (by intro _ _; rfl)))))))))
      (pss_one (ps_ret (pe_callB (call_sorted_ss (by rfl)) (by rfl) B.sorted bt_sorted (pa_cons (pe_callTy (call_setSS (by rfl)) (by rfl) B.set bt_set (pa_cons (pv 4) pa_nil)) pa_nil))))))))), ?_⟩
  obtain ⟨hTot, hSh⟩ := hT
  obtain ⟨a, xb, xs, xe, rfl, h1, h2, h3, h4, h5, h6, h7⟩ := hV
  have lb : xb.length ≤ 33 := by rw [← h5.length]; omega
  have ls : xs.length ≤ 33 := by rw [← h6.length]; omega
  have le : xe.length ≤ 33 := by rw [← h7.length]; omega
  have wT : ∀ t ∈ s.steps, t.2.2.1.length ≤ 100 := fun t ht => (hSh.2.1 t ht).2
  have hxl : (cl x).length = x.length := cl_length x
  refine ⟨_, rfl, _, _, _, _, rfl, rfl, h1, rfl, pb, xb, rfl, .inl h2, fun qb hqb => ?_⟩
  have gb := same_new hqb (.lst xb)
  have hP0 : PrV K (upd H qb (.lst xb)) s.begins (.ref qb) := ⟨qb, xb, rfl, SqL.of upd_same, paired_mono (fun _ _ => MkV.mono (Same.grow gb)) h5⟩
  generalize upd H qb (.lst xb) = H1 at gb hP0 ⊢
  refine ⟨_, rfl, _, rfl, ?_⟩
  refine for_str (fun i σ H' => i ≤ x.length ∧ Same H H' ∧ ∃ R vP x3, PrV K H' R vP ∧ R.length ≤ 33000 ∧ (R.length ≤ 1000 → pairsM s ((cl x).take i) = some R) ∧ (1000 < R.length → pairsM s ((cl x).take i) = none) ∧ (∀ m ∈ R, m.2.length ≤ 100 * (i + 1)) ∧ σ = [some (.ref a), some (.str x), some vP, x3, none, none, none])
    ⟨Nat.zero_le _, gb, s.begins, .ref qb, none, hP0, by omega, fun _ => rfl, fun z => absurd z (by omega), fun m hm => by have := hSh.1 m hm; omega, rfl⟩ ?_ ?_
  · rintro i c σ H2 hc ⟨hi, g2, R, vP, x3, hPr, lR, hS, hB, wP, rfl⟩
    have hil : i < x.length := by rw [← hxl]; exact (List.getElem?_eq_some_iff.mp hc).1
    obtain ⟨pp, zs, rfl, p1, p2⟩ := hPr
    have lz := p2.length
  
    refine ⟨_, rfl, pp, zs, rfl, .inl p1, _, _, rfl, rfl, _, rfl, iteDd (fun c1 => ?_) (fun c1 => ?_)⟩
    · exact hE (pairs_cut (hB (by omega))) _ g2
    have lR1 : R.length ≤ 1000 := by omega
    refine ⟨_, rfl, _, _, _, _, rfl, rfl, Same.seqT g2 h1, rfl, _, rfl, _, rfl, .ref ps, .ref pp, c, s.steps, R, rfl, ⟨ps, xs, rfl, g2.seq h3, paired_mono (fun _ _ => StV.mono (Same.grow g2)) h6⟩, ⟨pp, zs, rfl, p1, p2⟩, lR1, by omega, fun m hm => by have := wP m hm; omega, wT, fun v' H3 g3 hPr3 => ?_⟩
    have e1 : pairsM s ((cl x).take (i + 1)) = if (behindM s.steps R c).length ≤ 1000 then some (behindM s.steps R c) else none := by
      rw [pairs_take hc, hS lR1]; rfl
    refine ⟨hil, g2.trans g3, behindM s.steps R c, v', _, hPr3, ?_, fun z => by rw [e1, if_pos z], fun z => by rw [e1, if_neg (by omega)], fun m hm => ?_, rfl⟩
    · have := once_len (newsM s.steps R c)
      have f := flatLe (onM s.steps c) 33 R fun x _ => Nat.le_trans (onM_le ..) (by omega)
      have : (newsM s.steps R c).length ≤ 33 * R.length := f
      unfold behindM; omega
    · have := behind_len wT wP m hm; omega
  rintro σ H2 ⟨_, g2, Pm, vP, x3, hPr, lR, hS, hB, wP, rfl⟩
  have e : (cl x).take x.cps.toList.length = cl x := List.take_length ..
  rw [e] at hS hB
  obtain ⟨pp, zs, rfl, p1, p2⟩ := hPr
  have lz := p2.length
  have lzx : x.cps.toList.length = x.length := hxl
  refine ⟨_, rfl, pp, zs, rfl, .inl p1, _, _, rfl, rfl, _, rfl, iteDd (fun c1 => ?_) (fun c1 => ?_)⟩
  · exact hE (hB (by omega)) _ g2
  have lR1 : Pm.length ≤ 1000 := by omega
  have hpm := hS lR1
  obtain ⟨few, _⟩ := words_few hTot hpm
  refine ⟨szl (Nat.le_of_ble_eq_true rfl), fun wl hwl => ?_⟩
  have gw := same_new hwl (.lst [])
  have ew : upd H2 wl (.lst []) wl = some (.lst []) := upd_same
  generalize upd H2 wl (.lst []) = H3 at gw ew ⊢
  refine ⟨_, rfl, pp, rfl, ⟨zs, gw.seq p1⟩, ?_⟩
  refine for_list (xs := zs) (fun i σ H' => Same H3 H' ∧ i ≤ zs.length ∧ ∃ wa x5 x6, H' wa = some (.lst (((Pm.take i).flatMap (wOnM s)).map V.str)) ∧ σ = [some (.ref a), some (.str x), some (.ref pp), x3, some (.ref wa), x5, x6])
    ⟨Same.refl _, Nat.zero_le _, wl, _, _, ew, rfl⟩ (fun i σ H' _ z => z.1.seq (gw.seq p1)) ?_ ?_
  · rintro i y σ H4 hy ⟨g4, hi, wa, x5, x6, hw, rfl⟩
    obtain ⟨c, hc, b, rfl, hb⟩ := paired_get p2 hy
    have hil : i < zs.length := (List.getElem?_eq_some_iff.mp hy).1
    have g24 := gw.trans g4
    have hb4 := (Same.grow g24).seqT hb
    have gH4 := g2.trans g24
    have wc : c.2.length ≤ 50000 := by have := wP c (List.mem_of_getElem? hc); omega
    refine ⟨b, _, rfl, hb4, rfl, _, _, rfl, _, _, rfl, rfl, ?_⟩
    refine ⟨_, rfl, _, rfl, _, _, _, _, rfl, rfl, Same.seqT gH4 h1, rfl, pe, rfl, ⟨xe, gH4.seq h4⟩, ?_⟩
    refine comp_list (xs := xe) (fun j ys τ H' => H4 = H' ∧ (∃ y, τ = [y, some (.str c.2), some (.int c.1)]) ∧ j ≤ xe.length ∧ ys = (wOnE (s.ends.take j) c).map V.str) ⟨rfl, ⟨_, rfl⟩, Nat.zero_le _, rfl⟩ (fun j ys τ H' z => z.1 ▸ gH4.seq h4) ?_ ?_
    · rintro j y ys τ _ hyj ⟨rfl, ⟨y0, rfl⟩, hj, rfl⟩
      obtain ⟨m, hm, b', rfl, hb'⟩ := paired_get h7 hyj
      have hb'4 := (Same.grow gH4).seqT hb'
      have hjl : j < xe.length := (List.getElem?_eq_some_iff.mp hyj).1
      have mw := hSh.2.2 m (List.mem_of_getElem? hm)
      have lw := wOnE_le (s.ends.take j) c
      have lt := List.length_take_le j s.ends
      refine ⟨_, rfl, _, _, _, _, rfl, rfl, hb'4, rfl, _, rfl, rfl, _, rfl, iteDd (fun c2 => ?_) (fun c2 => ?_)⟩
      · refine ⟨_, rfl, _, rfl, _, _, _, _, rfl, rfl, hb'4, rfl, _, _, rfl, rfl, szl (by omega), szl' (by rw [List.length_map]; omega), rfl, ⟨_, rfl⟩, hjl, ?_⟩
        rw [wOnE_snoc hm, if_pos (by injection c2), List.map_append]; rfl
      · refine ⟨rfl, ⟨_, rfl⟩, hjl, ?_⟩
        rw [wOnE_snoc hm, if_neg (fun e => c2 (by rw [e])), List.append_nil]
    · rintro ys τ _ ⟨rfl, _, _, rfl⟩ p hp
      rw [← h7.length, List.take_length] at *
      have hw' := same_new hp (.lst ((wOnE s.ends c).map V.str)) _ _ hw
      have lw := wOnE_le s.ends c
      have f := flatLe (wOnM s) 33 (Pm.take i) fun c _ => Nat.le_trans (wOnE_le s.ends c) (by omega)
      have lt := List.length_take_le i Pm
      have f2 : ((Pm.take i).flatMap (wOnM s)).length ≤ 33 * 1000 := Nat.le_trans f (Nat.mul_le_mul_left _ (by omega))
      refine ⟨wa, p, _, _, rfl, rfl, hw', upd_same, szl (by rw [List.length_map, List.length_map]; omega), fun p2 hp2 => ?_⟩
      refine ⟨(g4.trans (same_new hp _)).trans (same_new hp2 _), hil, p2, _, _, ?_, rfl⟩
      rw [upd_same, ← List.map_append, flat_take _ hc]; rfl
  rintro σ H4 ⟨g4, _, wa, x5, x6, hw, rfl⟩
  rw [← p2.length, List.take_length] at hw
  refine ⟨_, rfl, wa, _, rfl, SqL.of hw, few, fun q1 hq1 => ⟨q1, _, rfl, upd_same, Nat.le_trans (onceS_len _) few, fun l ss hp hs hl => ?_⟩⟩
  have gA := ((g2.trans gw).trans g4).trans (same_new hq1 (SetSS w q1 (onceS (Pm.flatMap (wOnM s)))))
  exact q Pm hpm l ss _ (gA.trans (same_new hl _)) (gA.free hl) hp hs upd_same

theorem sc_law : FnScope ["_law_script", "_law_scribe_here", "_law_cell", "_law_text_here", "_law_at", "_law_due_here", "_law_handed", "_law_found", "_law_kept", "e"] ["_law_script"] (defScope s_law) := ⟨rfl, rfl, rfl, by decide +kernel, rfl, by decide +kernel, by decide +kernel⟩
theorem ok_law (B : Bi mg) {c_ScribeError c_NoWay c_NoRoom c_NotPlain c_OtherSigns c_TooMany c_TwoWays c_NeverPlain c_NoText : Addr} (XB : Xb K mg c_ScribeError c_NoWay c_NoRoom c_NotPlain c_OtherSigns c_TooMany c_TwoWays c_NeverPlain c_NoText) (C_law_scribe : Cal P w K mg base "_law_scribe" ["_law_script", "_law_at", "_law_plain"] 3 (spScribeT K)) (C_law_due : Cal P w K mg base "_law_due" ["_law_scribe_here", "_law_text_here"] 2 (spDue15 K)) (C_law_copied : Cal P w K mg base "_law_copied" ["_law_scribe_here"] 1 (spCopied K)) (C_law_cell_at : Cal P w K mg base "_law_cell_at" ["_law_script", "_law_k"] 1 (spCell K)) (C_law_text : Cal P w K mg base "_law_text" ["_law_cell", "_law_signs"] 1 (spText)) (C_law_wide : Cal P w K mg base "_law_wide" ["_law_script"] 2 (spWide K)) (C_all_written : Cal1 P w K mg base "all_written" ["scribe", "text"] 3 (spAllX K c_TooMany)) (C_law_kinds : Cal P w K mg base "_law_kinds" ["_law_kept"] 1 (spKinds K c_TooMany [false, false, false, false, true, false, false, false, true])) {f : Addr} {fd : FuncData} (F : Fun K "law" "law" s_law f fd) : FnOk P w K mg base CX0 4 f fd ["_law_script"] (spLaw K) := by
  refine F.ok sc_law (fun vs H Q E h => ?_) (fun cdv A outer s H vs Q E hr h => ?_)
  · obtain ⟨a, ns, rfl, _⟩ := h; rfl
  obtain ⟨a, ns, rfl, hS, h63, q⟩ := h
  refine ⟨_, (pss_cons (ps_set (i := 1) sc_law.nd rfl (Or.inl rfl) (pe_fn C_law_scribe hr (by decide : 3 ≤ 3) (by rfl) (pa_cons (pv 0) (pa_cons pe_int (pa_cons pe_bl pa_nil)))))
      (pss_cons (ps_set (i := 2) sc_law.nd rfl (Or.inl rfl) (pe_op op_fdiv (pe_fn C_law_cell_at hr (by decide : 1 ≤ 3) (by rfl) (pa_cons (pv 0) (pa_cons pe_int pa_nil))) pe_int))
      (pss_cons (ps_set (i := 3) sc_law.nd rfl (Or.inl rfl) (pe_slice sl_str (pe_fn C_law_text hr (by decide : 1 ≤ 3) (by rfl) (pa_cons (pv 2) (pa_cons (pe_ix (kIx (K := K) rIxT ix_tup) (pv 1) pe_int (by intro _ _; rfl)) pa_nil))) po_none (po_some pe_int)))
      (pss_mid (ps_if (pt_cmpR op_eq (pe_op op_mod (pe_fn C_law_cell_at hr (by decide : 1 ≤ 3) (by rfl) (pa_cons (pv 0) (pa_cons pe_int pa_nil))) pe_int) pe_int (nomark _)) (pss_cons (ps_set (i := 1) sc_law.nd rfl (Or.inl rfl) (pe_fn C_law_wide hr (by decide : 2 ≤ 3) (by rfl) (pa_cons (pv 0) pa_nil)))
      (pss_one (ps_set (i := 3) sc_law.nd rfl (Or.inl rfl) (pe_fn C_law_text hr (by decide : 1 ≤ 3) (by rfl) (pa_cons (pv 2) (pa_cons (pe_ix (kIx (K := K) rIxT ix_tup) (pv 1) pe_int (by intro _ _; rfl)) pa_nil)))))) pss_nil)
      (pss_mid (ps_if (pt_cmpR op_eq (pe_op op_mod (pe_op op_fdiv (pv 2) pe_int) pe_int) pe_int (nomark _)) (pss_cons (ps_set (i := 4) sc_law.nd rfl (Or.inl rfl) (pe_op op_mod (pe_op op_fdiv (pv 2) pe_int) (pe_op op_add (pe_callB call_len_str (by rfl) B.len bt_len (pa_cons (pv 3) pa_nil)) pe_int)))
      (pss_one (ps_set (i := 3) sc_law.nd rfl (Or.inl rfl) (pe_op op_add_str (pe_op op_add_str (pe_slice sl_str (pv 3) po_none (po_some (pv 4))) pe_str) (pe_slice sl_str (pv 3) (po_some (pv 4)) po_none))))) pss_nil)
      (pss_cons (ps_set (i := 5) sc_law.nd rfl (Or.inl rfl) (pe_fn C_law_due hr (by decide : 2 ≤ 3) (by rfl) (pa_cons (pv 1) (pa_cons (pv 3) pa_nil))))
      (pss_cons (ps_set (i := 6) sc_law.nd rfl (Or.inl rfl) (pe_fn C_law_copied hr (by decide : 1 ≤ 3) (by rfl) (pa_cons (pv 1) pa_nil)))
      (pss_cons (ps_set (i := 7) sc_law.nd rfl (Or.inl rfl) pe_non)
      (pss_cons (ps_set (i := 8) sc_law.nd rfl (Or.inl rfl) pe_non)
      (pss_cons (ps_try1 (iy := 7) (iz := 8) (ie := 9) rfl C_all_written hr (by decide : 3 ≤ 3) (by rfl) (pa_cons (pv 6) (pa_cons (pv 3) pa_nil)) XB.cl_ScribeError (by rfl) rfl rfl rfl sc_law.nd rfl rfl rfl (Or.inl rfl) (Or.inl rfl) rfl (by decide))
      (pss_cons (ps_if (pt_cmpR (kOp (K := K) rNeD (op_neD hr.units)) (pv 6) (pv 1) (nomark _)) (pss_one (ps_ret pe_bl)) pss_nil)
      (pss_cons (ps_if (pt_cmpR op_isN (pv 5) pe_non (nomark _)) (pss_one (ps_ret (pe_cmpR (kOp (K := K) rEqD (op_eqD hr.units)) (pe_fn C_law_kinds hr (by decide : 1 ≤ 3) (by rfl) (pa_cons (pv 8) pa_nil)) (pe_op op_cat (pe_op op_cat (pe_op op_cat (pe_op op_rep (pe_lst (pa_cons pe_bl pa_nil)) pe_int) (pe_lst (pa_cons pe_bl pa_nil))) (pe_op op_rep (pe_lst (pa_cons pe_bl pa_nil)) pe_int)) (pe_lst (pa_cons pe_bl pa_nil))) (nomark _)))) pss_nil)
      (pss_one (ps_ret (pe_and (pe_cmpR op_isN (pv 8) pe_non (nomark _)) (pe_and (pe_callB call_isinstSS (by rfl) B.isinstance bt_isinstance (pa_cons (pv 7) (pa_cons (pe_ty (by rfl) B.list bt_list) pa_nil))) (pe_one (pe_cmpR (op_eqSS hr.units) (pv 7) (pv 5) (nomark _))))))))))))))))))), ?_⟩
  refine ⟨_, rfl, a, ns, 0, false, rfl, hS, h63, by decide, by decide, fun v1 H1 s1 pb1 ps1 pe1 ⟨g1, hV1, ok1, r0, r1, sg1, sg2, sg3, sg4⟩ hTot1 => ?_⟩
  have hSh1 := short_of ok1
  have hS1 := g1.seq hS
  obtain ⟨av, xb, xs, xe, e1, t1, _⟩ := id hV1
  subst e1
  refine ⟨_, rfl, a, ns, 40, rfl, hS1, by decide, _, _, rfl, rfl, ⟨by decide, by decide⟩, ?_⟩
  generalize cellAt ns 40 = c0
  refine ⟨_, rfl, _, rfl, _, _, _, _, rfl, rfl, t1, rfl, _, s1.signs, rfl, sg1, sg2, fun y1 hy1 => ?_⟩
  have c8 := Txt.slice_le y1 none (some 8)
  refine ⟨_, rfl, y1, rfl, szl (by omega), ?_⟩
  refine ⟨fun σ' H' => ∃ v s pb ps pe, ∃ y : Str, Same H H' ∧ ScV K H' s (.ref v) pb ps pe ∧ Tame s ∧ 1 ≤ s.signs.length ∧ s.signs.length ≤ 5 ∧ y.length ≤ 12 ∧ [some (.ref a), some (.ref v), some (.int (c0 / 2)), some (.str y), none, none, none, none, none, none] = σ', ?_, ?_⟩
  · refine ⟨_, rfl, a, ns, 1, rfl, hS1, by decide, _, _, rfl, rfl, pz, rfl, _, rfl, iteDd (fun _ => ?_) (fun _ => ⟨av, s1, pb1, ps1, pe1, _, g1, hV1, ⟨hTot1, hSh1⟩, sg1, sg2, by omega, rfl⟩)⟩
    refine ⟨_, rfl, a, ns, rfl, hS1, fun v3 H3 s3 pb3 ps3 pe3 g3 hV3 ⟨w1, w2, w3, w4, w5⟩ => ?_⟩
    obtain ⟨bv, yb, ys, ye, e3, t3, _⟩ := id hV3
    subst e3
    have hl : s3.signs.length = 2 := by rw [w1]; decide +kernel
    refine ⟨_, rfl, _, rfl, _, _, _, _, rfl, rfl, t3, rfl, _, s3.signs, rfl, by omega, by omega, fun y3 hy3 => ?_⟩
    exact ⟨bv, s3, pb3, ps3, pe3, y3, g1.trans g3, hV3, ⟨by omega, w5⟩, by omega, by omega, hy3, rfl⟩
  clear hSh1 hS1 t1 hV1 ok1 r0 r1 sg1 sg2 sg3 sg4 hTot1 c8 hy1
  rintro _ H2 ⟨v, s, pb, ps, pe, y, g2, hV, hT, sg1, sg2, hy, rfl⟩
  refine ⟨fun σ' H' => H2 = H' ∧ ∃ (y : Str) (x4 : Option V), y.length ≤ 30 ∧ [some (.ref a), some (.ref v), some (.int (c0 / 2)), some (.str y), x4, none, none, none, none, none] = σ', ?_, ?_⟩
  · refine ⟨_, rfl, _, _, rfl, rfl, ⟨by decide, by decide⟩, _, _, rfl, rfl, pz, rfl, _, rfl, iteDd (fun _ => ?_) (fun _ => ⟨rfl, y, _, by omega, rfl⟩)⟩
    refine ⟨_, rfl, _, _, rfl, rfl, ⟨by decide, by decide⟩, _, rfl, y, rfl, szl (by omega), _, _, rfl, rfl, _, _, rfl, rfl, (by show (0 : Int) < (y.length : Int) + 1; omega), ?_⟩
    have c1 := Txt.slice_le y none (some (c0 / 2 / 3 % ((y.length : Int) + 1)))
    have c2 := Txt.slice_le y (some (c0 / 2 / 3 % ((y.length : Int) + 1))) none
    have ql : ("q" : Str).length = 1 := by decide +kernel
    exact ⟨_, rfl, _, rfl, _, rfl, y, rfl, szl (by omega), _, _, rfl, rfl, szl (by omega), _, rfl, _, rfl, _, rfl, y, rfl, szl (by omega), _, _, rfl, rfl, szl (by rw [len_app]; omega), rfl, _, _, by rw [len_app, len_app]; omega, rfl⟩
  clear hy y y1
  rintro _ _ ⟨rfl, y, x4, hy, rfl⟩
  have hT1 := hT.1
  have hLn : Lens s := ⟨by omega, by omega, by omega⟩
  refine ⟨_, rfl, _, rfl, _, s, pb, ps, pe, y, rfl, hV, hT, hy, fun P hP l ss H4 g4 hl hp hs hw => ?_, fun hn H4 g4 => ?_⟩
  · have hV4 := hV.mono g4
    refine ⟨_, rfl, _, s, pb, ps, pe, rfl, hV4, fun v5 H5 pb5 ps5 pe5 g5 hN5 _ => ?_⟩
    refine ⟨_, rfl, _, rfl, v5, s, pb5, ps5, pe5, y, rfl, hN5.v, hLn, hT.2, by omega, fun P' hP' l2 ss2 H6 g6 hl2 hp2 hs2 hw2 => ?_, fun hn H6 g6 => absurd (hn.symm.trans hP) (by simp)⟩
    rw [hP] at hP'; cases hP'
    have e : ss2 = ss := sort_uniq (hp2.trans hp.symm) hs2 hs
    subst e
    refine ⟨_, rfl, _, rfl, dScr s, dScr s, (hN5.v.mono g6).rep, ((hV4.mono g5).mono g6).rep, Nat.le_trans (deep_dScr s) (by decide), _, rfl, ?_⟩
    rw [eqD_refl]
    refine iteF ?_
    refine ⟨_, rfl, rfl, _, rfl, iteDd (fun c => nomatch c) (fun _ => ?_)⟩
    refine ⟨_, rfl, rfl, _, rfl, iteDT rfl ?_⟩
    refine ⟨_, rfl, l2, ss2, rfl, hw2, ?_⟩
    refine ⟨_, rfl, iteT ?_⟩
    exact ⟨_, rfl, _, rfl, l2, l, ss2, rfl, rfl, hw2, g6 _ _ (g5 _ _ hw), q _⟩
  · have hV4 := hV.mono g4
    refine ⟨_, rfl, _, s, pb, ps, pe, rfl, hV4, fun v5 H5 pb5 ps5 pe5 g5 hN5 _ => ?_⟩
    refine ⟨_, rfl, _, rfl, v5, s, pb5, ps5, pe5, y, rfl, hN5.v, hLn, hT.2, by omega, fun P' hP' l2 ss2 H6 g6 hl2 hp2 hs2 hw2 => absurd (hn.symm.trans hP') (by simp), fun _ H6 g6 => ⟨c_TooMany, rfl, XB.sub_TooMany_ScribeError, fun xc hxc => ?_⟩⟩
    have gx := same_new hxc (Exc xc c_TooMany)
    refine ⟨_, rfl, _, rfl, dScr s, dScr s, (hN5.v.mono (g6.trans gx)).rep, ((hV4.mono g5).mono (g6.trans gx)).rep, Nat.le_trans (deep_dScr s) (by decide), _, rfl, ?_⟩
    rw [eqD_refl]
    refine iteF ?_
    refine ⟨_, rfl, rfl, _, rfl, iteDd (fun _ => ?_) (fun c => absurd rfl c)⟩
    refine ⟨_, rfl, _, rfl, .inr ⟨xc, rfl, upd_same, fun pk H7 g7 hpk => ?_⟩⟩
    refine ⟨szl (Nat.le_of_ble_eq_true rfl), fun q1 hq1 => ?_⟩
    refine ⟨q1, 4, _, rfl, rfl, upd_same, by decide, by decide, szl (by decide), fun q2 hq2 => ?_⟩
    refine ⟨szl (Nat.le_of_ble_eq_true rfl), fun q3 hq3 => ?_⟩
    have k1 := same_new hq1 (.lst [V.bl false])
    have k2 := same_new hq2 (.lst (List.replicate (4 : Int).toNat [V.bl false]).flatten)
    have k3 := same_new hq3 (.lst [V.bl true])
    refine ⟨q2, q3, _, _, rfl, rfl, k3 _ _ upd_same, upd_same, szl (by decide), fun q4 hq4 => ?_⟩
    have k4 := same_new hq4 (.lst ((List.replicate (4 : Int).toNat [V.bl false]).flatten ++ [V.bl true]))
    refine ⟨szl (Nat.le_of_ble_eq_true rfl), fun q5 hq5 => ?_⟩
    have k5 := same_new hq5 (.lst [V.bl false])
    refine ⟨q5, 3, _, rfl, rfl, upd_same, by decide, by decide, szl (by decide), fun q6 hq6 => ?_⟩
    have k6 := same_new hq6 (.lst (List.replicate (3 : Int).toNat [V.bl false]).flatten)
    refine ⟨q4, q6, _, _, rfl, rfl, k6 _ _ (k5 _ _ upd_same), upd_same, szl (by decide), fun q7 hq7 => ?_⟩
    have k7 := same_new hq7 (.lst ((List.replicate (4 : Int).toNat [V.bl false]).flatten ++ [V.bl true] ++ (List.replicate (3 : Int).toNat [V.bl false]).flatten))
    refine ⟨szl (Nat.le_of_ble_eq_true rfl), fun q8 hq8 => ?_⟩
    have k8 := same_new hq8 (.lst [V.bl true])
    refine ⟨q7, q8, _, _, rfl, rfl, k8 _ _ upd_same, upd_same, szl (by decide), fun q9 hq9 => ?_⟩
    have k9 := same_new hq9 (.lst ((List.replicate (4 : Int).toNat [V.bl false]).flatten ++ [V.bl true] ++ (List.replicate (3 : Int).toNat [V.bl false]).flatten ++ [V.bl true]))
    have kk := (((((((k1.trans k2).trans k3).trans k4).trans k5).trans k6).trans k7).trans k8).trans k9
    refine ⟨.lst ([false, false, false, false, true, false, false, false, true].map D.bl), .lst ([false, false, false, false, true, false, false, false, true].map D.bl), rep_lst (SqL.of (kk _ _ hpk)) (reps_bl _), rep_lst (SqL.of upd_same) (reps_bl [false, false, false, false, true, false, false, false, true]), by decide, ?_⟩
    rw [eqD_refl]
    exact q _

end
theorem len_1 {α : Type} : ∀ {us : List α} (_ : us.length = 1), ∃ u0, us = [u0]
  | [u0], _ => ⟨u0, rfl⟩
theorem len_2 {α : Type} : ∀ {us : List α} (_ : us.length = 2), ∃ u0 u1, us = [u0, u1]
  | [u0, u1], _ => ⟨u0, u1, rfl⟩
theorem len_3 {α : Type} : ∀ {us : List α} (_ : us.length = 3), ∃ u0 u1 u2, us = [u0, u1, u2]
  | [u0, u1, u2], _ => ⟨u0, u1, u2, rfl⟩
theorem all_mk {l : PySem.W.OpenLaw} {w : World} {K : PySem.W.Frag} {h : Heap} {mg : Str → Option Value} {fa f0 f1 f2 f3 f4 f5 f6 f7 f8 f9 f10 f11 f12 f13 f14 f15 c_ScribeError c_NoWay c_NoRoom c_NotPlain c_OtherSigns c_TooMany c_TwoWays c_NeverPlain c_NoText : Addr} (X : K.In h) (G : h.Ns mainGlobals mg) (hfa : mg "law" = some (.ref fa))
    {od0 an0 od1 an1 od2 an2 od3 an3 od4 an4 od5 an5 od6 an6 od7 an7 od8 an8 od9 an9 od10 an10 od11 an11 od12 an12 od13 an13 od14 an14 od15 an15 : Option Addr} {sl0 sl1 sl2 sl3 sl4 sl5 sl6 sl7 sl8 sl9 sl10 sl11 sl12 sl13 sl14 sl15 : Array (Option Value)} {oc0 kV0 dc0 pm0 cd0 ct0 oc1 kV1 dc1 pm1 cd1 ct1 oc2 kV2 dc2 pm2 cd2 ct2 oc3 kV3 dc3 pm3 cd3 ct3 oc4 kV4 dc4 pm4 cd4 ct4 oc5 kV5 dc5 pm5 cd5 ct5 oc6 kV6 dc6 pm6 cd6 ct6 oc7 kV7 dc7 pm7 cd7 ct7 oc8 kV8 dc8 pm8 cd8 ct8 oc9 kV9 dc9 pm9 cd9 ct9 oc10 kV10 dc10 pm10 cd10 ct10 oc11 kV11 dc11 pm11 cd11 ct11 oc12 kV12 dc12 pm12 cd12 ct12 oc13 kV13 dc13 pm13 cd13 ct13 oc14 kV14 dc14 pm14 cd14 ct14 oc15 kV15 dc15 pm15 cd15 ct15 : Value}
    (a0 : PySem.W.nsIn K mainGlobals "steps_by_start" = some (some (.ref f0))) (l0 : K.lookup f0 = some ⟨oc0, od0, .func (PySem.W.fnOf "steps_by_start" "steps_by_start" (defArgs s_steps_by_start) (defBody s_steps_by_start) (defScope s_steps_by_start) .none kV0 dc0 pm0 an0 cd0 ct0), sl0⟩) (c0 : PySem.W.codeIn K cd0 "steps_by_start" = true) (k0 : PySem.W.keepIn K (.ref f0) = true)
    (a1 : PySem.W.nsIn K mainGlobals "end_words_by_room" = some (some (.ref f1))) (l1 : K.lookup f1 = some ⟨oc1, od1, .func (PySem.W.fnOf "end_words_by_room" "end_words_by_room" (defArgs s_end_words_by_room) (defBody s_end_words_by_room) (defScope s_end_words_by_room) .none kV1 dc1 pm1 an1 cd1 ct1), sl1⟩) (c1 : PySem.W.codeIn K cd1 "end_words_by_room" = true) (k1 : PySem.W.keepIn K (.ref f1) = true)
    (a2 : PySem.W.nsIn K mainGlobals "refuse_many" = some (some (.ref f2))) (l2 : K.lookup f2 = some ⟨oc2, od2, .func (PySem.W.fnOf "refuse_many" "refuse_many" (defArgs s_refuse_many) (defBody s_refuse_many) (defScope s_refuse_many) .none kV2 dc2 pm2 an2 cd2 ct2), sl2⟩) (c2 : PySem.W.codeIn K cd2 "refuse_many" = true) (k2 : PySem.W.keepIn K (.ref f2) = true)
    (a3 : PySem.W.nsIn K mainGlobals "pairs_behind" = some (some (.ref f3))) (l3 : K.lookup f3 = some ⟨oc3, od3, .func (PySem.W.fnOf "pairs_behind" "pairs_behind" (defArgs s_pairs_behind) (defBody s_pairs_behind) (defScope s_pairs_behind) .none kV3 dc3 pm3 an3 cd3 ct3), sl3⟩) (c3 : PySem.W.codeIn K cd3 "pairs_behind" = true) (k3 : PySem.W.keepIn K (.ref f3) = true)
    (a4 : PySem.W.nsIn K mainGlobals "all_written" = some (some (.ref f4))) (l4 : K.lookup f4 = some ⟨oc4, od4, .func (PySem.W.fnOf "all_written" "all_written" (defArgs s_all_written) (defBody s_all_written) (defScope s_all_written) .none kV4 dc4 pm4 an4 cd4 ct4), sl4⟩) (c4 : PySem.W.codeIn K cd4 "all_written" = true) (k4 : PySem.W.keepIn K (.ref f4) = true)
    (a5 : PySem.W.nsIn K mainGlobals "_law_cell_at" = some (some (.ref f5))) (l5 : K.lookup f5 = some ⟨oc5, od5, .func (PySem.W.fnOf "_law_cell_at" "_law_cell_at" (defArgs s_law_cell_at) (defBody s_law_cell_at) (defScope s_law_cell_at) .none kV5 dc5 pm5 an5 cd5 ct5), sl5⟩) (c5 : PySem.W.codeIn K cd5 "_law_cell_at" = true) (k5 : PySem.W.keepIn K (.ref f5) = true)
    (a6 : PySem.W.nsIn K mainGlobals "_law_digits_at" = some (some (.ref f6))) (l6 : K.lookup f6 = some ⟨oc6, od6, .func (PySem.W.fnOf "_law_digits_at" "_law_digits_at" (defArgs s_law_digits_at) (defBody s_law_digits_at) (defScope s_law_digits_at) .none kV6 dc6 pm6 an6 cd6 ct6), sl6⟩) (c6 : PySem.W.codeIn K cd6 "_law_digits_at" = true) (k6 : PySem.W.keepIn K (.ref f6) = true)
    (a7 : PySem.W.nsIn K mainGlobals "_law_word" = some (some (.ref f7))) (l7 : K.lookup f7 = some ⟨oc7, od7, .func (PySem.W.fnOf "_law_word" "_law_word" (defArgs s_law_word) (defBody s_law_word) (defScope s_law_word) .none kV7 dc7 pm7 an7 cd7 ct7), sl7⟩) (c7 : PySem.W.codeIn K cd7 "_law_word" = true) (k7 : PySem.W.keepIn K (.ref f7) = true)
    (a8 : PySem.W.nsIn K mainGlobals "_law_scribe" = some (some (.ref f8))) (l8 : K.lookup f8 = some ⟨oc8, od8, .func (PySem.W.fnOf "_law_scribe" "_law_scribe" (defArgs s_law_scribe) (defBody s_law_scribe) (defScope s_law_scribe) .none kV8 dc8 pm8 an8 cd8 ct8), sl8⟩) (c8 : PySem.W.codeIn K cd8 "_law_scribe" = true) (k8 : PySem.W.keepIn K (.ref f8) = true)
    (a9 : PySem.W.nsIn K mainGlobals "_law_text" = some (some (.ref f9))) (l9 : K.lookup f9 = some ⟨oc9, od9, .func (PySem.W.fnOf "_law_text" "_law_text" (defArgs s_law_text) (defBody s_law_text) (defScope s_law_text) .none kV9 dc9 pm9 an9 cd9 ct9), sl9⟩) (c9 : PySem.W.codeIn K cd9 "_law_text" = true) (k9 : PySem.W.keepIn K (.ref f9) = true)
    (a10 : PySem.W.nsIn K mainGlobals "_law_copied" = some (some (.ref f10))) (l10 : K.lookup f10 = some ⟨oc10, od10, .func (PySem.W.fnOf "_law_copied" "_law_copied" (defArgs s_law_copied) (defBody s_law_copied) (defScope s_law_copied) .none kV10 dc10 pm10 an10 cd10 ct10), sl10⟩) (c10 : PySem.W.codeIn K cd10 "_law_copied" = true) (k10 : PySem.W.keepIn K (.ref f10) = true)
    (a11 : PySem.W.nsIn K mainGlobals "_law_kinds" = some (some (.ref f11))) (l11 : K.lookup f11 = some ⟨oc11, od11, .func (PySem.W.fnOf "_law_kinds" "_law_kinds" (defArgs s_law_kinds) (defBody s_law_kinds) (defScope s_law_kinds) .none kV11 dc11 pm11 an11 cd11 ct11), sl11⟩) (c11 : PySem.W.codeIn K cd11 "_law_kinds" = true) (k11 : PySem.W.keepIn K (.ref f11) = true)
    (a12 : PySem.W.nsIn K mainGlobals "_law_wide" = some (some (.ref f12))) (l12 : K.lookup f12 = some ⟨oc12, od12, .func (PySem.W.fnOf "_law_wide" "_law_wide" (defArgs s_law_wide) (defBody s_law_wide) (defScope s_law_wide) .none kV12 dc12 pm12 an12 cd12 ct12), sl12⟩) (c12 : PySem.W.codeIn K cd12 "_law_wide" = true) (k12 : PySem.W.keepIn K (.ref f12) = true)
    (a13 : PySem.W.nsIn K mainGlobals "_law_next" = some (some (.ref f13))) (l13 : K.lookup f13 = some ⟨oc13, od13, .func (PySem.W.fnOf "_law_next" "_law_next" (defArgs s_law_next) (defBody s_law_next) (defScope s_law_next) .none kV13 dc13 pm13 an13 cd13 ct13), sl13⟩) (c13 : PySem.W.codeIn K cd13 "_law_next" = true) (k13 : PySem.W.keepIn K (.ref f13) = true)
    (a14 : PySem.W.nsIn K mainGlobals "_law_due" = some (some (.ref f14))) (l14 : K.lookup f14 = some ⟨oc14, od14, .func (PySem.W.fnOf "_law_due" "_law_due" (defArgs s_law_due) (defBody s_law_due) (defScope s_law_due) .none kV14 dc14 pm14 an14 cd14 ct14), sl14⟩) (c14 : PySem.W.codeIn K cd14 "_law_due" = true) (k14 : PySem.W.keepIn K (.ref f14) = true)
    (a15 : PySem.W.nsIn K mainGlobals "law" = some (some (.ref f15))) (l15 : K.lookup f15 = some ⟨oc15, od15, .func (PySem.W.fnOf "law" "law" (defArgs s_law) (defBody s_law) (defScope s_law) .none kV15 dc15 pm15 an15 cd15 ct15), sl15⟩) (c15 : PySem.W.codeIn K cd15 "law" = true) (k15 : PySem.W.keepIn K (.ref f15) = true)
    (z0 : PySem.W.nsIn K mainGlobals "ValueError" = some none)
    (z1 : PySem.W.nsIn K mainGlobals "int" = some none)
    (z2 : PySem.W.nsIn K mainGlobals "isinstance" = some none)
    (z3 : PySem.W.nsIn K mainGlobals "len" = some none)
    (z4 : PySem.W.nsIn K mainGlobals "list" = some none)
    (z5 : PySem.W.nsIn K mainGlobals "max" = some none)
    (z6 : PySem.W.nsIn K mainGlobals "min" = some none)
    (z7 : PySem.W.nsIn K mainGlobals "range" = some none)
    (z8 : PySem.W.nsIn K mainGlobals "set" = some none)
    (z9 : PySem.W.nsIn K mainGlobals "sorted" = some none)
    {gt0 : Tok} (g0 : PySem.W.nsIn K mainGlobals "BEGINS" = some (some (.int 2 gt0)))
    {gt1 : Tok} (g1 : PySem.W.nsIn K mainGlobals "ENDS" = some (some (.int 4 gt1)))
    {gt2 : Tok} (g2 : PySem.W.nsIn K mainGlobals "MOST_PAIRS" = some (some (.int 1000 gt2)))
    {gt3 : Tok} (g3 : PySem.W.nsIn K mainGlobals "STEPS" = some (some (.int 3 gt3)))
    (x0 : PySem.W.nsIn K mainGlobals "ScribeError" = some (some (.ref c_ScribeError)))
    (x1 : PySem.W.nsIn K mainGlobals "NoWay" = some (some (.ref c_NoWay)))
    (x2 : PySem.W.nsIn K mainGlobals "NoRoom" = some (some (.ref c_NoRoom)))
    (x3 : PySem.W.nsIn K mainGlobals "NotPlain" = some (some (.ref c_NotPlain)))
    (x4 : PySem.W.nsIn K mainGlobals "OtherSigns" = some (some (.ref c_OtherSigns)))
    (x5 : PySem.W.nsIn K mainGlobals "TooMany" = some (some (.ref c_TooMany)))
    (x6 : PySem.W.nsIn K mainGlobals "TwoWays" = some (some (.ref c_TwoWays)))
    (x7 : PySem.W.nsIn K mainGlobals "NeverPlain" = some (some (.ref c_NeverPlain)))
    (x8 : PySem.W.nsIn K mainGlobals "NoText" = some (some (.ref c_NoText)))
    (x9 : PySem.W.excIn K c_TooMany bmV "ValueError.__new__" = true)
    (x10 : PySem.W.findIn K (.ref c_TooMany) "__getattribute__" = some (some (.builtin "BaseException.__getattribute__")))
    (x11 : PySem.W.findIn K (.ref c_TooMany) "__getattr__" = some none)
    (x12 : PySem.W.mroIn K c_TooMany (.type "BaseException") = some true)
    (x13 : (PySem.W.clsIn K c_TooMany).isSome = true)
    (x14 : PySem.W.findIn K (.ref c_TooMany) "__class__" = some (some (.builtin "object.__class__")))
    (x15 : PySem.W.specialIn K (.builtin "object.__class__") "__get__" = some (some (.builtin "getset_descriptor.__get__")))
    (x16 : PySem.W.takesIn K (.builtin "object.__class__") = some true)
    (x17 : PySem.W.mroIn K c_TooMany (.type "object") = some true)
    (x18 : PySem.W.typeIn K (.ref c_ScribeError) = some (.type "type"))
    (x19 : (PySem.W.clsIn K c_ScribeError).isSome = true)
    (x20 : PySem.W.mroIn K c_ScribeError (.type "BaseException") = some true)
    (x21 : PySem.W.mroIn K c_TooMany (.ref c_ScribeError) = some true)
    (x22 : PySem.W.kitOne K (.ref c_TooMany) (.ref c_NoText) = some false)
    (x23 : PySem.W.kitOne K (.ref c_TooMany) (.ref c_NeverPlain) = some false)
    (x24 : PySem.W.kitOne K (.ref c_TooMany) (.ref c_TwoWays) = some false)
    (x25 : PySem.W.kitOne K (.ref c_TooMany) (.ref c_TooMany) = some true)
    (x26 : PySem.W.kitOne K (.ref c_TooMany) (.ref c_OtherSigns) = some false)
    (x27 : PySem.W.kitOne K (.ref c_TooMany) (.ref c_NotPlain) = some false)
    (x28 : PySem.W.kitOne K (.ref c_TooMany) (.ref c_NoRoom) = some false)
    (x29 : PySem.W.kitOne K (.ref c_TooMany) (.ref c_NoWay) = some false)
    (x30 : PySem.W.kitOne K (.ref c_TooMany) (.type "ValueError") = some true) :
    ∃ fd : FuncData, (∀ (s : Shared) (v : Value), BindsTo s fd ⟨[v], []⟩ [("_law_script", v)]) ∧ ∀ base : Heap, K.In base → base.Ns mainGlobals mg → FnOk l.prog w K mg base CX0 4 fa fd ["_law_script"] (spLaw K) := by
  have e := hfa.symm.trans (PySem.W.mg_of X G a15)
  cases e
  have B : Bi mg := ⟨PySem.W.mg_none_of X G z0, PySem.W.mg_none_of X G z1, PySem.W.mg_none_of X G z2, PySem.W.mg_none_of X G z3, PySem.W.mg_none_of X G z4, PySem.W.mg_none_of X G z5, PySem.W.mg_none_of X G z6, PySem.W.mg_none_of X G z7, PySem.W.mg_none_of X G z8, PySem.W.mg_none_of X G z9, ⟨_, PySem.W.mg_of X G g0⟩, ⟨_, PySem.W.mg_of X G g1⟩, ⟨_, PySem.W.mg_of X G g2⟩, ⟨_, PySem.W.mg_of X G g3⟩⟩
  have nm_ScribeError := PySem.W.mg_of X G x0
  have nm_NoWay := PySem.W.mg_of X G x1
  have nm_NoRoom := PySem.W.mg_of X G x2
  have nm_NotPlain := PySem.W.mg_of X G x3
  have nm_OtherSigns := PySem.W.mg_of X G x4
  have nm_TooMany := PySem.W.mg_of X G x5
  have nm_TwoWays := PySem.W.mg_of X G x6
  have nm_NeverPlain := PySem.W.mg_of X G x7
  have nm_NoText := PySem.W.mg_of X G x8
  have own_TooMany : OwnX K mg "TooMany" c_TooMany := ⟨nm_TooMany, x9⟩
  have xc_TooMany : XCls K c_TooMany := ⟨x10, x11, x12, x13, x14, x15, x16, x17⟩
  have cl_ScribeError : Clause K mg "ScribeError" c_ScribeError := ⟨nm_ScribeError, x18, x19, x20⟩
  have sub_TooMany_ScribeError := x21
  have is_TooMany_NoText := x22
  have is_TooMany_NeverPlain := x23
  have is_TooMany_TwoWays := x24
  have is_TooMany_TooMany := x25
  have is_TooMany_OtherSigns := x26
  have is_TooMany_NotPlain := x27
  have is_TooMany_NoRoom := x28
  have is_TooMany_NoWay := x29
  have iv_TooMany_ValueError := x30
  have XB : Xb K mg c_ScribeError c_NoWay c_NoRoom c_NotPlain c_OtherSigns c_TooMany c_TwoWays c_NeverPlain c_NoText := ⟨nm_ScribeError, nm_NoWay, nm_NoRoom, nm_NotPlain, nm_OtherSigns, nm_TooMany, nm_TwoWays, nm_NeverPlain, nm_NoText, own_TooMany, xc_TooMany, cl_ScribeError, sub_TooMany_ScribeError, is_TooMany_NoText, is_TooMany_NeverPlain, is_TooMany_TwoWays, is_TooMany_TooMany, is_TooMany_OtherSigns, is_TooMany_NotPlain, is_TooMany_NoRoom, is_TooMany_NoWay, iv_TooMany_ValueError⟩
  have F0 := fun_mk (st := s_steps_by_start) l0 c0 k0
  have F1 := fun_mk (st := s_end_words_by_room) l1 c1 k1
  have F2 := fun_mk (st := s_refuse_many) l2 c2 k2
  have F3 := fun_mk (st := s_pairs_behind) l3 c3 k3
  have F4 := fun_mk (st := s_all_written) l4 c4 k4
  have F5 := fun_mk (st := s_law_cell_at) l5 c5 k5
  have F6 := fun_mk (st := s_law_digits_at) l6 c6 k6
  have F7 := fun_mk (st := s_law_word) l7 c7 k7
  have F8 := fun_mk (st := s_law_scribe) l8 c8 k8
  have F9 := fun_mk (st := s_law_text) l9 c9 k9
  have F10 := fun_mk (st := s_law_copied) l10 c10 k10
  have F11 := fun_mk (st := s_law_kinds) l11 c11 k11
  have F12 := fun_mk (st := s_law_wide) l12 c12 k12
  have F13 := fun_mk (st := s_law_next) l13 c13 k13
  have F14 := fun_mk (st := s_law_due) l14 c14 k14
  have F15 := fun_mk (st := s_law) l15 c15 k15
  refine ⟨PySem.W.fnOf "law" "law" (defArgs s_law) (defBody s_law) (defScope s_law) .none kV15 dc15 pm15 an15 cd15 ct15, fun s v => .of_eq rfl, fun base _ _ => ?_⟩
  have C_steps_by_start : Cal l.prog w K mg base "steps_by_start" ["scribe"] 1 (spSteps K) := ⟨_, _, ok_steps_by_start (P := l.prog) (w := w) (base := base) B XB  F0, F0.binds (ps := ["scribe"]) (fun _ _ _ _ _ _ us hl => by obtain ⟨u0, rfl⟩ := len_1 hl; rfl), F0.kp, PySem.W.mg_of X G a0⟩
  have C_end_words_by_room : Cal l.prog w K mg base "end_words_by_room" ["scribe"] 1 (spEnds K) := ⟨_, _, ok_end_words_by_room (P := l.prog) (w := w) (base := base) B XB  F1, F1.binds (ps := ["scribe"]) (fun _ _ _ _ _ _ us hl => by obtain ⟨u0, rfl⟩ := len_1 hl; rfl), F1.kp, PySem.W.mg_of X G a1⟩
  have C_refuse_many : Cal1 l.prog w K mg base "refuse_many" ["pairs"] 1 (spRefuse K c_TooMany) := ⟨_, _, ok_refuse_many (P := l.prog) (w := w) (base := base) B XB  F2, F2.binds (ps := ["pairs"]) (fun _ _ _ _ _ _ us hl => by obtain ⟨u0, rfl⟩ := len_1 hl; rfl), F2.kp, PySem.W.mg_of X G a2⟩
  have C_pairs_behind : Cal1 l.prog w K mg base "pairs_behind" ["pairs", "sign", "steps"] 2 (spPairs K c_TooMany) := ⟨_, _, ok_pairs_behind (P := l.prog) (w := w) (base := base) B XB C_refuse_many F3, F3.binds (ps := ["pairs", "sign", "steps"]) (fun _ _ _ _ _ _ us hl => by obtain ⟨u0, u1, u2, rfl⟩ := len_3 hl; rfl), F3.kp, PySem.W.mg_of X G a3⟩
  have C_all_written : Cal1 l.prog w K mg base "all_written" ["scribe", "text"] 3 (spAllX K c_TooMany) := ⟨_, _, ok_all_written (P := l.prog) (w := w) (base := base) B XB C_refuse_many C_steps_by_start C_end_words_by_room C_pairs_behind F4, F4.binds (ps := ["scribe", "text"]) (fun _ _ _ _ _ _ us hl => by obtain ⟨u0, u1, rfl⟩ := len_2 hl; rfl), F4.kp, PySem.W.mg_of X G a4⟩
  have C_law_cell_at : Cal l.prog w K mg base "_law_cell_at" ["_law_script", "_law_k"] 1 (spCell K) := ⟨_, _, ok_law_cell_at (P := l.prog) (w := w) (base := base) B XB  F5, F5.binds (ps := ["_law_script", "_law_k"]) (fun _ _ _ _ _ _ us hl => by obtain ⟨u0, u1, rfl⟩ := len_2 hl; rfl), F5.kp, PySem.W.mg_of X G a5⟩
  have C_law_digits_at : Cal l.prog w K mg base "_law_digits_at" ["_law_script", "_law_k"] 2 (spDigits K) := ⟨_, _, ok_law_digits_at (P := l.prog) (w := w) (base := base) B XB C_law_cell_at F6, F6.binds (ps := ["_law_script", "_law_k"]) (fun _ _ _ _ _ _ us hl => by obtain ⟨u0, u1, rfl⟩ := len_2 hl; rfl), F6.kp, PySem.W.mg_of X G a6⟩
  have C_law_word : Cal l.prog w K mg base "_law_word" ["_law_cell"] 1 (spWord) := ⟨_, _, ok_law_word (P := l.prog) (w := w) (base := base) B XB  F7, F7.binds (ps := ["_law_cell"]) (fun _ _ _ _ _ _ us hl => by obtain ⟨u0, rfl⟩ := len_1 hl; rfl), F7.kp, PySem.W.mg_of X G a7⟩
  have C_law_scribe : Cal l.prog w K mg base "_law_scribe" ["_law_script", "_law_at", "_law_plain"] 3 (spScribeT K) := ⟨_, _, ok_law_scribe (P := l.prog) (w := w) (base := base) B XB C_law_cell_at C_law_digits_at C_law_word F8, F8.binds (ps := ["_law_script", "_law_at", "_law_plain"]) (fun _ _ _ _ _ _ us hl => by obtain ⟨u0, u1, u2, rfl⟩ := len_3 hl; rfl), F8.kp, PySem.W.mg_of X G a8⟩
  have C_law_text : Cal l.prog w K mg base "_law_text" ["_law_cell", "_law_signs"] 1 (spText) := ⟨_, _, ok_law_text (P := l.prog) (w := w) (base := base) B XB  F9, F9.binds (ps := ["_law_cell", "_law_signs"]) (fun _ _ _ _ _ _ us hl => by obtain ⟨u0, u1, rfl⟩ := len_2 hl; rfl), F9.kp, PySem.W.mg_of X G a9⟩
  have C_law_copied : Cal l.prog w K mg base "_law_copied" ["_law_scribe_here"] 1 (spCopied K) := ⟨_, _, ok_law_copied (P := l.prog) (w := w) (base := base) B XB  F10, F10.binds (ps := ["_law_scribe_here"]) (fun _ _ _ _ _ _ us hl => by obtain ⟨u0, rfl⟩ := len_1 hl; rfl), F10.kp, PySem.W.mg_of X G a10⟩
  have C_law_kinds : Cal l.prog w K mg base "_law_kinds" ["_law_kept"] 1 (spKinds K c_TooMany [false, false, false, false, true, false, false, false, true]) := ⟨_, _, ok_law_kinds (P := l.prog) (w := w) (base := base) B XB  F11, F11.binds (ps := ["_law_kept"]) (fun _ _ _ _ _ _ us hl => by obtain ⟨u0, rfl⟩ := len_1 hl; rfl), F11.kp, PySem.W.mg_of X G a11⟩
  have C_law_wide : Cal l.prog w K mg base "_law_wide" ["_law_script"] 2 (spWide K) := ⟨_, _, ok_law_wide (P := l.prog) (w := w) (base := base) B XB C_law_cell_at F12, F12.binds (ps := ["_law_script"]) (fun _ _ _ _ _ _ us hl => by obtain ⟨u0, rfl⟩ := len_1 hl; rfl), F12.kp, PySem.W.mg_of X G a12⟩
  have C_law_next : Cal l.prog w K mg base "_law_next" ["_law_steps", "_law_pairs", "_law_sign"] 1 (spNext K) := ⟨_, _, ok_law_next (P := l.prog) (w := w) (base := base) B XB  F13, F13.binds (ps := ["_law_steps", "_law_pairs", "_law_sign"]) (fun _ _ _ _ _ _ us hl => by obtain ⟨u0, u1, u2, rfl⟩ := len_3 hl; rfl), F13.kp, PySem.W.mg_of X G a13⟩
  have C_law_due : Cal l.prog w K mg base "_law_due" ["_law_scribe_here", "_law_text_here"] 2 (spDue15 K) := ⟨_, _, ok_law_due (P := l.prog) (w := w) (base := base) B XB C_law_next F14, F14.binds (ps := ["_law_scribe_here", "_law_text_here"]) (fun _ _ _ _ _ _ us hl => by obtain ⟨u0, u1, rfl⟩ := len_2 hl; rfl), F14.kp, PySem.W.mg_of X G a14⟩
  exact ok_law (P := l.prog) (w := w) (base := base) B XB C_law_scribe C_law_due C_law_copied C_law_cell_at C_law_text C_law_wide C_all_written C_law_kinds F15
theorem walk {l : PySem.W.OpenLaw} {q : Program} {loose : List Str} {XP : (Str → Option Value) → Heap → Prop} {YP : World → Heap → Prop} {d : DefRec} {K : Params → PySem.W.Frag} (hn : l.most = some 63) (hdf : d.params.defaults = [])
    (hY : ∀ (w : World) (h : Heap), YP w h → (K w.params).In h)
    (F : ∀ (w : World) (mg : Str → Option Value) (fa : Addr) (h : Heap), (K w.params).In h → h.Ns mainGlobals mg → mg d.name = some (.ref fa) →
      ∃ fd : FuncData, (∀ (s : Shared) (u : Value), BindsTo s fd ⟨[u], []⟩ [("_law_script", u)]) ∧ ∀ base : Heap, (K w.params).In base → base.Ns mainGlobals mg → FnOk l.prog w (K w.params) mg base CX0 4 fa fd ["_law_script"] (spLaw (K w.params))) :
    L2.WalkT q loose XP YP l.row.toRowW d [] :=
  L2.walk_of (n := 63) (k := 4) (x := "_law_script") (CX := fun _ => CX0) (sp := fun w => spLaw (K w.params)) hn (by decide) hdf ⟨rfl, by decide, by decide⟩ hY F (fun _ _ a ns hl _ hS => ⟨a, ns, rfl, hS, hl, fun _ => rfl⟩) fun _ _ _ _ _ z => z
end My
open PySem PySem.W PyProof.Rows
set_option maxRecDepth 100000 in
set_option maxHeartbeats 0 in
theorem PySem.Challenge.cw_earlyscribe_k15_all_written_holds : PySem.Challenge.rw_earlyscribe_k15_all_written.Holds := by
  w_on; o_law
  refine L2.holds_tk (q := My.q) (loose := []) (XP := XL My.q []) (YP := InK My.K) (N := 5190) My.hl (fun w s h => of_decide_eq_true (congrArg Prod.fst h)) (fun w s h => (InK.of (as := My.as) fun _ => rfl) w s (congrArg Prod.snd h)) InK.keeps
    (fun s z => xl_of s (Bool.and_eq_true_iff.mp z).1) XL.keeps (by rfl) (by rfl) (by rfl)
    (fun s z => recFacts_of (Bool.and_eq_true_iff.mp z).2) rfl (by assumption) (by decide +kernel)
    ⟨rfl, rfl, rfl, rfl, rfl, by decide +kernel⟩ ?hw ?hc
  (case hw => w_witness2)
  k_fill
  refine My.walk (l := PySem.Challenge.rw_earlyscribe_k15_all_written) rfl rfl (fun w h Y => Y) ?F
  case F =>
    intro w mg fa h KX G hmg
    refine' My.all_mk KX G hmg ?a0 ?l0 ?c0 ?k0 ?a1 ?l1 ?c1 ?k1 ?a2 ?l2 ?c2 ?k2 ?a3 ?l3 ?c3 ?k3 ?a4 ?l4 ?c4 ?k4 ?a5 ?l5 ?c5 ?k5 ?a6 ?l6 ?c6 ?k6 ?a7 ?l7 ?c7 ?k7 ?a8 ?l8 ?c8 ?k8 ?a9 ?l9 ?c9 ?k9 ?a10 ?l10 ?c10 ?k10 ?a11 ?l11 ?c11 ?k11 ?a12 ?l12 ?c12 ?k12 ?a13 ?l13 ?c13 ?k13 ?a14 ?l14 ?c14 ?k14 ?a15 ?l15 ?c15 ?k15 ?z0 ?z1 ?z2 ?z3 ?z4 ?z5 ?z6 ?z7 ?z8 ?z9 ?gc0 ?gc1 ?gc2 ?gc3 ?xq0 ?xq1 ?xq2 ?xq3 ?xq4 ?xq5 ?xq6 ?xq7 ?xq8 ?xq9 ?xq10 ?xq11 ?xq12 ?xq13 ?xq14 ?xq15 ?xq16 ?xq17 ?xq18 ?xq19 ?xq20 ?xq21 ?xq22 ?xq23 ?xq24 ?xq25 ?xq26 ?xq27 ?xq28 ?xq29 ?xq30
    (case a0 => k_is); (case l0 => k_is); (case c0 => k_is); (case k0 => k_is)
    (case a1 => k_is); (case l1 => k_is); (case c1 => k_is); (case k1 => k_is)
    (case a2 => k_is); (case l2 => k_is); (case c2 => k_is); (case k2 => k_is)
    (case a3 => k_is); (case l3 => k_is); (case c3 => k_is); (case k3 => k_is)
    (case a4 => k_is); (case l4 => k_is); (case c4 => k_is); (case k4 => k_is)
    (case a5 => k_is); (case l5 => k_is); (case c5 => k_is); (case k5 => k_is)
    (case a6 => k_is); (case l6 => k_is); (case c6 => k_is); (case k6 => k_is)
    (case a7 => k_is); (case l7 => k_is); (case c7 => k_is); (case k7 => k_is)
    (case a8 => k_is); (case l8 => k_is); (case c8 => k_is); (case k8 => k_is)
    (case a9 => k_is); (case l9 => k_is); (case c9 => k_is); (case k9 => k_is)
    (case a10 => k_is); (case l10 => k_is); (case c10 => k_is); (case k10 => k_is)
    (case a11 => k_is); (case l11 => k_is); (case c11 => k_is); (case k11 => k_is)
    (case a12 => k_is); (case l12 => k_is); (case c12 => k_is); (case k12 => k_is)
    (case a13 => k_is); (case l13 => k_is); (case c13 => k_is); (case k13 => k_is)
    (case a14 => k_is); (case l14 => k_is); (case c14 => k_is); (case k14 => k_is)
    (case a15 => k_is); (case l15 => k_is); (case c15 => k_is); (case k15 => k_is)
    (case z0 => k_is)
    (case z1 => k_is)
    (case z2 => k_is)
    (case z3 => k_is)
    (case z4 => k_is)
    (case z5 => k_is)
    (case z6 => k_is)
    (case z7 => k_is)
    (case z8 => k_is)
    (case z9 => k_is)
    (case gc0 => k_is)
    (case gc1 => k_is)
    (case gc2 => k_is)
    (case gc3 => k_is)
    (case xq0 => first | k_is | rfl | kernel_rfl)
    (case xq1 => first | k_is | rfl | kernel_rfl)
    (case xq2 => first | k_is | rfl | kernel_rfl)
    (case xq3 => first | k_is | rfl | kernel_rfl)
    (case xq4 => first | k_is | rfl | kernel_rfl)
    (case xq5 => first | k_is | rfl | kernel_rfl)
    (case xq6 => first | k_is | rfl | kernel_rfl)
    (case xq7 => first | k_is | rfl | kernel_rfl)
    (case xq8 => first | k_is | rfl | kernel_rfl)
    (case xq9 => first | k_is | rfl | kernel_rfl)
    (case xq10 => first | k_is | rfl | kernel_rfl)
    (case xq11 => first | k_is | rfl | kernel_rfl)
    (case xq12 => first | k_is | rfl | kernel_rfl)
    (case xq13 => first | k_is | rfl | kernel_rfl)
    (case xq14 => first | k_is | rfl | kernel_rfl)
    (case xq15 => first | k_is | rfl | kernel_rfl)
    (case xq16 => first | k_is | rfl | kernel_rfl)
    (case xq17 => first | k_is | rfl | kernel_rfl)
    (case xq18 => first | k_is | rfl | kernel_rfl)
    (case xq19 => first | k_is | rfl | kernel_rfl)
    (case xq20 => first | k_is | rfl | kernel_rfl)
    (case xq21 => first | k_is | rfl | kernel_rfl)
    (case xq22 => first | k_is | rfl | kernel_rfl)
    (case xq23 => first | k_is | rfl | kernel_rfl)
    (case xq24 => first | k_is | rfl | kernel_rfl)
    (case xq25 => first | k_is | rfl | kernel_rfl)
    (case xq26 => first | k_is | rfl | kernel_rfl)
    (case xq27 => first | k_is | rfl | kernel_rfl)
    (case xq28 => first | k_is | rfl | kernel_rfl)
    (case xq29 => first | k_is | rfl | kernel_rfl)
    (case xq30 => first | k_is | rfl | kernel_rfl)
