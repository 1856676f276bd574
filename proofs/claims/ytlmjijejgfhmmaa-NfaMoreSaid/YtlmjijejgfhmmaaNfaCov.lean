/-
  What a step's loops do, plain.
-/
import Derived.Test.YtlmjijejgfhmmaaNfaOf
import Derived.LoopTactic
namespace Go.Proofs.Ytlmjijejgfhmmaa
open Go.RowKit
set_option linter.unusedVariables false

/-- A table that a pattern has. -/
structure AuWf (A : Au) : Prop where
  small : Sm A.T
  first : ∀ q ∈ A.first, q < A.T.sets.length
  ends : ∀ p ∈ A.T.leads, p.1 < A.T.groups.length ∧ p.2 < A.T.groups.length
  leads : ∀ p ∈ A.T.leads, ∀ x ∈ A.T.grp p.1, ∀ y ∈ A.T.grp p.2, y < A.T.sets.length
theorem auOf_wf {r : Re} (hs : Sm (addF r tb0).2) : AuWf (auOf r) := by
  have ok := auOf_ok r
  have h := add_grown r tb0
  obtain ⟨ls, e1, _, e2, _⟩ := h.up.leads
  have e3 : (auOf r).T.sets.length = sz r := by rw [ok.sets, ones_len]
  refine ⟨hs, fun q hq => ?_, fun p hp => ?_, fun p hp x hx y hy => ?_⟩
  · rw [ok.first] at hq
    have := fst_in r 0 q hq
    omega
  · have : (auOf r).T.leads = ls := by simpa [auOf, tb0] using e1
    rw [this] at hp
    exact e2 p hp
  · have := fol_in r 0 x y ((ok.fol x y).1 ⟨p, hp, hx, hy⟩)
    omega
/-- The place q is led to by a pair that has come. -/
def Cov (A : Au) (at_ : List Bool) (left : Lit → Bool) (q : Nat) : Prop := ∃ p ∈ A.T.leads, left (klf p) = false ∧ anyB at_ (A.T.grp p.1) = true ∧ q ∈ A.T.grp p.2
/-- The marks, on the way. -/
def Marks (A : Au) (at_ : List Bool) (b : Bool) (left : Lit → Bool) (xs : List Bool) : Prop :=
  xs.length = A.T.sets.length ∧ ∀ q, xs.getD q false = true ↔ (b = true ∧ q ∈ A.first) ∨ Cov A at_ left q
theorem klf_lit (p : Nat × Nat) : WideAt.IsKeyLit (klf p) := trivial
theorem AuWf.num {A : Au} (wf : AuWf A) {p : Nat × Nat} (hp : p ∈ A.T.leads) : p.1 ≤ 9223372036854775807 ∧ p.2 ≤ 9223372036854775807 := by
  have := wf.ends p hp
  have := wf.small.groups
  omega
theorem marks_start {A : Au} {at_ : List Bool} {b : Bool} {left : Lit → Bool} {xs : List Bool} (hl : xs.length = A.T.sets.length) (hx : ∀ q, xs.getD q false = true ↔ (b = true ∧ q ∈ A.first)) (h : ∀ p ∈ A.T.leads, left (klf p) = true) : Marks A at_ b left xs :=
  ⟨hl, fun q => by
    rw [hx]
    constructor
    · exact .inl
    · rintro (h1 | ⟨p, hp, h1, _⟩)
      · exact h1
      · rw [h p hp] at h1; cases h1⟩
theorem cov_step {A : Au} (wf : AuWf A) {at_ : List Bool} {left : Lit → Bool} {p : Nat × Nat} (hp : p ∈ A.T.leads) (q : Nat) :
    Cov A at_ (fun z => left z && !z.sameKey (klf p)) q ↔ Cov A at_ left q ∨ (anyB at_ (A.T.grp p.1) = true ∧ q ∈ A.T.grp p.2) := by
  constructor
  · rintro ⟨p', hp', h1, h2, h3⟩
    simp only [Bool.and_eq_false_iff, Bool.not_eq_false'] at h1
    rcases h1 with h1 | h1
    · exact .inl ⟨p', hp', h1, h2, h3⟩
    · have e := klf_inj (wf.num hp') (wf.num hp) (WideAt.sameKey_eq h1)
      subst e
      exact .inr ⟨h2, h3⟩
  · rintro (⟨p', hp', h1, h2, h3⟩ | ⟨h2, h3⟩)
    · exact ⟨p', hp', by simp [h1], h2, h3⟩
    · exact ⟨p, hp, by simp [WideAt.sameKey_self (klf_lit p)], h2, h3⟩
/-- A pair has come that leads nowhere. -/
theorem marks_skip {A : Au} (wf : AuWf A) {at_ : List Bool} {b : Bool} {left : Lit → Bool} {xs : List Bool} {p : Nat × Nat} (hp : p ∈ A.T.leads) (h : Marks A at_ b left xs) (hn : anyB at_ (A.T.grp p.1) = false) : Marks A at_ b (fun z => left z && !z.sameKey (klf p)) xs :=
  ⟨h.1, fun q => by
    rw [h.2, cov_step wf hp, hn]
    simp⟩
/-- A pair has come, and what it leads to has been marked. -/
theorem marks_mark {A : Au} (wf : AuWf A) {at_ : List Bool} {b : Bool} {left : Lit → Bool} {xs : List Bool} {p : Nat × Nat} (hp : p ∈ A.T.leads) (h : Marks A at_ b left xs) (hn : anyB at_ (A.T.grp p.1) = true) : Marks A at_ b (fun z => left z && !z.sameKey (klf p)) (markB xs (A.T.grp p.2)) :=
  ⟨by rw [mark_len]; exact h.1, fun q => by
    obtain ⟨x, hx, _⟩ := (any_iff _ _).1 hn
    rw [mark_get _ _ _ (fun y hy => by rw [h.1]; exact wf.leads p hp x hx y hy), Bool.or_eq_true, h.2, cov_step wf hp, hn, List.contains_iff_mem, or_assoc]
    simp⟩
theorem marks_end {A : Au} {at_ : List Bool} {b : Bool} {left : Lit → Bool} {xs : List Bool} (h : Marks A at_ b left xs) (hl : ∀ z, left z = false) (q : Nat) : xs.getD q false = toB A at_ b q := by
  rw [Bool.eq_iff_iff, h.2]
  unfold toB Cov
  rw [Bool.or_eq_true, Bool.and_eq_true, List.contains_iff_mem, List.any_eq_true]
  constructor
  · rintro (h1 | ⟨p, hp, _, h2, h3⟩)
    · exact .inl h1
    · exact .inr ⟨p, hp, by rw [Bool.and_eq_true, List.contains_iff_mem]; exact ⟨h2, h3⟩⟩
  · rintro (h1 | ⟨p, hp, h2⟩)
    · exact .inl h1
    · rw [Bool.and_eq_true, List.contains_iff_mem] at h2
      exact .inr ⟨p, hp, hl _, h2.1, h2.2⟩
/-- .. of which those at which the byte is have stayed, so far. -/
def Done (A : Au) (at_ : List Bool) (b : Bool) (c : UInt8) (j : Nat) (xs : List Bool) : Prop :=
  xs.length = A.T.sets.length ∧ ∀ q, xs.getD q false = if q < j then (toB A at_ b q && hasS (A.T.sets.getD q st0) c.toNat) else toB A at_ b q
theorem done_end {A : Au} {at_ : List Bool} {b : Bool} {c : UInt8} {xs : List Bool} (h : Done A at_ b c A.T.sets.length xs) : xs = stepB A at_ c b := by
  apply List.ext_getElem?
  intro q
  rcases Nat.lt_or_ge q A.T.sets.length with hq | hq
  · have h1 := h.2 q
    have h2 := step_get A at_ c b q
    rw [if_pos hq] at h1
    simp only [hq, decide_true, Bool.true_and] at h2
    have l1 : q < xs.length := by rw [h.1]; exact hq
    have l2 : q < (stepB A at_ c b).length := by rw [step_len]; exact hq
    rw [List.getD, List.getElem?_eq_getElem l1] at h1
    rw [List.getD, List.getElem?_eq_getElem l2] at h2
    rw [List.getElem?_eq_getElem l1, List.getElem?_eq_getElem l2]
    simp only [Option.getD_some] at h1 h2
    rw [h1, h2]
  · rw [List.getElem?_eq_none (by rw [h.1]; exact hq), List.getElem?_eq_none (by rw [step_len]; exact hq)]
theorem done_next {A : Au} {at_ : List Bool} {b : Bool} {c : UInt8} {j : Nat} {xs : List Bool} (h : Done A at_ b c j xs) (hj : j < A.T.sets.length) {v : Bool} (hv : v = (xs.getD j false && hasS (A.T.sets.getD j st0) c.toNat)) : Done A at_ b c (j + 1) (xs.set j v) := by
  refine ⟨by rw [List.length_set]; exact h.1, fun q => ?_⟩
  have hl : j < xs.length := by rw [h.1]; exact hj
  by_cases e : j = q
  · subst e
    have h1 := h.2 j
    rw [if_neg (by omega)] at h1
    rw [if_pos (by omega), ← h1, ← hv]
    simp [List.getD, List.getElem?_set_self hl]
  · have h1 := h.2 q
    rw [show (xs.set j v).getD q false = xs.getD q false by simp [List.getD, List.getElem?_set_ne e], h1]
    by_cases hq : q < j
    · rw [if_pos hq, if_pos (by omega)]
    · rw [if_neg hq, if_neg (by omega)]
theorem flat_get : ∀ (l : List St) (j i : Nat) (s : St), l[j]? = some s → i < 4 → (l.flatMap setL)[j * 4 + i]? = (setL s)[i]?
  | [], j, i, s, h, hi => by simp at h
  | x :: l, 0, i, s, h, hi => by
    simp at h
    subst h
    rw [List.flatMap_cons, List.getElem?_append_left (by simp [setL]; omega)]
    simp
  | x :: l, j + 1, i, s, h, hi => by
    simp at h
    have := flat_get l j i s h hi
    rw [List.flatMap_cons, List.getElem?_append_right (by simp [setL]; omega)]
    have e : (j + 1) * 4 + i - (setL x).length = j * 4 + i := by simp [setL]; omega
    rw [e]; exact this


theorem run_mkbool (N : Nat) (hN : N ≤ 1000000) (W : World) :
    (Instr.makeSlice 41 (.int .i64 (N : Int)) (.int .i64 (N : Int))).run Try.prog W = .ok (.slice (some ⟨W.heap.size, 0, none⟩) N N) (W.alloc (.cells (boolVals (List.replicate N false)) 4)) := by
  obtain ⟨i, hi⟩ := Option.isSome_iff_exists.1 (show (Try.prog.info? 4).isSome = true by kernel_rfl)
  have h0 : (Try.prog.info? 4).map (fun i => (i.zero, i.bytes, i.size)) = some (some (.bool false), 1, 1) := by kernel_rfl
  rw [hi] at h0
  simp only [Option.map_some, Option.some.injEq, Prod.mk.injEq] at h0
  obtain ⟨hz, hb, hs⟩ := h0
  have h := run_make (P := Try.prog) W 41 4 i (.bool false) Try.underlying41 hi hz .i64 .i64 (N : Int) (N : Int) (by omega) (by omega) (by rw [hb]; omega) (by omega)
  rw [hs] at h
  simp only [Int.toNat_natCast] at h
  have e : madeCells (Value.bool false).cells (N * 1) = boolVals (List.replicate N false) := by
    apply Array.ext'
    apply List.ext_getElem?
    intro i
    rcases Nat.lt_or_ge i N with hi | hi
    · simp [madeCells, boolVals, Value.cells, hi, Nat.mod_one]
    · simp [madeCells, boolVals, Value.cells, hi]
  rw [e] at h
  exact h
theorem rep_get (N q : Nat) : (List.replicate N false).getD q false = false := by
  rw [List.getD]
  rcases Nat.lt_or_ge q N with h | h
  · simp [h]
  · simp [h]
/-- What 'range' hands out of a set of pairs. -/
theorem wpList_next_pairs {w : World} {ops : Array Oper} {rest : List Oper} {o : Oper} {a : Act} {Q : Exit → Act → World → Prop} (hg : o.guard = none) (it : Operand) (hop : o.op = Op.next it false)
    (b r n : Nat) (D : DataW Unit) (S : List (Nat × Nat)) (hS : ∀ kl, Maps.has D kl = true ↔ ∃ p ∈ S, kl = klf p) (hb : ∀ p ∈ S, p.1 ≤ 9223372036854775807 ∧ p.2 ≤ 9223372036854775807) (left : Lit → Bool) (cnt : Nat)
    (hit : a.eval it = .pointer (some ⟨r, 0, none⟩)) (h : w.ranges Try.prog 66 unitElem b r n D left cnt)
    (hDone : (∀ kl, left kl = false) → wpList Try.prog ops Q rest (a.put o.dst (.tuple #[.bool false])) w)
    (hMore : ∀ (p : Nat × Nat) (w' : World) (cnt' : Nat), p ∈ S → w'.ranges Try.prog 66 unitElem b r n D (fun z => left z && !z.sameKey (klf p)) cnt' → cnt' < cnt → w.grownBy w' (some r) → w'.heap.size = w.heap.size →
      (Instr.entry (.pointer (some ⟨r, 0, none⟩))).run Try.prog w' = .ok (.tuple #[.agg #[.int .i64 (p.1 : Int), .int .i64 (p.2 : Int)], .agg #[]]) w' → wpList Try.prog ops Q rest (a.put o.dst (.tuple #[.bool true, .agg #[.int .i64 (p.1 : Int), .int .i64 (p.2 : Int)], .agg #[]])) w') :
    wpList Try.prog ops Q (o :: rest) a w := by
  refine wpList_next_ranges w hg it hop 66 lawK unitElem (fun x : Int × Int => .agg #[.int .i64 x.1, .int .i64 x.2]) (fun _ : Unit => .agg #[]) (fun key kl hk => key_inv hk) (fun v y hv => ⟨(), (unitElem_inv hv).1⟩) b r n D left cnt hit h (fun _ hl => hDone hl) ?_
  intro x c kl y w' cnt' hk hl _ hat hr hlt hgr hsz hen
  obtain ⟨p, hp, e⟩ := (hS kl).1 (Maps.has_true_of_atKey hat)
  subst e
  have e := lawK.inj hk (key_mk p (hb p hp).1 (hb p hp).2)
  unfold pairV at e
  simp at e
  obtain ⟨x1, x2⟩ := x
  simp at e
  obtain ⟨rfl, rfl⟩ := e
  exact hMore p w' cnt' hp hr hlt hgr hsz hen
def StepPost (A : Au) (at_ : List Bool) (c : UInt8) (b : Bool) (w : World) (e : Ending) (w' : World) : Prop :=
  ∃ G, e = .returned (.slice (some ⟨G, 0, none⟩) A.T.sets.length A.T.sets.length) ∧ Blk w' G 4 (boolVals (stepB A at_ c b)) ∧ w.heap.size ≤ G ∧ Below w.heap.size w w'
end Go.Proofs.Ytlmjijejgfhmmaa
