/-
  Waiting, plain: the places behind a text when a text may begin at any byte; the first of several patterns that ends.
-/
import Derived.Test.YtgidoieppplhpaaDoorMatchPlain
namespace Go.Proofs.YtgidoieppplhpaaDoor
set_option linter.unusedVariables false

/-- The places behind a text, when one may begin at any byte. -/
def srch (A : Au) (s : List UInt8) : List Bool := s.foldl (fun p c => stepB A p c true) []
theorem srch_snoc (A : Au) (s : List UInt8) (c : UInt8) : srch A (s ++ [c]) = stepB A (srch A s) c true := by simp [srch]
theorem srch_len (A : Au) : ∀ l : List UInt8, (srch A l.reverse).length = if l.isEmpty then 0 else A.T.sets.length
  | [] => rfl
  | c :: l => by rw [List.reverse_cons, srch_snoc, step_len]; rfl
theorem srch_iff {r : Re} {A : Au} (ok : AuOk r A) : ∀ (l : List UInt8) (q : Nat), (srch A l.reverse).getD q false = true ↔ ∃ j, j < l.reverse.length ∧ (runB A (l.reverse.drop j)).getD q false = true
  | [], q => by simp [srch]
  | c :: l, q => by
    have ih := srch_iff ok l
    rw [List.reverse_cons]
    generalize l.reverse = s at *
    rw [srch_snoc, stepB_iff ok]
    have e : ∀ j, j ≤ s.length → ((runB A ((s ++ [c]).drop j)).getD q false = true ↔ (labR r q c ∧ (((s.drop j).isEmpty = true ∧ q ∈ fst r 0) ∨ ∃ p, (runB A (s.drop j)).getD p false = true ∧ Fol r 0 p q))) := by
      intro j hj
      rw [List.drop_append_of_le_length hj, run_snoc, stepB_iff ok]
    constructor
    · rintro ⟨h1, h2⟩
      rcases h2 with ⟨_, h2⟩ | ⟨p, h2, h3⟩
      · refine ⟨s.length, by simp, (e _ (Nat.le_refl _)).2 ⟨h1, .inl ⟨by simp, h2⟩⟩⟩
      · obtain ⟨j, hj, h4⟩ := (ih p).1 h2
        exact ⟨j, by simp; omega, (e j (by omega)).2 ⟨h1, .inr ⟨p, h4, h3⟩⟩⟩
    · rintro ⟨j, hj, h⟩
      have hj' : j ≤ s.length := by simp at hj; omega
      obtain ⟨h1, h2⟩ := (e j hj').1 h
      refine ⟨h1, ?_⟩
      rcases h2 with ⟨_, h2⟩ | ⟨p, h2, h3⟩
      · exact .inl ⟨rfl, h2⟩
      · refine .inr ⟨p, (ih p).2 ⟨j, ?_, h2⟩, h3⟩
        rcases Nat.lt_or_ge j s.length with h | h
        · exact h
        · rw [List.drop_of_length_le h] at h2
          simp [runB] at h2
theorem srch_any {r : Re} {A : Au} (ok : AuOk r A) (s : List UInt8) : anyB (srch A s) A.last = true ↔ ∃ j, j < s.length ∧ Mt r (s.drop j) := by
  obtain ⟨l, rfl⟩ : ∃ l : List UInt8, s = l.reverse := ⟨s.reverse, by simp⟩
  rw [any_iff]
  have f : ∀ j, j < l.reverse.length → (anyB (runB A (l.reverse.drop j)) A.last = true ↔ Mt r (l.reverse.drop j)) := by
    intro j hj
    rw [← fits_iff ok]
    unfold fitsB
    rw [if_neg (by simp only [List.isEmpty_iff]; intro h; rw [List.drop_eq_nil_iff] at h; omega)]
  constructor
  · rintro ⟨p, hp, h⟩
    obtain ⟨j, hj, h2⟩ := (srch_iff ok l p).1 h
    exact ⟨j, hj, (f j hj).1 ((any_iff _ _).2 ⟨p, hp, h2⟩)⟩
  · rintro ⟨j, hj, h⟩
    obtain ⟨p, hp, h2⟩ := (any_iff _ _).1 ((f j hj).2 h)
    exact ⟨p, hp, (srch_iff ok l p).2 ⟨j, hj, h2⟩⟩
/-- Whether a pattern ends with the last byte. -/
def endA (A : Au) (s : List UInt8) : Bool := anyB (srch A s) A.last
theorem end_hit {r : Re} (he : emp r = false) {s : List UInt8} {k : Nat} (hk : k ≤ s.length) : endA (auOf r) (s.take k) = hitB r s k := by
  rw [Bool.eq_iff_iff, hit_iff]
  unfold endA
  rw [srch_any (auOf_ok r)]
  have hl : (s.take k).length = k := by simp; omega
  constructor
  · rintro ⟨j, hj, h⟩
    exact ⟨j, by omega, h⟩
  · rintro ⟨i, hi, h⟩
    refine ⟨i, ?_, h⟩
    rcases Nat.lt_or_ge i (s.take k).length with h' | h'
    · exact h'
    · have e : mid s i k = [] := by unfold mid; exact List.drop_of_length_le h'
      rw [e, mt_nil, he] at h
      cases h
/-- Which of several patterns ends first. -/
def armA : List Au → List UInt8 → Option Nat
  | [], _ => none
  | A :: l, s => if endA A s then some 0 else (armA l s).map (· + 1)
theorem arm_none : ∀ {As : List Au} {s : List UInt8}, armA As s = none ↔ ∀ A ∈ As, endA A s = false
  | [], s => by simp [armA]
  | A :: l, s => by
    unfold armA
    cases h : endA A s
    · have := @arm_none l s
      simp [h, this]
    · simp [h]
theorem arm_some : ∀ {As : List Au} {s : List UInt8} {i : Nat}, armA As s = some i ↔ (∃ A, As[i]? = some A ∧ endA A s = true) ∧ ∀ j A, j < i → As[j]? = some A → endA A s = false
  | [], s, i => by simp [armA]
  | A :: l, s, i => by
    unfold armA
    cases h : endA A s
    · cases i with
      | zero => simp [h]
      | succ i =>
        have := @arm_some l s i
        simp only [Bool.false_eq_true, if_false, Option.map_eq_some_iff, List.getElem?_cons_succ]
        constructor
        · rintro ⟨k, hk, e⟩
          have : k = i := by omega
          subst this
          obtain ⟨h1, h2⟩ := (@arm_some l s k).1 hk
          refine ⟨h1, fun j A' hj hA => ?_⟩
          cases j with
          | zero => simp at hA; subst hA; exact h
          | succ j => exact h2 j A' (by omega) (by simpa using hA)
        · rintro ⟨h1, h2⟩
          exact ⟨i, this.2 ⟨h1, fun j A' hj hA => h2 (j + 1) A' (by omega) (by simpa using hA)⟩, rfl⟩
    · cases i with
      | zero => simp [h]
      | succ i =>
        simp only [if_true, Option.some.injEq]
        constructor
        · intro e; omega
        · rintro ⟨_, h2⟩
          have := h2 0 A (by omega) (by simp)
          rw [h] at this
          cases this
end Go.Proofs.YtgidoieppplhpaaDoor
