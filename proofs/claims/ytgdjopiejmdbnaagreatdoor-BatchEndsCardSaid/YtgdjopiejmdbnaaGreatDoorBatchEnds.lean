/-
  A sender and a receiver of files whom nobody answers, plain: both give up in time.
-/
import Derived.Test.YtgdjopiejmdbnaaGreatDoorBatchPlain
namespace Go.Proofs.YtgdjopiejmdbnaaGreatDoor
set_option linter.unusedVariables false

section
variable {φ : Type} {p : BP φ}
/-- So many ticks go by for the sender alone. -/
def aloneS (p : BP φ) : Nat → Bs → Bs
  | 0, b => b
  | n + 1, b => aloneS p n (tickBS p b).2
def aloneR (p : BP φ) : Nat → Br φ → Br φ
  | 0, b => b
  | n + 1, b => aloneR p n (tickBR p b).2
theorem aloneS_over : ∀ (n : Nat) (b : Bs), b.ov = true → aloneS p n b = b
  | 0, b, h => rfl
  | n + 1, b, h => by
    show aloneS p n (tickBS p b).2 = b
    have e : (tickBS p b).2 = b := by unfold tickBS; rw [if_pos h]
    rw [e, aloneS_over n b h]
theorem aloneR_over : ∀ (n : Nat) (b : Br φ), b.ov = true → aloneR p n b = b
  | 0, b, h => rfl
  | n + 1, b, h => by
    show aloneR p n (tickBR p b).2 = b
    have e : (tickBR p b).2 = b := by unfold tickBR; rw [if_pos h]
    rw [e, aloneR_over n b h]
theorem aloneS_add : ∀ (m n : Nat) (b : Bs), aloneS p (m + n) b = aloneS p n (aloneS p m b)
  | 0, n, b => by rw [Nat.zero_add]; rfl
  | m + 1, n, b => by rw [show m + 1 + n = (m + n) + 1 by omega]; exact aloneS_add m n (tickBS p b).2
theorem aloneR_add : ∀ (m n : Nat) (b : Br φ), aloneR p (m + n) b = aloneR p n (aloneR p m b)
  | 0, n, b => by rw [Nat.zero_add]; rfl
  | m + 1, n, b => by rw [show m + 1 + n = (m + n) + 1 by omega]; exact aloneR_add m n (tickBR p b).2
/-- The sender that waits to be asked. -/
def waitS (i a : Nat) : Bs := ⟨0, ⟨0, 0, true, 0, i, a, false⟩, false, 0⟩
theorem waitS_more {i a : Nat} (ha : 1 < a) : tickBS p (waitS i a) = ([], waitS i (a - 1)) := by
  unfold tickBS waitS
  rw [if_neg (by simp)]
  show ((tickS (blkB p 0) p.T p.W ⟨0, 0, true, 0, i, a, false⟩).1, nextBS p _ (tickS (blkB p 0) p.T p.W ⟨0, 0, true, 0, i, a, false⟩).2) = _
  rw [stick_wait (by simp) ha]
  rfl
theorem waitS_again {i : Nat} (hi : i < p.T) : tickBS p (waitS i 1) = ([], waitS (i + 1) p.W) := by
  unfold tickBS waitS
  rw [if_neg (by simp)]
  have e : tickS (blkB p 0) p.T p.W ⟨0, 0, true, 0, i, 1, false⟩ = ([], ⟨0, 0, true, 0, i + 1, p.W, false⟩) := by
    unfold tickS
    rw [if_neg (by simp), if_neg (by simp)]
    unfold againS
    rw [if_neg (by show ¬ p.T ≤ i; omega)]
    rfl
  show ((tickS (blkB p 0) p.T p.W ⟨0, 0, true, 0, i, 1, false⟩).1, nextBS p _ (tickS (blkB p 0) p.T p.W ⟨0, 0, true, 0, i, 1, false⟩).2) = _
  rw [e]
  rfl
theorem waitS_end {i : Nat} (hi : p.T ≤ i) : tickBS p (waitS i 1) = ([24, 24], ⟨0, ⟨3, 0, true, 10, i, 0, false⟩, true, 10⟩) := by
  unfold tickBS waitS
  rw [if_neg (by simp)]
  have e : tickS (blkB p 0) p.T p.W ⟨0, 0, true, 0, i, 1, false⟩ = ([24, 24], ⟨3, 0, true, 10, i, 0, false⟩) := by
    unfold tickS
    rw [if_neg (by simp), if_neg (by simp)]
    unfold againS
    rw [if_pos (by show p.T ≤ i; exact hi)]
    rfl
  show ((tickS (blkB p 0) p.T p.W ⟨0, 0, true, 0, i, 1, false⟩).1, nextBS p _ (tickS (blkB p 0) p.T p.W ⟨0, 0, true, 0, i, 1, false⟩).2) = _
  rw [e]
  rfl
theorem aloneS_gives (hW : 1 ≤ p.W) : ∀ (m i a : Nat), 1 ≤ a → i ≤ p.T → m = (p.T - i) * p.W + a → (aloneS p m (waitS i a)).ov = true ∧ (aloneS p m (waitS i a)).er = 10
  | 0, i, a, ha, hi, hm => by omega
  | m + 1, i, a, ha, hi, hm => by
    show (aloneS p m (tickBS p (waitS i a)).2).ov = true ∧ (aloneS p m (tickBS p (waitS i a)).2).er = 10
    by_cases ha1 : 1 < a
    · rw [waitS_more ha1]
      exact aloneS_gives hW m i (a - 1) (by omega) hi (by omega)
    · obtain rfl : a = 1 := by omega
      by_cases hiT : i < p.T
      · rw [waitS_again hiT]
        refine aloneS_gives hW m (i + 1) p.W hW hiT ?_
        obtain ⟨q, hq⟩ : ∃ q, p.T - i = q + 1 := ⟨p.T - i - 1, by omega⟩
        rw [hq, Nat.succ_mul] at hm
        rw [show p.T - (i + 1) = q by omega]
        omega
      · rw [waitS_end (by omega)]
        show (aloneS p m ⟨0, ⟨3, 0, true, 10, i, 0, false⟩, true, 10⟩).ov = true ∧ _
        rw [aloneS_over m _ rfl]
        exact ⟨rfl, rfl⟩
/-- The receiver that asks. -/
def waitR (p : BP φ) (tr tk : Nat) : Br φ := ⟨0, ⟨0, 1, tr, tk, [], [], false, 0⟩, false, 0, none, []⟩
theorem waitR_more {tr tk : Nat} (h : 1 < tk) : tickBR p (waitR p tr tk) = ([], waitR p tr (tk - 1)) := by
  unfold tickBR waitR
  rw [if_neg (by simp)]
  have e : tickR true p.W ⟨0, 1, tr, tk, [], [], false, 0⟩ = ([], ⟨0, 1, tr, tk - 1, [], [], false, 0⟩) := by
    unfold tickR
    rw [if_neg (by simp), if_pos h]
  show ((tickR true p.W ⟨0, 1, tr, tk, [], [], false, 0⟩).1, nextBR p _ (tickR true p.W ⟨0, 1, tr, tk, [], [], false, 0⟩).2) = _
  rw [e]
  rfl
theorem waitR_ask {tr : Nat} (h : 0 < tr) : tickBR p (waitR p tr 1) = ([67], waitR p (tr - 1) p.W) := by
  unfold tickBR waitR
  rw [if_neg (by simp)]
  have e : tickR true p.W ⟨0, 1, tr, 1, [], [], false, 0⟩ = ([67], ⟨0, 1, tr - 1, p.W, [], [], false, 0⟩) := by
    unfold tickR askR
    rw [if_neg (by simp), if_neg (by simp), if_neg (by simp), if_neg (by show ¬ tr = 0; omega)]
    rfl
  show ((tickR true p.W ⟨0, 1, tr, 1, [], [], false, 0⟩).1, nextBR p _ (tickR true p.W ⟨0, 1, tr, 1, [], [], false, 0⟩).2) = _
  rw [e]
  rfl
theorem waitR_end : tickBR p (waitR p 0 1) = ([24, 24], ⟨0, ⟨0, 1, 0, p.W, [], [], true, 10⟩, true, 10, none, []⟩) := by
  unfold tickBR waitR
  rw [if_neg (by simp)]
  have e : tickR true p.W ⟨0, 1, 0, 1, [], [], false, 0⟩ = ([24, 24], ⟨0, 1, 0, p.W, [], [], true, 10⟩) := by
    unfold tickR askR
    rw [if_neg (by simp), if_neg (by simp), if_neg (by simp), if_pos rfl]
    rfl
  show ((tickR true p.W ⟨0, 1, 0, 1, [], [], false, 0⟩).1, nextBR p _ (tickR true p.W ⟨0, 1, 0, 1, [], [], false, 0⟩).2) = _
  rw [e]
  rfl
theorem aloneR_gives (hW : 1 ≤ p.W) : ∀ (m tr tk : Nat), 1 ≤ tk → m = tr * p.W + tk → (aloneR p m (waitR p tr tk)).ov = true ∧ (aloneR p m (waitR p tr tk)).er = 10 ∧ (aloneR p m (waitR p tr tk)).fi = none ∧ (aloneR p m (waitR p tr tk)).da = []
  | 0, tr, tk, h, hm => by omega
  | m + 1, tr, tk, h, hm => by
    show (aloneR p m (tickBR p (waitR p tr tk)).2).ov = true ∧ (aloneR p m (tickBR p (waitR p tr tk)).2).er = 10 ∧ (aloneR p m (tickBR p (waitR p tr tk)).2).fi = none ∧ (aloneR p m (tickBR p (waitR p tr tk)).2).da = []
    by_cases h1 : 1 < tk
    · rw [waitR_more h1]
      exact aloneR_gives hW m tr (tk - 1) (by omega) (by omega)
    · obtain rfl : tk = 1 := by omega
      rcases Nat.eq_zero_or_pos tr with rfl | htr
      · rw [waitR_end, aloneR_over m _ rfl]
        exact ⟨rfl, rfl, rfl, rfl⟩
      · rw [waitR_ask htr]
        refine aloneR_gives hW m (tr - 1) p.W hW ?_
        obtain ⟨q, rfl⟩ : ∃ q, tr = q + 1 := ⟨tr - 1, by omega⟩
        rw [Nat.succ_mul] at hm
        rw [show q + 1 - 1 = q by omega]
        omega
/-- Both give up in time. -/
theorem alone_both (hT : 1 ≤ p.T) (hT9 : p.T ≤ 9) (hW : 1 ≤ p.W) (hW9 : p.W ≤ 99) {N : Nat} (hN : 892 ≤ N) : ((aloneS p N (newBS p)).ov = true ∧ (aloneS p N (newBS p)).er = 10) ∧ (aloneR p N (newBR p)).ov = true ∧ (aloneR p N (newBR p)).er = 10 ∧ (aloneR p N (newBR p)).fi = none ∧ (aloneR p N (newBR p)).da = [] := by
  have hm : p.T * p.W ≤ 9 * 99 := Nat.mul_le_mul hT9 hW9
  constructor
  · have h := aloneS_gives (p := p) hW (p.T * p.W) 1 p.W hW hT (by
      obtain ⟨q, hq⟩ : ∃ q, p.T = q + 1 := ⟨p.T - 1, by omega⟩
      rw [hq, Nat.succ_mul, Nat.add_sub_cancel])
    have e : newBS p = waitS 1 p.W := rfl
    obtain ⟨M, rfl⟩ : ∃ M, N = p.T * p.W + M := ⟨N - p.T * p.W, by omega⟩
    rw [e, aloneS_add, aloneS_over M _ h.1]
    exact h
  · have h := aloneR_gives (p := p) hW (p.T * p.W + 1) p.T 1 (Nat.le_refl _) rfl
    have e : newBR p = waitR p p.T 1 := rfl
    obtain ⟨M, rfl⟩ : ∃ M, N = p.T * p.W + 1 + M := ⟨N - (p.T * p.W + 1), by omega⟩
    rw [e, aloneR_add, aloneR_over M _ h.1]
    exact h
end
end Go.Proofs.YtgdjopiejmdbnaaGreatDoor
