/-
  A sender that nobody answers, plain.
-/
import Derived.Test.YtdhipkfiigiicaaDoorSenderPlain
namespace Go.Proofs.YtdhipkfiigiicaaDoor
set_option linter.unusedVariables false

/-- Where a sender is behind j ticks, if nobody answers. -/
def endS (T W : Nat) (crc : Bool) (j : Nat) : Sd := if j < T * W then ⟨0, 0, crc, 0, 1 + j / W, W - j % W, false⟩ else ⟨3, 0, crc, 10, T, 0, false⟩
theorem endS_new {T W : Nat} (hT : 1 ≤ T) (hW : 1 ≤ W) (crc : Bool) : endS T W crc 0 = newS W crc := by
  unfold endS
  rw [if_pos (Nat.mul_pos hT hW)]
  simp [newS]
theorem endS_on {T W j : Nat} (h : j < T * W) (crc : Bool) : endS T W crc j = ⟨0, 0, crc, 0, 1 + j / W, W - j % W, false⟩ := if_pos h
theorem endS_over {T W j : Nat} (h : T * W ≤ j) (crc : Bool) : endS T W crc j = ⟨3, 0, crc, 10, T, 0, false⟩ := if_neg (by omega)
theorem div_lt {T W j : Nat} (hW : 1 ≤ W) (h : j < T * W) : j / W < T := (Nat.div_lt_iff_lt_mul hW).2 h
theorem tick_end {bl : Bks} {T W j : Nat} (hT : 1 ≤ T) (hW : 1 ≤ W) (crc : Bool) (h : j < T * W) :
    tickS bl T W (endS T W crc j) = (if j + 1 < T * W then [] else [24, 24], endS T W crc (j + 1)) := by
  rw [endS_on h]
  have hd := div_lt hW h
  have hm : j % W < W := Nat.mod_lt _ hW
  have e := Nat.div_add_mod j W
  unfold tickS
  rw [if_neg (by simp)]
  by_cases h1 : 1 < W - j % W
  · have e2 : (j + 1) / W = j / W := by
      rw [Nat.div_eq_of_lt_le] <;> rw [Nat.mul_comm] <;> (try rw [Nat.mul_add]) <;> omega
    have e3 : (j + 1) % W = j % W + 1 := by
      have := Nat.div_add_mod (j + 1) W
      rw [e2] at this
      omega
    have h2 : j + 1 < T * W := by
      have h4 : W * (j / W + 1) ≤ W * T := Nat.mul_le_mul_left W hd
      rw [Nat.mul_add, Nat.mul_comm W T] at h4
      omega
    rw [if_pos h1, if_pos h2, endS_on h2, e2, e3]
    simp only [Prod.mk.injEq, Sd.mk.injEq, true_and, and_true]
    omega
  · have hj : j % W = W - 1 := by omega
    have e2 : (j + 1) / W = j / W + 1 := by
      rw [Nat.div_eq_of_lt_le] <;> rw [Nat.mul_comm] <;> (try rw [Nat.mul_add]) <;> (try rw [Nat.mul_add]) <;> omega
    have e3 : (j + 1) % W = 0 := by
      have := Nat.div_add_mod (j + 1) W
      rw [e2, Nat.mul_add] at this
      omega
    have e4 : j + 1 = W * (j / W + 1) := by rw [Nat.mul_add]; omega
    rw [if_neg h1]
    unfold againS
    by_cases h2 : T ≤ 1 + j / W
    · have h5 : ¬ j + 1 < T * W := by
        rw [e4, Nat.mul_comm T W]
        have := Nat.mul_le_mul_left W (show T ≤ j / W + 1 by omega)
        omega
      rw [if_pos h2, if_neg h5, endS_over (by omega), hj]
      simp only [Prod.mk.injEq, Sd.mk.injEq, true_and, and_true]
      omega
    · have h5 : j + 1 < T * W := by
        have h6 : W * (j / W + 2) ≤ W * T := Nat.mul_le_mul_left W (by omega)
        rw [Nat.mul_comm W T, Nat.mul_add] at h6
        rw [Nat.mul_add] at e4
        omega
      rw [if_neg h2, if_pos h5, endS_on h5, e2, e3]
      unfold sendS
      simp
      omega
theorem tick_over {bl : Bks} {T W : Nat} (crc : Bool) : tickS bl T W ⟨3, 0, crc, 10, T, 0, false⟩ = ([], ⟨3, 0, crc, 10, T, 0, false⟩) := by unfold tickS; rw [if_pos rfl]
theorem put_over6 {bl : Bks} {T W : Nat} (crc : Bool) : putS bl T W true ⟨3, 0, crc, 10, T, 0, false⟩ 6 = ([], ⟨3, 0, crc, 10, T, 0, false⟩) := by unfold putS; rw [if_pos rfl]; rfl
end Go.Proofs.YtdhipkfiigiicaaDoor
