/-
  Waiting for patterns that numbers make.
-/
import Derived.Test.YtgidoieppplhpaaDoorExpectMake
import Derived.Test.YtgidoieppplhpaaDoorRegexMakes
import Derived.Test.YtgidoieppplhpaaDoorMatchKit
namespace Go.Proofs.YtgidoieppplhpaaDoor
open Go.RowKit
set_option linter.unusedVariables false

theorem bld_parse2 (ns : List UInt8) : parseF (bldL 2 ns).1 = (some (bldL 2 ns).2.1, (bldL 2 ns).1.length) := by
  have h := bld_seq 2 ns 6 [] (by omega) rfl
  rw [List.append_nil] at h
  have h2 : altN 6 (bldL 2 ns).1 = (some (bldL 2 ns).2.1, []) := by rw [altN_eq]; exact alt_one h rfl
  unfold parseF
  rw [h2]
theorem bld_short2 (ns : List UInt8) : (bldL 2 ns).1.length ≤ 64 := Nat.le_trans (bld_len 2 ns) (by decide)
theorem pat9_bld (ns : List UInt8) : pat9 (bldL 2 ns).1 = if emp (bldL 2 ns).2.1 then .inr (errnoV 8) else .inl (bldL 2 ns).2.1 := by
  unfold pat9
  rw [if_neg (by have := bld_short2 ns; omega), bld_parse2]
theorem arm_one' (A : Au) (t : List UInt8) : armA [A] t = if endA A t then some 0 else none := rfl
theorem infoS : (Tryd.prog.info? 9).map (fun i => (i.zero, i.size, i.bytes)) = some (some (.string ⟨#[]⟩), 1, 16) := by kernel_rfl
/-- Whether it ends here, by where it ends first. -/
theorem first_here {r : Re} {s : List UInt8} {j : Nat} (hj : j + 1 ≤ s.length) (hno : ∀ i, i ≤ j → hitB r s i = false) : hitB r s (j + 1) = ((firstL r s).2 && decide ((firstL r s).1 = j + 1)) := by
  rcases first_spec r s with ⟨k, hk, e, h1, h2⟩ | ⟨e, h1⟩
  · rw [e, Bool.eq_iff_iff]
    simp only [Bool.true_and, decide_eq_true_iff]
    constructor
    · intro h
      rcases Nat.lt_trichotomy k (j + 1) with h3 | h3 | h3
      · rw [hno k (by omega)] at h1; cases h1
      · exact h3
      · rw [h2 (j + 1) h3] at h; cases h
    · rintro rfl; exact h1
  · rw [e]
    simp [h1 (j + 1) hj]
end Go.Proofs.YtgidoieppplhpaaDoor
