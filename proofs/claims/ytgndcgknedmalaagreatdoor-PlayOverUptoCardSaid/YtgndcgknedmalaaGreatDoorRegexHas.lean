/-
  What a set has: package regex's Has.
-/
import Derived.Test.YtgndcgknedmalaaGreatDoorRegexSets
namespace Go.Proofs.YtgndcgknedmalaaGreatDoor
open Go.RowKit
set_option linter.unusedVariables false

set_option maxHeartbeats 4000000 in
theorem has_any (s : St) (c : Nat) (hc : c < 256) (w : World) :
    Calls Tryz.prog 54 #[stV s, .int .u8 (c : Int)] w fun e w' => e = .returned (.bool (hasS s c)) ∧ Below w.heap.size w w' := by
  have hj : c % 64 < 64 := Nat.mod_lt _ (by omega)
  have hi : c / 64 < 4 := by omega
  unfold hasS
  have e1 : (c : Int) / 64 = ((c / 64 : Nat) : Int) := by omega
  have e2 : (c : Int) % 64 = ((c % 64 : Nat) : Int) := by omega
  generalize c % 64 = j at *
  generalize c / 64 = i at *
  unfold stV
  obtain ⟨a, b, d, f⟩ := s
  have i0 : (0 : Int) ≤ (c : Int) := by omega
  have i1 : (c : Int) ≤ 255 := by omega
  have HC := keepHid hc
  clear hc
  rcases (by omega : i = 0 ∨ i = 1 ∨ i = 2 ∨ i = 3) with rfl | rfl | rfl | rfl
  all_goals
    simp only [St.get]
    rw [← bit_of _ j hj]
    go_enter Tryz.func54, Tryz.ntmps54
    go_wp2
    go_ret
    refine ⟨rfl, ?_⟩
    first | exact (Below.refl _ _).alloc (Nat.le_refl _) _ | exact Below.refl _ _
end Go.Proofs.YtgndcgknedmalaaGreatDoor
