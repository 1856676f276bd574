/-
  The words of the ways, as package manifest makes them.
-/
import Derived.Test.YtonloefjhofeeaaGreatDoorManifestPlain
import Derived.Test.YtonloefjhofeeaaGreatDoorStr
import Derived.WalkKit
import Derived.ProofKit
import Derived.Deep.DeepCutAuto
import Derived.LoopTactic
namespace Go.Proofs.YtonloefjhofeeaaGreatDoor
open Go.RowKit
set_option linter.unusedVariables false

def wayVals : Array Value := #[.string (strB wCheck), .string (strB wCrc), .string (strB wLarge), .string (strB wBatch)]
/-- The words lie in a block. -/
def WaysAt (w : World) (g : Nat) : Prop := Blk w g 9 wayVals
theorem WaysAt.at_ {w : World} {g : Nat} (h : WaysAt w g) {k : Nat} (hk : k ≤ 3) : w.cell? ⟨g, k, none⟩ = some (.string (strB (wayL k))) := by
  rw [Blk.cell h]
  rcases (by omega : k = 0 ∨ k = 1 ∨ k = 2 ∨ k = 3) with rfl | rfl | rfl | rfl <;> rfl
theorem ways_any (w : World) : Calls Tryz.prog 38 #[] w fun e w' => e = .returned (.slice (some ⟨w.heap.size, 0, none⟩) 4 4) ∧ Below w.heap.size w w' ∧ WaysAt w' w.heap.size := by
  obtain ⟨w1, hw1⟩ : ∃ w1, w.alloc (.cells wayVals 9) = w1 := ⟨_, rfl⟩
  have hB : Below w.heap.size w w1 := by rw [← hw1]; exact (Below.refl _ _).alloc (Nat.le_refl _) _
  have hW : WaysAt w1 w.heap.size := by rw [← hw1]; exact Blk.new w _ _
  have HB := keepHid hB
  have HW := keepHid hW
  have HX := keepHid hw1
  clear hB hW hw1
  go_enter Tryz.func38, Tryz.ntmps38
  go_wp2
  go_ret
  exact ⟨rfl, by first | exact (by rw [← HX.out] at HB; exact HB.out), by first | exact (by rw [← HX.out] at HW; exact HW.out)⟩
end Go.Proofs.YtonloefjhofeeaaGreatDoor
