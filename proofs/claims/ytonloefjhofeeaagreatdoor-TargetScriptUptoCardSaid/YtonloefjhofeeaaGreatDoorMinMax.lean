/-
  The builtins max and min of two ints.
-/
import Derived.Test.YtonloefjhofeeaaGreatDoorMake
import Derived.WalkKit
import Derived.ProofKit
namespace Go.Proofs.YtonloefjhofeeaaGreatDoor
open Go.RowKit
set_option linter.unusedVariables false

theorem max_z (ts : Array TypeId) (t : TypeId) (a b z : Int) (h : max a b = z) (w : World) :
    (Builtin.max_ ts t #[.int .i64 a, .int .i64 b]).run Tryz.prog w = .ok (.int .i64 z) w := by
  rw [← h]
  simp [Builtin.max_, Builtin.max2, Int.max_def]
  split <;> first | rfl | (split <;> first | rfl | (congr 2; omega)) | (congr 2; omega)
theorem min_z (ts : Array TypeId) (t : TypeId) (a b z : Int) (h : min a b = z) (w : World) :
    (Builtin.min_ ts t #[.int .i64 a, .int .i64 b]).run Tryz.prog w = .ok (.int .i64 z) w := by
  rw [← h]
  simp [Builtin.min_, Builtin.min2, Int.min_def]
  split <;> first | rfl | (split <;> first | rfl | (congr 2; omega)) | (congr 2; omega)
end Go.Proofs.YtonloefjhofeeaaGreatDoor
