/-
  api.Wrap, by its contract.
-/
import Derived.Test.YtkhhcclomjfliaaDoorProg
import Derived.WalkKit
import Derived.Outline
namespace Go.Proofs.YtkhhcclomjfliaaDoor
open Go.RowKit
set_option linter.unusedVariables false

/-- A Fault, as an error. -/
def faultV (n p : Int) : Value := .iface 88 (.agg #[.int .i64 n, .int .i64 p])
theorem wrap_any (n p : Int) (w : World) : Calls Tryd.prog 32 #[.int .i64 n, .int .i64 p] w fun e w' => e = .returned (faultV n p) ∧ w = w' := by
  go_enter Tryd.func32, Tryd.ntmps32
  go_wp2
  go_ret
  exact ⟨rfl, rfl⟩
end Go.Proofs.YtkhhcclomjfliaaDoor
