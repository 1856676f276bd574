/-
  api.Wrap, by its contract.
-/
import Derived.Test.YtgndcgknedmalaaGreatDoorProg
import Derived.WalkKit
import Derived.Outline
namespace Go.Proofs.YtgndcgknedmalaaGreatDoor
open Go.RowKit
set_option linter.unusedVariables false

/-- A Fault, as an error. -/
def faultV (n p : Int) : Value := .iface 136 (.agg #[.int .i64 n, .int .i64 p])
theorem wrap_any (n p : Int) (w : World) : Calls Tryz.prog 35 #[.int .i64 n, .int .i64 p] w fun e w' => e = .returned (faultV n p) ∧ w = w' := by
  go_enter Tryz.func35, Tryz.ntmps35
  go_wp2
  go_ret
  exact ⟨rfl, rfl⟩
end Go.Proofs.YtgndcgknedmalaaGreatDoor
