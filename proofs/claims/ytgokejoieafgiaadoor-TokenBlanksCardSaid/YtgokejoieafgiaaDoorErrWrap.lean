/-
  api.Wrap, by its contract.
-/
import Derived.Test.YtgokejoieafgiaaDoorProg
import Derived.WalkKit
import Derived.Outline
namespace Go.Proofs.YtgokejoieafgiaaDoor
open Go.RowKit
set_option linter.unusedVariables false

/-- A Fault, as an error. -/
def faultV (n p : Int) : Value := .iface 53 (.agg #[.int .i64 n, .int .i64 p])
theorem wrap_any (n p : Int) (w : World) : Calls Tryd.prog 17 #[.int .i64 n, .int .i64 p] w fun e w' => e = .returned (faultV n p) ∧ w = w' := by
  go_enter Tryd.func17, Tryd.ntmps17
  go_wp2
  go_ret
  exact ⟨rfl, rfl⟩
end Go.Proofs.YtgokejoieafgiaaDoor
