/-
  What bytes.Equal answers.
-/
import Derived.Test.YtonloefjhofeeaaGreatDoorMake
import Derived.WalkKit
import Derived.ProofKit
import Derived.WalkLawsBesides
import Derived.IntWalk
import Derived.RegionTactic
import Derived.BigRegion
import Derived.ChangeAlike
import Derived.Deep.QuietTactic
import Derived.BigQuiet
import Derived.Deep.RegionHeld3
import Derived.Deep.DrawnRows
import Derived.Outline
namespace Go.Proofs.YtonloefjhofeeaaGreatDoor
open Go.RowKit
set_option linter.unusedVariables false

/-- bytes.Equal. -/
theorem equal_any (A B : Option Addr) (n m c d P Q : Nat) (xs bs : List UInt8) (w : World) (ha : Bys w P A n xs) (hb : Bys w Q B m bs) :
    Calls Tryz.prog 70 #[.slice A n c, .slice B m d] w fun e w' => e = .returned (.bool (decide (xs = bs))) ∧ w = w' := by
  have h1 : (convert 31 9 (.slice A n c)).run Tryz.prog w = .ok (.string (strB xs)) w := run_str 31 5 9 Tryz.underlying31 Tryz.underlying5 Tryz.underlying9 ha
  have h2 : (convert 31 9 (.slice B m d)).run Tryz.prog w = .ok (.string (strB bs)) w := run_str 31 5 9 Tryz.underlying31 Tryz.underlying5 Tryz.underlying9 hb
  have HE := keepHid (strB_beq xs bs)
  clear ha hb
  go_enter Tryz.func70, Tryz.ntmps70
  go_wp2
  go_ret
  exact ⟨by rw [← HE.out]; rfl, rfl⟩
end Go.Proofs.YtonloefjhofeeaaGreatDoor
