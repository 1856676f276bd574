/-
  What bytes.Equal answers.
-/
import Derived.Test.YtjbkhaoddababaaMake
import Derived.WalkKit
import Derived.ProofKit
import Derived.WalkLawsBesides
import Derived.IntWalk
import Derived.RegionTactic
import Derived.BigRegion
import Derived.ChangeAlike
import Derived.Deep.QuietTactic
import Derived.BigQuiet
import Derived.Deep.RegionHeld3
import Derived.Deep.DrawnRows
import Derived.Outline
namespace Go.Proofs.Ytjbkhaoddababaa
open Go.RowKit
set_option linter.unusedVariables false

/-- bytes.Equal. -/
theorem equal_any (A B : Option Addr) (n m c d P Q : Nat) (xs bs : List UInt8) (w : World) (ha : Bys w P A n xs) (hb : Bys w Q B m bs) :
    Calls Try.prog 50 #[.slice A n c, .slice B m d] w fun e w' => e = .returned (.bool (decide (xs = bs))) ∧ w = w' := by
  have h1 : (convert 24 9 (.slice A n c)).run Try.prog w = .ok (.string (strB xs)) w := run_str 24 5 9 Try.underlying24 Try.underlying5 Try.underlying9 ha
  have h2 : (convert 24 9 (.slice B m d)).run Try.prog w = .ok (.string (strB bs)) w := run_str 24 5 9 Try.underlying24 Try.underlying5 Try.underlying9 hb
  have HE := keepHid (strB_beq xs bs)
  clear ha hb
  go_enter Try.func50, Try.ntmps50
  go_wp2
  go_ret
  exact ⟨by rw [← HE.out]; rfl, rfl⟩
end Go.Proofs.Ytjbkhaoddababaa
