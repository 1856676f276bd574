/-
  The reader of patterns: a byte is taken, a piece's end, a letter.
-/
import Derived.Test.YtlmjijejgfhmmaaRegexRead
import Derived.WalkKit
import Derived.ProofKit
import Derived.WalkLawsBesides
import Derived.IntWalk
import Derived.RegionTactic
import Derived.BigRegion
import Derived.ChangeAlike
import Derived.Deep.QuietTactic
import Derived.BigQuiet
import Derived.Deep.RegionHeld3
import Derived.Deep.DrawnRows
import Derived.Outline
namespace Go.Proofs.Ytlmjijejgfhmmaa
open Go.RowKit
set_option linter.unusedVariables false

set_option maxHeartbeats 400000 in
theorem ends_any {g i d : Nat} {bs : List UInt8} {w : World} (h : Ps w g bs i d) :
    Calls Try.prog 49 #[.pointer (some ⟨g, 0, none⟩)] w fun e w' => e = .returned (.bool (endsF (bs.drop i))) ∧ ∃ m, w' = w.drewN m := by
  have HD := keepHid (done_any h)
  have H1 := keepHid (fun n => next_any (h.drewN n) 124 124 rfl)
  have H2 := keepHid (fun n => next_any (h.drewN n) 41 41 rfl)
  clear h
  unfold endsF
  generalize (bs.drop i).isEmpty = a at *
  generalize nx 124 (bs.drop i) = b at *
  generalize nx 41 (bs.drop i) = c at *
  cases a
  · cases b
    · go_enter Try.func49, Try.ntmps49
      go_wp2_with fail
      refine HD.out.mono ?_
      rintro e w' ⟨rfl, m, rfl⟩
      go_wp2_with fail
      refine (H1.out m).mono ?_
      rintro e w' ⟨rfl, k, rfl⟩
      go_wp2_with fail
      refine (H2.out (m + k)).mono ?_
      rintro e w' ⟨rfl, j, rfl⟩
      go_wp2
      go_ret
      exact ⟨rfl, m + k + j, rfl⟩
    · go_enter Try.func49, Try.ntmps49
      go_wp2_with fail
      refine HD.out.mono ?_
      rintro e w' ⟨rfl, m, rfl⟩
      go_wp2_with fail
      refine (H1.out m).mono ?_
      rintro e w' ⟨rfl, k, rfl⟩
      go_wp2
      go_ret
      exact ⟨rfl, m + k, rfl⟩
  · go_enter Try.func49, Try.ntmps49
    go_wp2_with fail
    refine HD.out.mono ?_
    rintro e w' ⟨rfl, m, rfl⟩
    go_wp2
    go_ret
    exact ⟨rfl, m, rfl⟩
end Go.Proofs.Ytlmjijejgfhmmaa
