/-
  What stands behind a block's data.
-/
import Derived.Test.YtjbkhaoddababaaMake
import Derived.Test.YtjbkhaoddababaaBlockPlain
import Derived.Test.YtjbkhaoddababaaSum
import Derived.WalkKit
import Derived.ProofKit
import Derived.WalkLawsBesides
import Derived.IntWalk
import Derived.RegionTactic
import Derived.BigRegion
import Derived.ChangeAlike
import Derived.Deep.QuietTactic
import Derived.BigQuiet
import Derived.Deep.RegionHeld3
import Derived.Deep.DrawnRows
import Derived.Outline
namespace Go.Proofs.Ytjbkhaoddababaa
open Go.RowKit
set_option linter.unusedVariables false

theorem trailer_any (crc : Bool) (A : Option Addr) (n c B : Nat) (bs : List UInt8) (w : World) (h : Bys w B A n bs) :
    Calls Try.prog 51 #[.slice A n c, .bool crc] w (RetB w (trl crc bs)) := by
  cases crc
  · have h1 := chk_lt bs
    have HF : Hid (∀ C : Array Value, C = byteVals (trl false bs) → RetB w (trl false bs) (.returned (.slice (some ⟨w.heap.size, 0, none⟩) 1 1)) (w.alloc (.cells C 5))) := keepHid fun C hC =>
      ⟨_, 1, rfl, own_new w w.heap.size _ 1 _ C rfl (Nat.le_refl _) rfl hC (by omega), Nat.le_refl _, by omega, (Below.refl _ _).alloc (Nat.le_refl _) _⟩
    go_enter Try.func51, Try.ntmps51
    go_wp2_with fail
    refine (check_any _ _ _ _ _ _ h).mono ?_
    rintro e w' ⟨rfl, rfl⟩
    go_wp2
    go_ret
    exact HF.out _ (by simp [byteVals, trl]; omega)
  · have h1 := crc_lt bs
    have HF : Hid (∀ C : Array Value, C = byteVals (trl true bs) → RetB w (trl true bs) (.returned (.slice (some ⟨w.heap.size, 0, none⟩) 2 2)) (w.alloc (.cells C 5))) := keepHid fun C hC =>
      ⟨_, 2, rfl, own_new w w.heap.size _ 2 _ C rfl (Nat.le_refl _) rfl hC (by omega), Nat.le_refl _, by omega, (Below.refl _ _).alloc (Nat.le_refl _) _⟩
    go_enter Try.func51, Try.ntmps51
    go_wp2_with fail
    refine (crc_any _ _ _ _ _ _ h).mono ?_
    rintro e w' ⟨rfl, rfl⟩
    go_wp2
    go_ret
    exact HF.out _ (by simp [byteVals, trl]; omega)
end Go.Proofs.Ytjbkhaoddababaa
