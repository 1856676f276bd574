/-
  The document's examples, with which each statement of the stage begins.
-/
import Derived.Test.YtljnncakgndgpaaSumL
namespace Go.Proofs.Ytljnncakgndgpaa
open Go.RowKit
set_option linter.unusedVariables false

theorem ex_check : chk [200, 100] = 44 := by decide +kernel
theorem ex_crc : crcL [49, 50, 51, 52, 53, 54, 55, 56, 57] = 12739 := by decide +kernel
theorem ex_print : prNum (prL [97]) = 6422625 := by decide +kernel

theorem awake_any (w : World) :
    Calls Try.prog 9 #[] w fun e w' => e = .returned (.bool true) ∧ Below w.heap.size w w' := by
  have b1 : ∀ (W : World) (g : Nat), g = W.heap.size → Bys (W.alloc (.cells #[.int .u8 200, .int .u8 100] 5)) (g + 1) (some ⟨g, 0, none⟩) 2 [200, 100] := fun W g hg => bys_new W _ [200, 100] 2 rfl (by decide) _ rfl g hg
  have b2 : ∀ (W : World) (g : Nat), g = W.heap.size → Bys (W.alloc (.cells #[.int .u8 49, .int .u8 50, .int .u8 51, .int .u8 52, .int .u8 53, .int .u8 54, .int .u8 55, .int .u8 56, .int .u8 57] 5 (9, 10))) (g + 1) (some ⟨g, 0, none⟩) 9 [49, 50, 51, 52, 53, 54, 55, 56, 57] :=
    fun W g hg => bys_newm W _ [49, 50, 51, 52, 53, 54, 55, 56, 57] 9 rfl (by decide) _ rfl _ g hg
  have b3 : ∀ (W : World) (g : Nat), g = W.heap.size → Bys (W.alloc (.cells #[.int .u8 97] 5 (1, 2))) (g + 1) (some ⟨g, 0, none⟩) 1 [97] := fun W g hg => bys_newm W _ [97] 1 rfl (by decide) _ rfl _ g hg
  have B1 := keepHid b1
  have B2 := keepHid b2
  have B3 := keepHid b3
  clear b1 b2 b3
  have kc : ∀ (W : World) (g : Nat) (C : Array Value) (n c : Nat), g = W.heap.size → (convert 22 22 (.slice (some ⟨g, 0, none⟩) n c)).run Try.prog (W.alloc (.cells C 5)) =
      .ok (.slice (some ⟨g, 0, none⟩) n c) (W.alloc (.cells C 5 (C.size, C.size + 1))) := fun W g C n c hg => by
    subst hg; exact Lib.run_convert_bytes_const (P := Try.prog) W 22 5 C n c Try.underlying22 Try.underlying5
  go_enter Try.func9, Try.ntmps9
  go_wp2_with fail
  refine (check_any _ _ _ _ _ _ (B1.out _ _ rfl)).mono ?_
  rintro e w1 ⟨rfl, rfl⟩
  rw [ex_check]
  go_wp2_with fail
  refine (crc_any _ _ _ _ _ _ (B2.out _ _ (by simp))).mono ?_
  rintro e w1 ⟨rfl, rfl⟩
  rw [ex_crc]
  go_wp2_with fail
  refine (print_any _ _ _ _ _ ((B3.out _ _ (by simp)).more (by simp))).mono ?_
  rintro e w1 ⟨rfl, hb⟩
  rw [ex_print]
  go_wp2
  go_ret
  exact ⟨rfl, ((((Below.refl _ _).alloc (Nat.le_refl _) _).alloc (by simp) _).alloc (by simp; omega) _).trans (hb.mono (by simp; omega))⟩
end Go.Proofs.Ytljnncakgndgpaa
