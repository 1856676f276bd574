/-
  Bytes and numbers of 16 bits, turned into one another bit by bit. Over any program.
-/
import Derived.Test.YtonloefjhofeeaaGreatDoorMem
import Derived.Laws.BitsAllLaws
import Derived.Laws.BitsLemmas
import Derived.WalkKit
namespace Go.Proofs.YtonloefjhofeeaaGreatDoor
open Go.RowKit
set_option linter.unusedVariables false

theorem xor16 {x y : Int} {a b : Nat} (hx : x = a) (hy : y = b) (ha : a < 65536) (hb : b < 65536) : bits .xor .u16 x y = ((a ^^^ b : Nat) : Int) := by
  rw [hx, hy]; exact u16_xor_nat a b ha hb
theorem xor8 {x y : Int} {a b : Nat} (hx : x = a) (hy : y = b) (ha : a < 256) (hb : b < 256) : bits .xor .u8 x y = ((a ^^^ b : Nat) : Int) := by
  rw [hx, hy]; exact u8_xor_nat a b ha hb

theorem not8 (x : UInt8) : (255 : Int) - (x.toNat : Int) = ((255 - x).toNat : Int) := by
  have h := u8lt x
  have : (255 - x).toNat = 255 - x.toNat := by rw [UInt8.toNat_sub_of_le _ _ (by rw [UInt8.le_iff_toNat_le]; exact Nat.le_of_lt_succ (by simpa using h))]; rfl
  rw [this]; omega

theorem xor255 : ∀ x : Fin 256, 255 ^^^ x.val = 255 - x.val := by decide +kernel
theorem not_u8 (x : UInt8) : bits .xor .u8 IntKind.u8.max (x.toNat : Int) = ((255 - x).toNat : Int) := by
  have h := u8lt x
  rw [xor8 (x := IntKind.u8.max) (y := (x.toNat : Int)) (a := 255) (b := x.toNat) (by rfl) rfl (by omega) h, xor255 ⟨x.toNat, h⟩, ← not8]
  simp only
  omega
end Go.Proofs.YtonloefjhofeeaaGreatDoor
