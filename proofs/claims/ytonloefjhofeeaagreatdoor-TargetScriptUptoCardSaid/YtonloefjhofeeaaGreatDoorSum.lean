/-
  What the functions of package sum answer, one contract each, over plain numbers.
-/
import Derived.Test.YtonloefjhofeeaaGreatDoorChecked
import Derived.Test.YtonloefjhofeeaaGreatDoorSumPlain
import Derived.Test.YtonloefjhofeeaaGreatDoorBits
import Derived.WalkKit
import Derived.ProofKit
import Derived.WalkLawsBesides
import Derived.Laws.BitsAllLaws
import Derived.Laws.BitsLemmas
import Derived.IntWalk
namespace Go.Proofs.YtonloefjhofeeaaGreatDoor
open Go.RowKit
set_option linter.unusedVariables false

theorem ret_u8 {a b : Int} (h : a = b) : Ending.returned (.int .u8 a) = .returned (.int .u8 b) := by rw [h]
theorem ret_u16 {a b : Int} (h : a = b) : Ending.returned (.int .u16 a) = .returned (.int .u16 b) := by rw [h]

theorem vint {k : IntKind} {a b : Int} (h : a = b) : Value.int k a = .int k b := by rw [h]

theorem check_any (A : Option Addr) (n c B : Nat) (bs : List UInt8) (w : World) (h : Bys w B A n bs) :
    Calls Tryz.prog 77 #[.slice A n c] w fun e w' => e = .returned (.int .u8 (chk bs : Nat)) ∧ w = w' := by
  have hm := h.max
  go_enter Tryz.func77, Tryz.ntmps77
  go_wp2
  go_loop [3, 8] (fun t i => ∃ k : Nat, k ≤ n ∧ i = .int .i64 k ∧ t = .int .u8 (chk (bs.take k) : Nat)) (fun _ i => n - (intOf i).toNat)
  case atStart => exact ⟨0, Nat.zero_le _, rfl, rfl⟩
  case round =>
    obtain ⟨k, hk, rfl, rfl⟩ := hrel
    by_cases hlt : k < n
    · obtain ⟨ad, x, rfl, _, hx, hc⟩ := h.at_ hlt
      have HS := keepHid (chk_take hx)
      clear hx h
      have h1 := chk_lt (bs.take k)
      have h2 := u8lt x
      go_wp2
      go_round
      case rel => exact ⟨k + 1, by omega, by go_num, by rw [HS.out]; exact vint (by omega)⟩
      case measure => simp [intOf]; omega
    · have e : bs.take k = bs := List.take_of_length_le (by rw [h.len]; omega)
      have E := keepHid e
      clear e h
      go_wp2
      go_ret
      exact ⟨ret_u8 (by rw [E.out]), rfl⟩

theorem bitsN_one (k r : Nat) : bitsN (k + 1) r = bitStep (bitsN k r) := rfl
theorem step_hi {r : Nat} (h : 32768 ≤ r) : bitStep r = (2 * r - 65536) ^^^ 4129 := by unfold bitStep; rw [if_pos h]
theorem step_lo {r : Nat} (h : r < 32768) : bitStep r = 2 * r := by unfold bitStep; rw [if_neg (by omega)]

theorem divide_any (r : Nat) (hr : r < 65536) (w : World) :
    Calls Tryz.prog 89 #[.int .u16 (r : Int)] w fun e w' => e = .returned (.int .u16 (bitsN 8 r : Nat)) ∧ w = w' := by
  go_enter Tryz.func89, Tryz.ntmps89
  go_wp2
  go_loop [0, 4] (fun t i => ∃ k : Nat, k ≤ 8 ∧ i = .int .i64 k ∧ t = .int .u16 (bitsN k r : Nat)) (fun _ i => 8 - (intOf i).toNat)
  case atStart => exact ⟨0, Nat.zero_le _, rfl, rfl⟩
  case round =>
    obtain ⟨k, hk, rfl, rfl⟩ := hrel
    by_cases hlt : k < 8
    · have HS := keepHid (bitsN_one k r)
      have hb := bitsN_lt hr k
      generalize bitsN k r = q at *
      by_cases hq : 32768 ≤ q
      · have HT := keepHid (step_hi hq)
        have hx := xor16 (x := IntKind.u16.wrap ((q : Int) * 2)) (y := 4129) (a := 2 * q - 65536) (b := 4129) (by rw [IntKind.wrap_u16]; omega) rfl (by omega) (by omega)
        have HX := keepHid hx
        clear hx
        go_wp2
        go_round
        case rel => exact ⟨k + 1, by omega, by go_num, by rw [HS.out, HT.out, HX.out]⟩
        case measure => simp [intOf]; omega
      · have HT := keepHid (step_lo (r := q) (by omega))
        go_wp2
        go_round
        case rel => exact ⟨k + 1, by omega, by go_num, by rw [HS.out, HT.out]; exact vint (by omega)⟩
        case measure => simp [intOf]; omega
    · obtain rfl : k = 8 := by omega
      go_wp2
      go_ret
      exact ⟨rfl, rfl⟩

theorem divide_at (z : Int) (r : Nat) (hz : z = (r : Int)) (hr : r < 65536) (w : World) :
    Calls Tryz.prog 89 #[.int .u16 z] w fun e w' => e = .returned (.int .u16 (bitsN 8 r : Nat)) ∧ w = w' := by
  rw [hz]; exact divide_any r hr w

theorem crc_any (A : Option Addr) (n c B : Nat) (bs : List UInt8) (w : World) (h : Bys w B A n bs) :
    Calls Tryz.prog 76 #[.slice A n c] w fun e w' => e = .returned (.int .u16 (crcL bs : Nat)) ∧ w = w' := by
  have hm := h.max
  go_enter Tryz.func76, Tryz.ntmps76
  go_wp2
  go_loop [3, 8] (fun t i => ∃ k : Nat, k ≤ n ∧ i = .int .i64 k ∧ t = .int .u16 (crcL (bs.take k) : Nat)) (fun _ i => n - (intOf i).toNat)
  case atStart => exact ⟨0, Nat.zero_le _, rfl, rfl⟩
  case round =>
    obtain ⟨k, hk, rfl, rfl⟩ := hrel
    by_cases hlt : k < n
    · obtain ⟨ad, x, rfl, _, hx, hc⟩ := h.at_ hlt
      have HS := keepHid (crc_take hx)
      clear hx h
      have h1 := crc_lt (bs.take k)
      generalize crcL (bs.take k) = q at *
      have h2 := u8lt x
      have h3 := mix_lt x h1
      have HX := keepHid (xor16 (x := (q : Int)) (y := (x.toNat : Int) * 256) (a := q) (b := x.toNat * 256) rfl (by omega) (by omega) (by omega))
      go_wp2_with (refine (divide_at _ _ HX.out h3 _).mono ?_; rintro e w' ⟨rfl, rfl⟩)
      go_round
      case rel => exact ⟨k + 1, by omega, by go_num, by rw [HS.out]; rfl⟩
      case measure => simp [intOf]; omega
    · have e : bs.take k = bs := List.take_of_length_le (by rw [h.len]; omega)
      have E := keepHid e
      clear e h
      go_wp2
      go_ret
      exact ⟨ret_u16 (by rw [E.out]), rfl⟩
end Go.Proofs.YtonloefjhofeeaaGreatDoor
