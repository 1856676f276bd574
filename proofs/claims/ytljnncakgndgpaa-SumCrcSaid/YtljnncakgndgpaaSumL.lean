/-
  The statements' own helpers: what they reckon by themselves of bytes, and the examples that they begin with.
-/
import Derived.Test.YtljnncakgndgpaaSumB
import Derived.Test.YtljnncakgndgpaaSumC
namespace Go.Proofs.Ytljnncakgndgpaa
open Go.RowKit
set_option linter.unusedVariables false

theorem ofInt64 (a : Nat) (ha : a < 9223372036854775808) : (BitVec.ofInt 64 (a : Int)).toNat = a := by
  rw [BitVec.ofInt_natCast, BitVec.toNat_ofNat]; exact Nat.mod_eq_of_lt (by omega)
theorem xor64 {x y : Int} {a b : Nat} (hx : x = a) (hy : y = b) (ha : a < 4294967296) (hb : b < 4294967296) : bits .xor .i64 x y = ((a ^^^ b : Nat) : Int) := by
  have hlt : a ^^^ b < 2 ^ 32 := Nat.xor_lt_two_pow (by omega) (by omega)
  rw [hx, hy]
  show IntKind.i64.wrap ((BitVec.ofInt 64 (a : Int) ^^^ BitVec.ofInt 64 (b : Int)).toNat : Int) = _
  rw [BitVec.toNat_xor, ofInt64 a (by omega), ofInt64 b (by omega), IntKind.wrap_i64]
  omega
theorem bit_hi {r : Nat} (h : 65536 ≤ r * 2) : bitStep r = (r * 2 - 65536) ^^^ 4129 := by rw [step_hi (by omega), Nat.mul_comm]
theorem bit_lo {r : Nat} (h : r * 2 < 65536) : bitStep r = r * 2 := by rw [step_lo (by omega), Nat.mul_comm]

theorem lcrc_any (A : Option Addr) (n c B : Nat) (bs : List UInt8) (w : World) (h : Bys w B A n bs) :
    Calls Try.prog 13 #[.slice A n c] w fun e w' => e = .returned (.int .u16 (crcL bs : Nat)) ∧ w = w' := by
  have hm := h.max
  go_enter Try.func13, Try.ntmps13
  go_wp2
  go_loop [3, 9] (fun t i => ∃ k : Nat, k ≤ n ∧ i = .int .i64 k ∧ t = .int .i64 (crcL (bs.take k) : Nat)) (fun _ i => n - (intOf i).toNat)
  case atStart => exact ⟨0, Nat.zero_le _, rfl, rfl⟩
  case round =>
    obtain ⟨k, hk, rfl, rfl⟩ := hrel
    by_cases hlt : k < n
    · obtain ⟨ad, x, rfl, _, hx, hc⟩ := h.at_ hlt
      have HS := keepHid (crc_take hx)
      clear hx h
      have h1 := crc_lt (bs.take k)
      generalize crcL (bs.take k) = q at *
      have h2 := u8lt x
      have h3 := mix_lt x h1
      have hx6 := xor64 (x := (q : Int)) (y := (x.toNat : Int) * 256) (a := q) (b := x.toNat * 256) rfl (by omega) (by omega) (by omega)
      have HM : Hid (crcByte q x = bitsN 8 (q ^^^ (x.toNat * 256))) := keepHid rfl
      generalize q ^^^ (x.toNat * 256) = m at *
      go_wp2
      clear hx6 hc h2
      go_loop [3, 6] (fun t j => ∃ i : Nat, i ≤ 8 ∧ j = .int .i64 i ∧ t = .int .i64 (bitsN i m : Nat)) (fun _ j => 8 - (intOf j).toNat)
      case atStart => exact ⟨0, Nat.zero_le _, rfl, rfl⟩
      case round =>
        obtain ⟨i, hi, rfl, rfl⟩ := hrel
        by_cases hil : i < 8
        · have HT := keepHid (bitsN_one i m)
          have hb := bitsN_lt h3 i
          generalize bitsN i m = r at *
          by_cases hr : 65536 ≤ r * 2
          · have HU := keepHid (bit_hi hr)
            have HX := keepHid (xor64 (x := (r : Int) * 2 - 65536) (y := 4129) (a := r * 2 - 65536) (b := 4129) (by omega) rfl (by omega) (by omega))
            have hr' : (65536 : Int) ≤ (r : Int) * 2 := by omega
            clear hr h1 h3 hm
            go_wp2
            go_round
            case rel => exact ⟨i + 1, by omega, by go_num, by rw [HT.out, HU.out, HX.out]⟩
            case measure => simp [intOf]; omega
          · have HU := keepHid (bit_lo (r := r) (by omega))
            have hr' : ¬ (65536 : Int) ≤ (r : Int) * 2 := by omega
            clear hr h1 h3 hm hb hk hlt
            go_wp2
            go_round
            case rel => exact ⟨i + 1, by omega, by go_num, by rw [HT.out, HU.out]; exact vint (by omega)⟩
            case measure => simp [intOf]; omega
        · obtain rfl : i = 8 := by omega
          go_wp2
          go_round
          case rel => exact ⟨k + 1, by omega, by go_num, by rw [HS.out, HM.out]⟩
          case measure => simp [intOf]; omega
    · have e : bs.take k = bs := List.take_of_length_le (by rw [h.len]; omega)
      rw [e]
      have h1 := crc_lt bs
      clear e h
      go_wp2
      go_ret
      exact ⟨rfl, rfl⟩

theorem lprint_any (A : Option Addr) (n c B : Nat) (bs : List UInt8) (w : World) (h : Bys w B A n bs) :
    Calls Try.prog 17 #[.slice A n c] w fun e w' => e = .returned (.int .u32 (prNum (prL bs) : Nat)) ∧ w = w' := by
  have hm := h.max
  go_enter Try.func17, Try.ntmps17
  go_wp2
  go_loop [3, 4, 9] (fun s t i => ∃ k : Nat, k ≤ n ∧ i = .int .i64 k ∧ s = .int .i64 ((prL (bs.take k)).1 : Nat) ∧ t = .int .i64 ((prL (bs.take k)).2 : Nat)) (fun _ _ i => n - (intOf i).toNat)
  case atStart => exact ⟨0, Nat.zero_le _, rfl, rfl, rfl⟩
  case round =>
    obtain ⟨k, hk, rfl, rfl, rfl⟩ := hrel
    by_cases hlt : k < n
    · obtain ⟨ad, x, rfl, _, hx, hc⟩ := h.at_ hlt
      have HS := keepHid (pr_take hx)
      clear hx h
      have hq := pr_lt (bs.take k)
      generalize prL (bs.take k) = q at *
      obtain ⟨s, t⟩ := q
      simp only at hq
      have h2 := u8lt x
      simp only
      go_wp2
      go_round
      case rel => exact ⟨k + 1, by omega, by go_num, by rw [HS.out]; exact vint (by simp [pStep, pS]), by rw [HS.out]; exact vint (by simp [pStep, pS])⟩
      case measure => simp [intOf]; omega
    · have e : bs.take k = bs := List.take_of_length_le (by rw [h.len]; omega)
      rw [e]
      have hq := pr_lt bs
      clear e h
      rcases e : prL bs with ⟨s, t⟩
      rw [e] at hq
      have HE := keepHid e
      clear e
      simp only at hq
      simp only
      go_wp2
      go_ret
      exact ⟨by rw [HE.out]; simp [prNum], rfl⟩
end Go.Proofs.Ytljnncakgndgpaa
