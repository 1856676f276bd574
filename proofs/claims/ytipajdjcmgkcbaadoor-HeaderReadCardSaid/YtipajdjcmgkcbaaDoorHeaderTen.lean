/-
  A text's number in base 10, without a sign.
-/
import Derived.Test.YtipajdjcmgkcbaaDoorHeaderParse
import Derived.WalkKit
import Derived.ProofKit
import Derived.WalkLawsBesides
import Derived.IntWalk
import Derived.RegionTactic
import Derived.BigRegion
import Derived.ChangeAlike
import Derived.Deep.QuietTactic
import Derived.BigQuiet
import Derived.Deep.RegionHeld3
import Derived.Deep.DrawnRows
import Derived.Outline
namespace Go.Proofs.YtipajdjcmgkcbaaDoor
open Go.RowKit
set_option linter.unusedVariables false

set_option maxHeartbeats 32000000 in
set_option maxRecDepth 100000 in
theorem parseUint10_any (bs : List UInt8) (hl : bs.length ≤ 65536) (w : World) :
    Calls Tryd.prog 49 #[.string (strB bs), .int .i64 10, .int .i64 64] w (UPost 10 bs w) := by
  by_cases h0 : bs = []
  · subst h0
    have hemp : (strB []).toList.isEmpty = true := by rw [strB_toList]; rfl
    go_enter Tryd.func49, Tryd.ntmps49
    go_wp2
    go_ret2
    exact ⟨.inr ⟨0, 2, rfl, .inr ⟨rfl, rfl⟩, fun n h => h.1 rfl⟩, Below.refl _ _⟩
  · have hemp : (strB bs).toList.isEmpty = false := by rw [strB_toList]; simpa using h0
    obtain ⟨cp, w1, hcv, hrow⟩ := run_str_bytes (P := Tryd.prog) w 9 24 5 bs Tryd.underlying9 Tryd.underlying24 Tryd.underlying5 (by omega)
    obtain ⟨N, hN⟩ : ∃ N, bs.length = N := ⟨_, rfl⟩
    have HB : Hid (Below w.heap.size w w1) := keepHid hrow.below
    have HY : Hid (Bys w1 (w.heap.size + 1) (some ⟨w.heap.size, 0, none⟩) N bs) := keepHid (by have := hrow.bys; rw [hN] at this; exact this)
    have hne : 1 ≤ N := by
      rcases Nat.eq_zero_or_pos N with h | h
      · exact absurd (List.eq_nil_of_length_eq_zero (by omega)) h0
      · exact h
    rw [hN] at hcv hl
    have HEND : Hid (bs.drop N = []) := keepHid (List.drop_eq_nil_of_le (by omega))
    have HSTART : Hid (Far 10 bs 0 0) := keepHid fun n h => ⟨0, rfl, by omega, h.2⟩
    have hmv : IntKind.u64.wrap (IntKind.u64.wrap 18446744073709551616 - 1) = 18446744073709551615 := by decide
    clear hrow h0 hN
    go_enter Tryd.func49, Tryd.ntmps49
    go_wp2
    go_loop [12, 13, 101] (fun vu vn vi => ∃ (k : Nat) (a : Int), vu = .bool false ∧ vn = .int .u64 a ∧ vi = .int .i64 k ∧ k ≤ N ∧ Hid (0 ≤ a ∧ a ≤ 18446744073709551615 ∧ Far 10 bs k a)) (fun _ _ vi => N - (intOf vi).toNat)
    case atStart => exact ⟨0, 0, rfl, rfl, rfl, by omega, keepHid ⟨by omega, by omega, HSTART.out⟩⟩
    case round =>
      obtain ⟨k, a, rfl, rfl, rfl, hk, hh⟩ := hrel
      obtain ⟨a0, a1, hfar⟩ := hh.out
      clear hh
      by_cases hkn : k < N
      · obtain ⟨ad, c, had, _, hx, hcell⟩ := HY.out.at_ hkn
        obtain rfl := Option.some.inj had
        have hadd : (⟨w.heap.size, 0, none⟩ : Addr).add k = ⟨w.heap.size, k, none⟩ := by unfold Addr.add; split <;> simp_all
        rw [hadd] at hcell
        obtain ⟨xn, hxn⟩ : ∃ xn, c.toNat = xn := ⟨_, rfl⟩
        have hlt : xn < 256 := by rw [← hxn]; exact c.toNat_lt
        have HF : Hid (∀ n, Good 10 bs n → 48 ≤ xn ∧ xn < 48 + 10 ∧ ∃ acc : Nat, a = (acc : Int) ∧ acc * 10 + (xn - 48) < 9223372036854775808 ∧ valL 10 (bs.drop (k + 1)) (acc * 10 + (xn - 48)) = some n) := keepHid fun n hn => by rw [← hxn]; exact far_step hfar hx n hn
        rw [hxn] at hcell
        clear had hadd hx hxn hfar
        by_cases hdig : 48 ≤ xn ∧ xn ≤ 57
        · obtain ⟨d0, d1⟩ := hdig
          have i0 : (48 : Int) ≤ (xn : Int) := by omega
          have i1 : (xn : Int) ≤ 57 := by omega
          by_cases hcut : 1844674407370955162 ≤ a
          · have HNO : Hid (∀ n, ¬ Good 10 bs n) := keepHid fun n hn => by
              obtain ⟨_, _, acc, ha, h3, _⟩ := HF.out n hn
              omega
            clear HF
            go_wp2
            go_ret2
            exact ⟨.inr ⟨18446744073709551615, 1, rfl, .inl ⟨rfl, rfl⟩, HNO.out⟩, HB.out⟩
          · by_cases hov : 18446744073709551616 ≤ a * 10 + ((xn : Int) - 48)
            · have HNO : Hid (∀ n, ¬ Good 10 bs n) := keepHid fun n hn => by
                obtain ⟨_, _, acc, ha, h3, _⟩ := HF.out n hn
                omega
              have hwr : IntKind.u64.wrap (a * 10 + ((xn : Int) - 48)) = a * 10 + ((xn : Int) - 48) - 18446744073709551616 := by rw [IntKind.wrap_u64]; omega
              have icut : a < 1844674407370955162 := by omega
              clear HF hcut
              go_wp2
              go_ret2
              exact ⟨.inr ⟨18446744073709551615, 1, rfl, .inl ⟨rfl, rfl⟩, HNO.out⟩, HB.out⟩
            · have HN : Hid (0 ≤ a * 10 + ((xn : Int) - 48) ∧ a * 10 + ((xn : Int) - 48) ≤ 18446744073709551615 ∧ Far 10 bs (k + 1) (a * 10 + ((xn : Int) - 48))) := keepHid ⟨by omega, by omega, fun n hn => by
                obtain ⟨h1, h2, acc, ha, h3, h4⟩ := HF.out n hn
                exact ⟨acc * 10 + (xn - 48), by omega, h3, h4⟩⟩
              have icut : a < 1844674407370955162 := by omega
              have iov : a * 10 + ((xn : Int) - 48) < 18446744073709551616 := by omega
              clear HF hcut hov
              go_wp2
              go_round
              case rel => exact ⟨k + 1, a * 10 + ((xn : Int) - 48), rfl, by first | rfl | (congr 1; omega), by go_num, by omega, HN⟩
              case measure => simp [intOf]; omega
        · have HNO : Hid (∀ n, ¬ Good 10 bs n) := keepHid fun n hn => by have := HF.out n hn; omega
          have hv0 := bits_lo_u8 .or (xn : Int) 32
          have hv1 := bits_hi_u8 .or (xn : Int) 32
          have hu0 := bits_lo_u8 .or 95 32
          have hu1 := bits_hi_u8 .or 95 32
          clear HF
          go_wp2_with (refine (lower_any _ _).mono ?_; rintro e w' ⟨rfl, rfl⟩)
          all_goals
            go_ret2
            exact ⟨.inr ⟨0, 2, rfl, .inr ⟨rfl, rfl⟩, HNO.out⟩, HB.out⟩
      · obtain rfl : k = N := by omega
        have HN : Hid (∀ n, Good 10 bs n → a = (n : Int)) := keepHid fun n hn => by
          obtain ⟨acc, ha, _, hv⟩ := hfar n hn
          rw [HEND.out] at hv
          have : acc = n := Option.some.inj hv
          rw [ha, this]
        clear hfar
        go_wp2
        go_ret2
        exact ⟨.inl ⟨a, rfl, a0, a1, HN.out⟩, HB.out⟩
end Go.Proofs.YtipajdjcmgkcbaaDoor
