/-
  A text of digits, read as a number of 32 bits in base 10 or 16, as the library does it.
-/
import Derived.Test.YtgndcgknedmalaaGreatDoorTokenRows
import Derived.Test.YtgndcgknedmalaaGreatDoorStr
import Derived.Test.YtgndcgknedmalaaGreatDoorTokenDig
import Derived.Test.YtgndcgknedmalaaGreatDoorConv
import Derived.Test.YtgndcgknedmalaaGreatDoorShelf
import Derived.Lib.IfaceEq
import Derived.Lib.IfaceNeq
import Derived.Lib.QuietBelow
import Derived.Deep.DeepCutAuto
namespace Go.Proofs.YtgndcgknedmalaaGreatDoor
open Go.RowKit
set_option linter.unusedVariables false

/-- What lies at start-up: the two errors. -/
structure Errs (w : World) : Prop where
  syn : ∃ te pe, w.cell? ⟨2, 0, none⟩ = some (.iface te pe)
  ran : ∃ te pe, w.cell? ⟨3, 0, none⟩ = some (.iface te pe)
theorem Errs.below {w w' : World} {B : Nat} (h : Errs w) (hb : Below B w w') (hB : w.heap.size ≤ B) : Errs w' := by
  obtain ⟨⟨te, pe, h1⟩, tr, pr, h2⟩ := h
  have l1 : 2 < w.heap.size := World.block_lt_of_cell? _ _ h1
  have l2 : 3 < w.heap.size := World.block_lt_of_cell? _ _ h2
  exact ⟨⟨te, pe, (hb.cell (show 2 < B by omega)).trans h1⟩, tr, pr, (hb.cell (show 3 < B by omega)).trans h2⟩

def UPost (b : Nat) (bs : List UInt8) (w : World) (e : Ending) (w' : World) : Prop :=
  ((bs = [] ∧ e = .returned (.tuple #[.int .u64 0, .iface 202 (.int .i64 2)])) ∨
   (bs ≠ [] ∧ 4294967296 ≤ valB b bs 0 ∧ e = .returned (.tuple #[.int .u64 4294967295, .iface 202 (.int .i64 1)])) ∨
   (bs ≠ [] ∧ valB b bs 0 < 4294967296 ∧ e = .returned (.tuple #[.int .u64 (valB b bs 0 : Int), .nilIface]))) ∧ Below w.heap.size w w'
theorem lower_hex (x : Int) (h : 97 ≤ x ∧ x ≤ 102) (w : World) : Calls Tryz.prog 99 #[.int .u8 x] w fun e w' => e = .returned (.int .u8 x) ∧ w = w' := by
  have hv : bits .or .u8 x 32 = x := by
    rcases (by omega : x = 97 ∨ x = 98 ∨ x = 99 ∨ x = 100 ∨ x = 101 ∨ x = 102) with rfl | rfl | rfl | rfl | rfl | rfl <;> decide
  go_enter Tryz.func99, Tryz.ntmps99
  go_wp2
  go_ret
  exact ⟨rfl, rfl⟩
theorem val_step {b : Nat} {bs : List UInt8} {k : Nat} {c : UInt8} (h : bs[k]? = some c) : valB b (bs.take (k + 1)) 0 = valB b (bs.take k) 0 * b + dgt c := by
  rw [List.take_succ_of h, valB_snoc]
theorem val_app (b : Nat) : ∀ (l r : List UInt8) (v : Nat), valB b (l ++ r) v = valB b r (valB b l v)
  | [], r, v => rfl
  | a :: l, r, v => val_app b l r (v * b + dgt a)
theorem val_le {b : Nat} (hb : 1 ≤ b) (bs : List UInt8) (k : Nat) : valB b (bs.take k) 0 ≤ valB b bs 0 := by
  have : bs = bs.take k ++ bs.drop k := (List.take_append_drop k bs).symm
  rw [this, val_app, ← this]
  exact valB_ge hb _ _
theorem rng10 : ∀ c ∈ decL, 48 ≤ c.toNat ∧ c.toNat ≤ 57 ∧ dgt c = c.toNat - 48 := by decide
theorem rng16 : ∀ c ∈ hexL, (48 ≤ c.toNat ∧ c.toNat ≤ 57 ∧ dgt c = c.toNat - 48) ∨ (97 ≤ c.toNat ∧ c.toNat ≤ 102 ∧ dgt c = c.toNat - 87) := by decide

set_option maxRecDepth 100000 in
set_option maxHeartbeats 32000000 in
theorem uparse10 (bs : List UInt8) (hl : bs.length ≤ 65536) (hc : ∀ c ∈ bs, decL.contains c = true) (w : World) :
    Calls Tryz.prog 88 #[.string (strB bs), .int .i64 10, .int .i64 32] w (UPost 10 bs w) := by
  by_cases h0 : bs = []
  · subst h0
    have hemp : (strB []).toList.isEmpty = true := by rw [strB_toList]; rfl
    go_enter Tryz.func88, Tryz.ntmps88
    go_wp2
    go_ret2
    exact ⟨.inl ⟨rfl, rfl⟩, Below.refl _ _⟩
  · have hemp : (strB bs).toList.isEmpty = false := by rw [strB_toList]; simpa using h0
    obtain ⟨cp, w1, hcv, hrow⟩ := run_str_bytes (P := Tryz.prog) w 9 31 5 bs Tryz.underlying9 Tryz.underlying31 Tryz.underlying5 (by omega)
    obtain ⟨N, hN⟩ : ∃ N, bs.length = N := ⟨_, rfl⟩
    have HB : Hid (Below w.heap.size w w1) := keepHid hrow.below
    have HY : Hid (Bys w1 (w.heap.size + 1) (some ⟨w.heap.size, 0, none⟩) N bs) := keepHid (by have := hrow.bys; rw [hN] at this; exact this)
    have HNE := keepHid h0
    have HC := keepHid hc
    have HM : Hid (∀ k, valB 10 (bs.take k) 0 ≤ valB 10 bs 0) := keepHid fun k => val_le (by omega) bs k
    have HEND : Hid (bs.take N = bs) := keepHid (by rw [← hN, List.take_length])
    rw [hN] at hcv hl
    have hmv : IntKind.u64.wrap (IntKind.u64.wrap 4294967296 - 1) = 4294967295 := by decide
    clear hrow h0 hN hc
    go_enter Tryz.func88, Tryz.ntmps88
    go_wp2
    go_loop [12, 13, 101] (fun vu vn vi => ∃ (k a : Nat), vu = .bool false ∧ vn = .int .u64 (a : Int) ∧ vi = .int .i64 k ∧ k ≤ N ∧ a ≤ 4294967295 ∧ Hid (valB 10 (bs.take k) 0 = a)) (fun _ _ vi => N - (intOf vi).toNat)
    case atStart => exact ⟨0, 0, rfl, rfl, rfl, by omega, by omega, keepHid rfl⟩
    case round =>
      obtain ⟨k, a, rfl, rfl, rfl, hk, ha, hh⟩ := hrel
      by_cases hkn : k < N
      · obtain ⟨ad, c, had, _, hx, hcell⟩ := HY.out.at_ hkn
        obtain rfl := Option.some.inj had
        have hadd : (⟨w.heap.size, 0, none⟩ : Addr).add k = ⟨w.heap.size, k, none⟩ := by unfold Addr.add; split <;> simp_all
        rw [hadd] at hcell
        have hcm := HC.out c (List.mem_of_getElem? hx)
        have HF0 : Hid (valB 10 (bs.take (k + 1)) 0 = a * 10 + dgt c) := keepHid (by rw [val_step hx, hh.out])
        have hrange : (48 ≤ c.toNat ∧ c.toNat ≤ 57 ∧ dgt c = c.toNat - 48) := rng10 c (List.contains_iff_mem.1 hcm)
        obtain ⟨xn, hxn⟩ : ∃ xn, c.toNat = xn := ⟨_, rfl⟩
        rw [hxn] at hcell hrange
        have hcut : (a : Int) ≤ 4294967295 := by omega
        generalize dgt c = dg at *
        clear had hadd hx hxn hcm hh
        obtain ⟨d0, d1, rfl⟩ := hrange
        have i0 : (48 : Int) ≤ (xn : Int) := by omega
        have i1 : (xn : Int) ≤ 57 := by omega
        have HF := HF0
        clear HF0
        by_cases hov : 4294967295 < a * 10 + (xn - 48)
        · have HNO : Hid (4294967296 ≤ valB 10 bs 0) := keepHid (by have h1 := HM.out (k + 1); rw [HF.out] at h1; omega)
          have iov : (4294967295 : Int) < (a : Int) * 10 + ((xn : Int) - 48) := by omega
          have icut : ¬ (1844674407370955162 : Int) ≤ (a : Int) := by omega
          have hbig : (a : Int) * 10 + ((xn : Int) - 48) < 18446744073709551616 := by omega
          clear HF hov hcut
          go_wp2
          go_ret2
          exact ⟨.inr (.inl ⟨HNE.out, HNO.out, rfl⟩), HB.out⟩
        · have iov : ¬ (4294967295 : Int) < (a : Int) * 10 + ((xn : Int) - 48) := by omega
          have icut : ¬ (1844674407370955162 : Int) ≤ (a : Int) := by omega
          have hsm : (a : Int) * 10 + ((xn : Int) - 48) ≤ 4294967295 := by omega
          have HN : Hid (((a * 10 + (xn - 48) : Nat) : Int) = (a : Int) * 10 + ((xn : Int) - 48)) := keepHid (by omega)
          have HK : Hid (valB 10 (bs.take (k + 1)) 0 = a * 10 + (xn - 48)) := keepHid HF.out
          clear HF hov hcut
          go_wp2
          go_round
          case rel => exact ⟨k + 1, a * 10 + (xn - 48), rfl, by first | (rw [HN.out]; done) | (rw [HN.out]; rfl) | (rw [HN.out]; congr 1; omega), by go_num, by omega, by omega, HK⟩
          case measure => simp [intOf]; omega
      · obtain rfl : k = N := by omega
        have HV : Hid (valB 10 bs 0 = a) := keepHid (by rw [← hh.out, HEND.out])
        clear hh
        go_wp2
        go_ret2
        exact ⟨.inr (.inr ⟨HNE.out, by rw [HV.out]; omega, by rw [HV.out]; rfl⟩), HB.out⟩

set_option maxRecDepth 100000 in
set_option maxHeartbeats 32000000 in
theorem uparse16 (bs : List UInt8) (hl : bs.length ≤ 65536) (hc : ∀ c ∈ bs, hexL.contains c = true) (w : World) :
    Calls Tryz.prog 88 #[.string (strB bs), .int .i64 16, .int .i64 32] w (UPost 16 bs w) := by
  by_cases h0 : bs = []
  · subst h0
    have hemp : (strB []).toList.isEmpty = true := by rw [strB_toList]; rfl
    go_enter Tryz.func88, Tryz.ntmps88
    go_wp2
    go_ret2
    exact ⟨.inl ⟨rfl, rfl⟩, Below.refl _ _⟩
  · have hemp : (strB bs).toList.isEmpty = false := by rw [strB_toList]; simpa using h0
    obtain ⟨cp, w1, hcv, hrow⟩ := run_str_bytes (P := Tryz.prog) w 9 31 5 bs Tryz.underlying9 Tryz.underlying31 Tryz.underlying5 (by omega)
    obtain ⟨N, hN⟩ : ∃ N, bs.length = N := ⟨_, rfl⟩
    have HB : Hid (Below w.heap.size w w1) := keepHid hrow.below
    have HY : Hid (Bys w1 (w.heap.size + 1) (some ⟨w.heap.size, 0, none⟩) N bs) := keepHid (by have := hrow.bys; rw [hN] at this; exact this)
    have HNE := keepHid h0
    have HC := keepHid hc
    have HM : Hid (∀ k, valB 16 (bs.take k) 0 ≤ valB 16 bs 0) := keepHid fun k => val_le (by omega) bs k
    have HEND : Hid (bs.take N = bs) := keepHid (by rw [← hN, List.take_length])
    rw [hN] at hcv hl
    have hmv : IntKind.u64.wrap (IntKind.u64.wrap 4294967296 - 1) = 4294967295 := by decide
    clear hrow h0 hN hc
    go_enter Tryz.func88, Tryz.ntmps88
    go_wp2
    go_loop [12, 13, 101] (fun vu vn vi => ∃ (k a : Nat), vu = .bool false ∧ vn = .int .u64 (a : Int) ∧ vi = .int .i64 k ∧ k ≤ N ∧ a ≤ 4294967295 ∧ Hid (valB 16 (bs.take k) 0 = a)) (fun _ _ vi => N - (intOf vi).toNat)
    case atStart => exact ⟨0, 0, rfl, rfl, rfl, by omega, by omega, keepHid rfl⟩
    case round =>
      obtain ⟨k, a, rfl, rfl, rfl, hk, ha, hh⟩ := hrel
      by_cases hkn : k < N
      · obtain ⟨ad, c, had, _, hx, hcell⟩ := HY.out.at_ hkn
        obtain rfl := Option.some.inj had
        have hadd : (⟨w.heap.size, 0, none⟩ : Addr).add k = ⟨w.heap.size, k, none⟩ := by unfold Addr.add; split <;> simp_all
        rw [hadd] at hcell
        have hcm := HC.out c (List.mem_of_getElem? hx)
        have HF0 : Hid (valB 16 (bs.take (k + 1)) 0 = a * 16 + dgt c) := keepHid (by rw [val_step hx, hh.out])
        have hrange : (48 ≤ c.toNat ∧ c.toNat ≤ 57 ∧ dgt c = c.toNat - 48) ∨ (97 ≤ c.toNat ∧ c.toNat ≤ 102 ∧ dgt c = c.toNat - 87) := rng16 c (List.contains_iff_mem.1 hcm)
        obtain ⟨xn, hxn⟩ : ∃ xn, c.toNat = xn := ⟨_, rfl⟩
        rw [hxn] at hcell hrange
        have hcut : (a : Int) ≤ 4294967295 := by omega
        generalize dgt c = dg at *
        clear had hadd hx hxn hcm hh
        rcases hrange with ⟨d0, d1, rfl⟩ | ⟨d0, d1, rfl⟩
        · have i0 : (48 : Int) ≤ (xn : Int) := by omega
          have i1 : (xn : Int) ≤ 57 := by omega
          have HF := HF0
          clear HF0
          by_cases hov : 4294967295 < a * 16 + (xn - 48)
          · have HNO : Hid (4294967296 ≤ valB 16 bs 0) := keepHid (by have h1 := HM.out (k + 1); rw [HF.out] at h1; omega)
            have iov : (4294967295 : Int) < (a : Int) * 16 + ((xn : Int) - 48) := by omega
            have icut : ¬ (1152921504606846976 : Int) ≤ (a : Int) := by omega
            have hbig : (a : Int) * 16 + ((xn : Int) - 48) < 18446744073709551616 := by omega
            clear HF hov hcut
            go_wp2
            go_ret2
            exact ⟨.inr (.inl ⟨HNE.out, HNO.out, rfl⟩), HB.out⟩
          · have iov : ¬ (4294967295 : Int) < (a : Int) * 16 + ((xn : Int) - 48) := by omega
            have icut : ¬ (1152921504606846976 : Int) ≤ (a : Int) := by omega
            have hsm : (a : Int) * 16 + ((xn : Int) - 48) ≤ 4294967295 := by omega
            have HN : Hid (((a * 16 + (xn - 48) : Nat) : Int) = (a : Int) * 16 + ((xn : Int) - 48)) := keepHid (by omega)
            have HK : Hid (valB 16 (bs.take (k + 1)) 0 = a * 16 + (xn - 48)) := keepHid HF.out
            clear HF hov hcut
            go_wp2
            go_round
            case rel => exact ⟨k + 1, a * 16 + (xn - 48), rfl, by first | (rw [HN.out]; done) | (rw [HN.out]; rfl) | (rw [HN.out]; congr 1; omega), by go_num, by omega, by omega, HK⟩
            case measure => simp [intOf]; omega
        · have i0 : (97 : Int) ≤ (xn : Int) := by omega
          have i1 : (xn : Int) ≤ 102 := by omega
          have i2 : ¬ (xn : Int) ≤ 57 := by omega
          have HLO := keepHid (lower_hex (xn : Int) ⟨i0, i1⟩)
          have HF := HF0
          clear HF0 hcut
          by_cases hov : 4294967295 < a * 16 + (xn - 87)
          · have HOV : Hid (4294967295 < a * 16 + (xn - 87)) := keepHid hov
            have HNO : Hid (4294967296 ≤ valB 16 bs 0) := keepHid (by have h1 := HM.out (k + 1); rw [HF.out] at h1; omega)
            clear HF hov
            go_wp2_with fail
            refine (HLO.out _).mono ?_; rintro e w' ⟨rfl, rfl⟩
            go_wp2_with fail
            refine (HLO.out _).mono ?_; rintro e w' ⟨rfl, rfl⟩
            go_wp2_with fail
            refine (HLO.out _).mono ?_; rintro e w' ⟨rfl, rfl⟩
            go_upto_region 48 with fail
            have icut : ¬ (1152921504606846976 : Int) ≤ (a : Int) := by omega
            go_upto_region 50 with fail
            have iov : (4294967295 : Int) < (a : Int) * 16 + ((xn : Int) - 87) := by have := HOV.out; omega
            have hbig : (a : Int) * 16 + ((xn : Int) - 87) < 18446744073709551616 := by omega
            clear icut
            go_wp2
            go_ret2
            exact ⟨.inr (.inl ⟨HNE.out, HNO.out, rfl⟩), HB.out⟩
          · have HOV : Hid (a * 16 + (xn - 87) ≤ 4294967295) := keepHid (by omega)
            have HN : Hid (((a * 16 + (xn - 87) : Nat) : Int) = (a : Int) * 16 + ((xn : Int) - 87)) := keepHid (by omega)
            have HK : Hid (valB 16 (bs.take (k + 1)) 0 = a * 16 + (xn - 87)) := keepHid HF.out
            clear HF hov
            go_wp2_with fail
            refine (HLO.out _).mono ?_; rintro e w' ⟨rfl, rfl⟩
            go_wp2_with fail
            refine (HLO.out _).mono ?_; rintro e w' ⟨rfl, rfl⟩
            go_wp2_with fail
            refine (HLO.out _).mono ?_; rintro e w' ⟨rfl, rfl⟩
            go_upto_region 48 with fail
            have icut : ¬ (1152921504606846976 : Int) ≤ (a : Int) := by omega
            go_upto_region 50 with fail
            have iov : ¬ (4294967295 : Int) < (a : Int) * 16 + ((xn : Int) - 87) := by have := HOV.out; omega
            have hsm : (a : Int) * 16 + ((xn : Int) - 87) ≤ 4294967295 := by have := HOV.out; omega
            clear icut
            go_wp2
            go_round
            case rel => exact ⟨k + 1, a * 16 + (xn - 87), rfl, by first | (rw [HN.out]; done) | (rw [HN.out]; rfl) | (rw [HN.out]; congr 1; omega), by go_num, by omega, HOV.out, HK⟩
            case measure => simp [intOf]; omega
      · obtain rfl : k = N := by omega
        have HV : Hid (valB 16 bs 0 = a) := keepHid (by rw [← hh.out, HEND.out])
        clear hh
        go_wp2
        go_ret2
        exact ⟨.inr (.inr ⟨HNE.out, by rw [HV.out]; omega, by rw [HV.out]; rfl⟩), HB.out⟩
end Go.Proofs.YtgndcgknedmalaaGreatDoor
