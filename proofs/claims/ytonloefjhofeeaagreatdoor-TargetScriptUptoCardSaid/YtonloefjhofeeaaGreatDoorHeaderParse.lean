/-
  A text's number in base 8 or 10, as the library reads it: what is no such number answers something, and 'value' is 0 or what it makes of it.
-/
import Derived.Test.YtonloefjhofeeaaGreatDoorHeaderNum
import Derived.Test.YtonloefjhofeeaaGreatDoorConv
import Derived.Lib.IfaceEq
import Derived.Lib.IfaceNeq
import Derived.WalkKit
import Derived.ProofKit
import Derived.WalkLawsBesides
import Derived.IntWalk
import Derived.RegionTactic
import Derived.BigRegion
import Derived.ChangeAlike
import Derived.Deep.QuietTactic
import Derived.BigQuiet
import Derived.Deep.RegionHeld3
import Derived.Deep.DrawnRows
import Derived.Outline
namespace Go.Proofs.YtonloefjhofeeaaGreatDoor
open Go.RowKit
set_option linter.unusedVariables false

/-- A text that is a number below 2^63 in a base. -/
def Good (b : Nat) (bs : List UInt8) (n : Nat) : Prop := bs ≠ [] ∧ valL b bs 0 = some n
/-- What lies at start-up: the two errors. -/
structure Errs (w : World) : Prop where
  syn : ∃ te pe, w.cell? ⟨6, 0, none⟩ = some (.iface te pe)
  ran : ∃ te pe, w.cell? ⟨7, 0, none⟩ = some (.iface te pe)
theorem Errs.below {w w' : World} {B : Nat} (h : Errs w) (hb : Below B w w') (hB : w.heap.size ≤ B) : Errs w' := by
  obtain ⟨⟨te, pe, h1⟩, tr, pr, h2⟩ := h
  have l1 := lt_of_cell h1
  have l2 := lt_of_cell h2
  exact ⟨⟨te, pe, (hb.cell (show 6 < B by omega)).trans h1⟩, tr, pr, (hb.cell (show 7 < B by omega)).trans h2⟩

/-- What the library's reading of a number without a sign answers. -/
def UPost (b : Nat) (bs : List UInt8) (w : World) (e : Ending) (w' : World) : Prop :=
  ((∃ u : Int, e = .returned (.tuple #[.int .u64 u, .nilIface]) ∧ 0 ≤ u ∧ u ≤ 18446744073709551615 ∧ ∀ n, Good b bs n → u = (n : Int)) ∨
   (∃ u k : Int, e = .returned (.tuple #[.int .u64 u, .iface 170 (.int .i64 k)]) ∧ ((k = 1 ∧ u = 18446744073709551615) ∨ (k = 2 ∧ u = 0)) ∧ ∀ n, ¬ Good b bs n)) ∧ Below w.heap.size w w'
theorem valL_cons {b acc n : Nat} {c : UInt8} {r : List UInt8} (h : valL b (c :: r) acc = some n) : 48 ≤ c.toNat ∧ c.toNat < 48 + b ∧ acc * b + (c.toNat - 48) < 9223372036854775808 ∧ valL b r (acc * b + (c.toNat - 48)) = some n := by
  rw [valL] at h
  split at h
  · rename_i hc; exact ⟨hc.1, hc.2.1, hc.2.2, h⟩
  · cases h
/-- As far as it is read, a text that is a number has made a of it. -/
def Far (b : Nat) (bs : List UInt8) (k : Nat) (a : Int) : Prop := ∀ n, Good b bs n → ∃ acc : Nat, a = (acc : Int) ∧ acc < 9223372036854775808 ∧ valL b (bs.drop k) acc = some n
theorem far_step {b : Nat} {bs : List UInt8} {k : Nat} {a : Int} {c : UInt8} (h : Far b bs k a) (hc : bs[k]? = some c) (n : Nat) (hn : Good b bs n) :
    48 ≤ c.toNat ∧ c.toNat < 48 + b ∧ ∃ acc : Nat, a = (acc : Int) ∧ acc * b + (c.toNat - 48) < 9223372036854775808 ∧ valL b (bs.drop (k + 1)) (acc * b + (c.toNat - 48)) = some n := by
  obtain ⟨acc, ha, _, hv⟩ := h n hn
  have hk : k < bs.length := by
    rcases Nat.lt_or_ge k bs.length with hl | hl
    · exact hl
    · rw [List.getElem?_eq_none hl] at hc; cases hc
  rw [List.drop_eq_getElem_cons hk] at hv
  rw [List.getElem?_eq_getElem hk] at hc
  rw [Option.some.inj hc] at hv
  obtain ⟨h1, h2, h3, h4⟩ := valL_cons hv
  exact ⟨h1, h2, acc, ha, h3, h4⟩

theorem lower_any (c : Int) (w : World) : Calls Tryz.prog 121 #[.int .u8 c] w fun e w' => e = .returned (.int .u8 (bits .or .u8 c 32)) ∧ w = w' := by
  go_enter Tryz.func121, Tryz.ntmps121
  go_wp2
  go_ret
  exact ⟨rfl, rfl⟩

set_option maxRecDepth 100000 in
set_option maxHeartbeats 32000000 in
set_option maxRecDepth 100000 in
theorem parseUint8_any (bs : List UInt8) (hl : bs.length ≤ 65536) (w : World) :
    Calls Tryz.prog 107 #[.string (strB bs), .int .i64 8, .int .i64 64] w (UPost 8 bs w) := by
  by_cases h0 : bs = []
  · subst h0
    have hemp : (strB []).toList.isEmpty = true := by rw [strB_toList]; rfl
    go_enter Tryz.func107, Tryz.ntmps107
    go_wp2
    go_ret2
    exact ⟨.inr ⟨0, 2, rfl, .inr ⟨rfl, rfl⟩, fun n h => h.1 rfl⟩, Below.refl _ _⟩
  · have hemp : (strB bs).toList.isEmpty = false := by rw [strB_toList]; simpa using h0
    obtain ⟨cp, w1, hcv, hrow⟩ := run_str_bytes (P := Tryz.prog) w 9 31 5 bs Tryz.underlying9 Tryz.underlying31 Tryz.underlying5 (by omega)
    obtain ⟨N, hN⟩ : ∃ N, bs.length = N := ⟨_, rfl⟩
    have HB : Hid (Below w.heap.size w w1) := keepHid hrow.below
    have HY : Hid (Bys w1 (w.heap.size + 1) (some ⟨w.heap.size, 0, none⟩) N bs) := keepHid (by have := hrow.bys; rw [hN] at this; exact this)
    have hne : 1 ≤ N := by
      rcases Nat.eq_zero_or_pos N with h | h
      · exact absurd (List.eq_nil_of_length_eq_zero (by omega)) h0
      · exact h
    rw [hN] at hcv hl
    have HEND : Hid (bs.drop N = []) := keepHid (List.drop_eq_nil_of_le (by omega))
    have HSTART : Hid (Far 8 bs 0 0) := keepHid fun n h => ⟨0, rfl, by omega, h.2⟩
    have hmv : IntKind.u64.wrap (IntKind.u64.wrap 18446744073709551616 - 1) = 18446744073709551615 := by decide
    clear hrow h0 hN
    go_enter Tryz.func107, Tryz.ntmps107
    go_wp2
    go_loop [12, 13, 101] (fun vu vn vi => ∃ (k : Nat) (a : Int), vu = .bool false ∧ vn = .int .u64 a ∧ vi = .int .i64 k ∧ k ≤ N ∧ Hid (0 ≤ a ∧ a ≤ 18446744073709551615 ∧ Far 8 bs k a)) (fun _ _ vi => N - (intOf vi).toNat)
    case atStart => exact ⟨0, 0, rfl, rfl, rfl, by omega, keepHid ⟨by omega, by omega, HSTART.out⟩⟩
    case round =>
      obtain ⟨k, a, rfl, rfl, rfl, hk, hh⟩ := hrel
      obtain ⟨a0, a1, hfar⟩ := hh.out
      clear hh
      by_cases hkn : k < N
      · obtain ⟨ad, c, had, _, hx, hcell⟩ := HY.out.at_ hkn
        obtain rfl := Option.some.inj had
        have hadd : (⟨w.heap.size, 0, none⟩ : Addr).add k = ⟨w.heap.size, k, none⟩ := by unfold Addr.add; split <;> simp_all
        rw [hadd] at hcell
        obtain ⟨xn, hxn⟩ : ∃ xn, c.toNat = xn := ⟨_, rfl⟩
        have hlt : xn < 256 := by rw [← hxn]; exact c.toNat_lt
        have HF : Hid (∀ n, Good 8 bs n → 48 ≤ xn ∧ xn < 48 + 8 ∧ ∃ acc : Nat, a = (acc : Int) ∧ acc * 8 + (xn - 48) < 9223372036854775808 ∧ valL 8 (bs.drop (k + 1)) (acc * 8 + (xn - 48)) = some n) := keepHid fun n hn => by rw [← hxn]; exact far_step hfar hx n hn
        rw [hxn] at hcell
        clear had hadd hx hxn hfar
        by_cases hdig : 48 ≤ xn ∧ xn ≤ 57
        · obtain ⟨d0, d1⟩ := hdig
          have i0 : (48 : Int) ≤ (xn : Int) := by omega
          have i1 : (xn : Int) ≤ 57 := by omega
          by_cases h8 : 56 ≤ xn
          · have HNO : Hid (∀ n, ¬ Good 8 bs n) := keepHid fun n hn => by have := HF.out n hn; omega
            have g8 : (56 : Int) ≤ (xn : Int) := by omega
            clear HF
            go_wp2
            go_ret2
            exact ⟨.inr ⟨0, 2, rfl, .inr ⟨rfl, rfl⟩, HNO.out⟩, HB.out⟩
          · have g8 : (xn : Int) < 56 := by omega
            by_cases hcut : 2305843009213693952 ≤ a
            · have HNO : Hid (∀ n, ¬ Good 8 bs n) := keepHid fun n hn => by
                obtain ⟨_, _, acc, ha, h3, _⟩ := HF.out n hn
                omega
              clear HF
              go_wp2
              go_ret2
              exact ⟨.inr ⟨18446744073709551615, 1, rfl, .inl ⟨rfl, rfl⟩, HNO.out⟩, HB.out⟩
            · have HN : Hid (0 ≤ a * 8 + ((xn : Int) - 48) ∧ a * 8 + ((xn : Int) - 48) ≤ 18446744073709551615 ∧ Far 8 bs (k + 1) (a * 8 + ((xn : Int) - 48))) := keepHid ⟨by omega, by omega, fun n hn => by
                obtain ⟨h1, h2, acc, ha, h3, h4⟩ := HF.out n hn
                exact ⟨acc * 8 + (xn - 48), by omega, h3, h4⟩⟩
              have icut : a < 2305843009213693952 := by omega
              clear HF hcut
              go_wp2
              go_round
              case rel => exact ⟨k + 1, a * 8 + ((xn : Int) - 48), rfl, by first | rfl | (congr 1; omega), by go_num, by omega, HN⟩
              case measure => simp [intOf]; omega
        · have HNO : Hid (∀ n, ¬ Good 8 bs n) := keepHid fun n hn => by have := HF.out n hn; omega
          have hv0 := bits_lo_u8 .or (xn : Int) 32
          have hv1 := bits_hi_u8 .or (xn : Int) 32
          have hu0 := bits_lo_u8 .or 95 32
          have hu1 := bits_hi_u8 .or 95 32
          clear HF
          go_wp2_with (refine (lower_any _ _).mono ?_; rintro e w' ⟨rfl, rfl⟩)
          all_goals
            go_ret2
            exact ⟨.inr ⟨0, 2, rfl, .inr ⟨rfl, rfl⟩, HNO.out⟩, HB.out⟩
      · obtain rfl : k = N := by omega
        have HN : Hid (∀ n, Good 8 bs n → a = (n : Int)) := keepHid fun n hn => by
          obtain ⟨acc, ha, _, hv⟩ := hfar n hn
          rw [HEND.out] at hv
          have : acc = n := Option.some.inj hv
          rw [ha, this]
        clear hfar
        go_wp2
        go_ret2
        exact ⟨.inl ⟨a, rfl, a0, a1, HN.out⟩, HB.out⟩


set_option maxRecDepth 100000 in
set_option maxHeartbeats 32000000 in
set_option maxRecDepth 100000 in
theorem parseUint10_any (bs : List UInt8) (hl : bs.length ≤ 65536) (w : World) :
    Calls Tryz.prog 107 #[.string (strB bs), .int .i64 10, .int .i64 64] w (UPost 10 bs w) := by
  by_cases h0 : bs = []
  · subst h0
    have hemp : (strB []).toList.isEmpty = true := by rw [strB_toList]; rfl
    go_enter Tryz.func107, Tryz.ntmps107
    go_wp2
    go_ret2
    exact ⟨.inr ⟨0, 2, rfl, .inr ⟨rfl, rfl⟩, fun n h => h.1 rfl⟩, Below.refl _ _⟩
  · have hemp : (strB bs).toList.isEmpty = false := by rw [strB_toList]; simpa using h0
    obtain ⟨cp, w1, hcv, hrow⟩ := run_str_bytes (P := Tryz.prog) w 9 31 5 bs Tryz.underlying9 Tryz.underlying31 Tryz.underlying5 (by omega)
    obtain ⟨N, hN⟩ : ∃ N, bs.length = N := ⟨_, rfl⟩
    have HB : Hid (Below w.heap.size w w1) := keepHid hrow.below
    have HY : Hid (Bys w1 (w.heap.size + 1) (some ⟨w.heap.size, 0, none⟩) N bs) := keepHid (by have := hrow.bys; rw [hN] at this; exact this)
    have hne : 1 ≤ N := by
      rcases Nat.eq_zero_or_pos N with h | h
      · exact absurd (List.eq_nil_of_length_eq_zero (by omega)) h0
      · exact h
    rw [hN] at hcv hl
    have HEND : Hid (bs.drop N = []) := keepHid (List.drop_eq_nil_of_le (by omega))
    have HSTART : Hid (Far 10 bs 0 0) := keepHid fun n h => ⟨0, rfl, by omega, h.2⟩
    have hmv : IntKind.u64.wrap (IntKind.u64.wrap 18446744073709551616 - 1) = 18446744073709551615 := by decide
    clear hrow h0 hN
    go_enter Tryz.func107, Tryz.ntmps107
    go_wp2
    go_loop [12, 13, 101] (fun vu vn vi => ∃ (k : Nat) (a : Int), vu = .bool false ∧ vn = .int .u64 a ∧ vi = .int .i64 k ∧ k ≤ N ∧ Hid (0 ≤ a ∧ a ≤ 18446744073709551615 ∧ Far 10 bs k a)) (fun _ _ vi => N - (intOf vi).toNat)
    case atStart => exact ⟨0, 0, rfl, rfl, rfl, by omega, keepHid ⟨by omega, by omega, HSTART.out⟩⟩
    case round =>
      obtain ⟨k, a, rfl, rfl, rfl, hk, hh⟩ := hrel
      obtain ⟨a0, a1, hfar⟩ := hh.out
      clear hh
      by_cases hkn : k < N
      · obtain ⟨ad, c, had, _, hx, hcell⟩ := HY.out.at_ hkn
        obtain rfl := Option.some.inj had
        have hadd : (⟨w.heap.size, 0, none⟩ : Addr).add k = ⟨w.heap.size, k, none⟩ := by unfold Addr.add; split <;> simp_all
        rw [hadd] at hcell
        obtain ⟨xn, hxn⟩ : ∃ xn, c.toNat = xn := ⟨_, rfl⟩
        have hlt : xn < 256 := by rw [← hxn]; exact c.toNat_lt
        have HF : Hid (∀ n, Good 10 bs n → 48 ≤ xn ∧ xn < 48 + 10 ∧ ∃ acc : Nat, a = (acc : Int) ∧ acc * 10 + (xn - 48) < 9223372036854775808 ∧ valL 10 (bs.drop (k + 1)) (acc * 10 + (xn - 48)) = some n) := keepHid fun n hn => by rw [← hxn]; exact far_step hfar hx n hn
        rw [hxn] at hcell
        clear had hadd hx hxn hfar
        by_cases hdig : 48 ≤ xn ∧ xn ≤ 57
        · obtain ⟨d0, d1⟩ := hdig
          have i0 : (48 : Int) ≤ (xn : Int) := by omega
          have i1 : (xn : Int) ≤ 57 := by omega
          by_cases hcut : 1844674407370955162 ≤ a
          · have HNO : Hid (∀ n, ¬ Good 10 bs n) := keepHid fun n hn => by
              obtain ⟨_, _, acc, ha, h3, _⟩ := HF.out n hn
              omega
            clear HF
            go_wp2
            go_ret2
            exact ⟨.inr ⟨18446744073709551615, 1, rfl, .inl ⟨rfl, rfl⟩, HNO.out⟩, HB.out⟩
          · by_cases hov : 18446744073709551616 ≤ a * 10 + ((xn : Int) - 48)
            · have HNO : Hid (∀ n, ¬ Good 10 bs n) := keepHid fun n hn => by
                obtain ⟨_, _, acc, ha, h3, _⟩ := HF.out n hn
                omega
              have hwr : IntKind.u64.wrap (a * 10 + ((xn : Int) - 48)) = a * 10 + ((xn : Int) - 48) - 18446744073709551616 := by rw [IntKind.wrap_u64]; omega
              have icut : a < 1844674407370955162 := by omega
              clear HF hcut
              go_wp2
              go_ret2
              exact ⟨.inr ⟨18446744073709551615, 1, rfl, .inl ⟨rfl, rfl⟩, HNO.out⟩, HB.out⟩
            · have HN : Hid (0 ≤ a * 10 + ((xn : Int) - 48) ∧ a * 10 + ((xn : Int) - 48) ≤ 18446744073709551615 ∧ Far 10 bs (k + 1) (a * 10 + ((xn : Int) - 48))) := keepHid ⟨by omega, by omega, fun n hn => by
                obtain ⟨h1, h2, acc, ha, h3, h4⟩ := HF.out n hn
                exact ⟨acc * 10 + (xn - 48), by omega, h3, h4⟩⟩
              have icut : a < 1844674407370955162 := by omega
              have iov : a * 10 + ((xn : Int) - 48) < 18446744073709551616 := by omega
              clear HF hcut hov
              go_wp2
              go_round
              case rel => exact ⟨k + 1, a * 10 + ((xn : Int) - 48), rfl, by first | rfl | (congr 1; omega), by go_num, by omega, HN⟩
              case measure => simp [intOf]; omega
        · have HNO : Hid (∀ n, ¬ Good 10 bs n) := keepHid fun n hn => by have := HF.out n hn; omega
          have hv0 := bits_lo_u8 .or (xn : Int) 32
          have hv1 := bits_hi_u8 .or (xn : Int) 32
          have hu0 := bits_lo_u8 .or 95 32
          have hu1 := bits_hi_u8 .or 95 32
          clear HF
          go_wp2_with (refine (lower_any _ _).mono ?_; rintro e w' ⟨rfl, rfl⟩)
          all_goals
            go_ret2
            exact ⟨.inr ⟨0, 2, rfl, .inr ⟨rfl, rfl⟩, HNO.out⟩, HB.out⟩
      · obtain rfl : k = N := by omega
        have HN : Hid (∀ n, Good 10 bs n → a = (n : Int)) := keepHid fun n hn => by
          obtain ⟨acc, ha, _, hv⟩ := hfar n hn
          rw [HEND.out] at hv
          have : acc = n := Option.some.inj hv
          rw [ha, this]
        clear hfar
        go_wp2
        go_ret2
        exact ⟨.inl ⟨a, rfl, a0, a1, HN.out⟩, HB.out⟩


theorem valL_lt {b : Nat} : ∀ (l : List UInt8) (acc n : Nat), valL b l acc = some n → acc < 9223372036854775808 → n < 9223372036854775808
  | [], acc, n, h, ha => by rw [valL] at h; have := Option.some.inj h; omega
  | c :: r, acc, n, h, _ => by
    obtain ⟨_, _, h3, h4⟩ := valL_cons h
    exact valL_lt r _ n h4 h3
theorem good_lt {b : Nat} {bs : List UInt8} {n : Nat} (h : Good b bs n) : n < 9223372036854775808 := valL_lt bs 0 n h.2 (by omega)
theorem good_head {b : Nat} {c : UInt8} {r : List UInt8} {n : Nat} (h : Good b (c :: r) n) : 48 ≤ c.toNat := (valL_cons h.2).1
theorem run_drop1 (c : UInt8) (r : List UInt8) (W : World) : (Instr.slice 9 (.string (strB (c :: r))) (some (.int .i64 1)) none none).run Tryz.prog W = .ok (.string (strB r)) W := by
  rw [run_slice_string_l W 9 (strB (c :: r)) Tryz.underlying9 .i64 1 (by omega) (by rw [strB_size]; simp; omega)]
  have h := strB_drop (c :: r) 1
  rw [strB_size]
  show Result.ok (Value.string ((strB (c :: r)).extract 1 _)) W = _
  rw [h]; rfl

/-- What the library's reading of a number answers. -/
def IPost (b : Nat) (bs : List UInt8) (w : World) (e : Ending) (w' : World) : Prop :=
  ((∃ v : Int, e = .returned (.tuple #[.int .i64 v, .nilIface]) ∧ -9223372036854775808 ≤ v ∧ v ≤ 9223372036854775807 ∧ ∀ n, Good b bs n → v = (n : Int)) ∨
   (∃ v k : Int, e = .returned (.tuple #[.int .i64 v, .iface 170 (.int .i64 k)]) ∧ (k = 1 ∨ k = 2) ∧ ∀ n, ¬ Good b bs n)) ∧ Below w.heap.size w w'
theorem neq11 (W : World) : (binOp .neq 94 (.iface 170 (.int .i64 1)) (.iface 170 (.int .i64 1))).run Tryz.prog W = .ok (.bool false) W := Lib.run_neq_iface_int W 1 1 Tryz.underlying94 (by kernel_rfl) Tryz.underlying170
theorem neq21 (W : World) : (binOp .neq 94 (.iface 170 (.int .i64 2)) (.iface 170 (.int .i64 1))).run Tryz.prog W = .ok (.bool true) W := Lib.run_neq_iface_int W 2 1 Tryz.underlying94 (by kernel_rfl) Tryz.underlying170

set_option maxRecDepth 100000 in
set_option maxHeartbeats 32000000 in
set_option maxRecDepth 100000 in
theorem parseInt8_any (bs : List UInt8) (hl : bs.length ≤ 65536) (w : World) :
    Calls Tryz.prog 136 #[.string (strB bs), .int .i64 8, .int .i64 64] w (IPost 8 bs w) := by
  have q11 := neq11
  have q21 := neq21
  rcases bs with _ | ⟨c, r⟩
  · have hemp : (strB []).toList.isEmpty = true := by rw [strB_toList]; rfl
    go_enter Tryz.func136, Tryz.ntmps136
    go_wp2
    go_ret2
    exact ⟨.inr ⟨0, 2, rfl, .inr rfl, fun n h => h.1 rfl⟩, Below.refl _ _⟩
  · have hdrop := run_drop1 c r
    have HHEAD : Hid (∀ n, Good 8 (c :: r) n → 48 ≤ c.toNat) := keepHid fun n hn => good_head hn
    have hlr : r.length + 1 ≤ 65536 := by simpa using hl
    obtain ⟨bs, hbs⟩ : ∃ bs, c :: r = bs := ⟨_, rfl⟩
    have hemp : (strB (c :: r)).toList.isEmpty = false := by rw [strB_toList]; rfl
    have hidx := fun w => run_idx (l := c :: r) (k := 0) (c := c) rfl 0 rfl w
    rw [hbs] at hdrop HHEAD hl hemp hidx ⊢
    clear hbs
    obtain ⟨x, hx⟩ : ∃ x, c.toNat = x := ⟨_, rfl⟩
    have hx256 : x < 256 := by rw [← hx]; exact c.toNat_lt
    rw [hx] at HHEAD hidx
    clear hx
    by_cases hp : x = 43
    · subst hp
      have HSIGN : Hid (∀ n, ¬ Good 8 bs n) := keepHid fun n hn => by have := HHEAD.out n hn; omega
      clear HHEAD
      go_enter Tryz.func136, Tryz.ntmps136
      go_wp2_with fail
      refine (parseUint8_any r (by omega) _).mono ?_
      rintro e w1 ⟨⟨u, rfl, u0, u1, hgood⟩ | ⟨u, k, rfl, hk, hno⟩, hb⟩
      · have HB := keepHid hb
        have HG := keepHid hgood
        clear hb hgood
        by_cases hu : 9223372036854775808 ≤ u
        · have HNO : Hid (∀ n, ¬ Good 8 bs n) := keepHid HSIGN.out
          go_wp2
          go_ret2
          exact ⟨.inr ⟨_, 1, rfl, .inl rfl, HNO.out⟩, HB.out⟩
        · have HYES : Hid (∀ n, Good 8 bs n → u = (n : Int)) := keepHid fun n hn => absurd hn (HSIGN.out n)
          have hlt : u < 9223372036854775808 := by omega
          have hwr : IntKind.i64.wrap u = u := by rw [IntKind.wrap_i64]; omega
          go_wp2
          go_ret2
          exact ⟨.inl ⟨_, rfl, by omega, by omega, HYES.out⟩, HB.out⟩
      · have HB := keepHid hb
        have HNO : Hid (∀ n, ¬ Good 8 bs n) := keepHid (HSIGN.out)
        clear hb hno
        rcases hk with ⟨rfl, rfl⟩ | ⟨rfl, rfl⟩
        · go_wp2
          go_ret2
          exact ⟨.inr ⟨_, 1, rfl, .inl rfl, HNO.out⟩, HB.out⟩
        · go_wp2
          go_ret2
          exact ⟨.inr ⟨0, 2, rfl, .inr rfl, HNO.out⟩, HB.out⟩
    · by_cases hm : x = 45
      · subst hm
        have HSIGN : Hid (∀ n, ¬ Good 8 bs n) := keepHid fun n hn => by have := HHEAD.out n hn; omega
        clear HHEAD
        go_enter Tryz.func136, Tryz.ntmps136
        go_wp2_with fail
        refine (parseUint8_any r (by omega) _).mono ?_
        rintro e w1 ⟨⟨u, rfl, u0, u1, hgood⟩ | ⟨u, k, rfl, hk, hno⟩, hb⟩
        · have HB := keepHid hb
          have HG := keepHid hgood
          clear hb hgood
          by_cases hu : 9223372036854775808 < u
          · have HNO : Hid (∀ n, ¬ Good 8 bs n) := keepHid HSIGN.out
            go_wp2
            go_ret2
            exact ⟨.inr ⟨_, 1, rfl, .inl rfl, HNO.out⟩, HB.out⟩
          · have HYES : Hid (∀ (v : Int) n, Good 8 bs n → v = (n : Int)) := keepHid fun v n hn => absurd hn (HSIGN.out n)
            have hle : u ≤ 9223372036854775808 := by omega
            go_wp2
            go_ret2
            exact ⟨.inl ⟨_, rfl, by unfold wrap64; omega, by unfold wrap64; omega, HYES.out _⟩, HB.out⟩
        · have HB := keepHid hb
          have HNO : Hid (∀ n, ¬ Good 8 bs n) := keepHid (HSIGN.out)
          clear hb hno
          rcases hk with ⟨rfl, rfl⟩ | ⟨rfl, rfl⟩
          · go_wp2
            go_ret2
            exact ⟨.inr ⟨_, 1, rfl, .inl rfl, HNO.out⟩, HB.out⟩
          · go_wp2
            go_ret2
            exact ⟨.inr ⟨0, 2, rfl, .inr rfl, HNO.out⟩, HB.out⟩
      · have n43 : ((x : Int) == 43) = false := by simp; omega
        have n45 : ((x : Int) == 45) = false := by simp; omega
        clear HHEAD
        go_enter Tryz.func136, Tryz.ntmps136
        go_wp2_with fail
        refine (parseUint8_any bs (by omega) _).mono ?_
        rintro e w1 ⟨⟨u, rfl, u0, u1, hgood⟩ | ⟨u, k, rfl, hk, hno⟩, hb⟩
        · have HB := keepHid hb
          have HG := keepHid hgood
          clear hb hgood
          by_cases hu : 9223372036854775808 ≤ u
          · have HNO : Hid (∀ n, ¬ Good 8 bs n) := keepHid fun n hn => by have h1 := HG.out n hn; have h2 := good_lt hn; omega
            go_wp2
            go_ret2
            exact ⟨.inr ⟨_, 1, rfl, .inl rfl, HNO.out⟩, HB.out⟩
          · have HYES : Hid (∀ n, Good 8 bs n → u = (n : Int)) := keepHid HG.out
            have hlt : u < 9223372036854775808 := by omega
            have hwr : IntKind.i64.wrap u = u := by rw [IntKind.wrap_i64]; omega
            go_wp2
            go_ret2
            exact ⟨.inl ⟨_, rfl, by omega, by omega, HYES.out⟩, HB.out⟩
        · have HB := keepHid hb
          have HNO : Hid (∀ n, ¬ Good 8 bs n) := keepHid (hno)
          clear hb hno
          rcases hk with ⟨rfl, rfl⟩ | ⟨rfl, rfl⟩
          · go_wp2
            go_ret2
            exact ⟨.inr ⟨_, 1, rfl, .inl rfl, HNO.out⟩, HB.out⟩
          · go_wp2
            go_ret2
            exact ⟨.inr ⟨0, 2, rfl, .inr rfl, HNO.out⟩, HB.out⟩

set_option maxRecDepth 100000 in
set_option maxHeartbeats 32000000 in
set_option maxRecDepth 100000 in
theorem parseInt10_any (bs : List UInt8) (hl : bs.length ≤ 65536) (w : World) :
    Calls Tryz.prog 136 #[.string (strB bs), .int .i64 10, .int .i64 64] w (IPost 10 bs w) := by
  have q11 := neq11
  have q21 := neq21
  rcases bs with _ | ⟨c, r⟩
  · have hemp : (strB []).toList.isEmpty = true := by rw [strB_toList]; rfl
    go_enter Tryz.func136, Tryz.ntmps136
    go_wp2
    go_ret2
    exact ⟨.inr ⟨0, 2, rfl, .inr rfl, fun n h => h.1 rfl⟩, Below.refl _ _⟩
  · have hdrop := run_drop1 c r
    have HHEAD : Hid (∀ n, Good 10 (c :: r) n → 48 ≤ c.toNat) := keepHid fun n hn => good_head hn
    have hlr : r.length + 1 ≤ 65536 := by simpa using hl
    obtain ⟨bs, hbs⟩ : ∃ bs, c :: r = bs := ⟨_, rfl⟩
    have hemp : (strB (c :: r)).toList.isEmpty = false := by rw [strB_toList]; rfl
    have hidx := fun w => run_idx (l := c :: r) (k := 0) (c := c) rfl 0 rfl w
    rw [hbs] at hdrop HHEAD hl hemp hidx ⊢
    clear hbs
    obtain ⟨x, hx⟩ : ∃ x, c.toNat = x := ⟨_, rfl⟩
    have hx256 : x < 256 := by rw [← hx]; exact c.toNat_lt
    rw [hx] at HHEAD hidx
    clear hx
    by_cases hp : x = 43
    · subst hp
      have HSIGN : Hid (∀ n, ¬ Good 10 bs n) := keepHid fun n hn => by have := HHEAD.out n hn; omega
      clear HHEAD
      go_enter Tryz.func136, Tryz.ntmps136
      go_wp2_with fail
      refine (parseUint10_any r (by omega) _).mono ?_
      rintro e w1 ⟨⟨u, rfl, u0, u1, hgood⟩ | ⟨u, k, rfl, hk, hno⟩, hb⟩
      · have HB := keepHid hb
        have HG := keepHid hgood
        clear hb hgood
        by_cases hu : 9223372036854775808 ≤ u
        · have HNO : Hid (∀ n, ¬ Good 10 bs n) := keepHid HSIGN.out
          go_wp2
          go_ret2
          exact ⟨.inr ⟨_, 1, rfl, .inl rfl, HNO.out⟩, HB.out⟩
        · have HYES : Hid (∀ n, Good 10 bs n → u = (n : Int)) := keepHid fun n hn => absurd hn (HSIGN.out n)
          have hlt : u < 9223372036854775808 := by omega
          have hwr : IntKind.i64.wrap u = u := by rw [IntKind.wrap_i64]; omega
          go_wp2
          go_ret2
          exact ⟨.inl ⟨_, rfl, by omega, by omega, HYES.out⟩, HB.out⟩
      · have HB := keepHid hb
        have HNO : Hid (∀ n, ¬ Good 10 bs n) := keepHid (HSIGN.out)
        clear hb hno
        rcases hk with ⟨rfl, rfl⟩ | ⟨rfl, rfl⟩
        · go_wp2
          go_ret2
          exact ⟨.inr ⟨_, 1, rfl, .inl rfl, HNO.out⟩, HB.out⟩
        · go_wp2
          go_ret2
          exact ⟨.inr ⟨0, 2, rfl, .inr rfl, HNO.out⟩, HB.out⟩
    · by_cases hm : x = 45
      · subst hm
        have HSIGN : Hid (∀ n, ¬ Good 10 bs n) := keepHid fun n hn => by have := HHEAD.out n hn; omega
        clear HHEAD
        go_enter Tryz.func136, Tryz.ntmps136
        go_wp2_with fail
        refine (parseUint10_any r (by omega) _).mono ?_
        rintro e w1 ⟨⟨u, rfl, u0, u1, hgood⟩ | ⟨u, k, rfl, hk, hno⟩, hb⟩
        · have HB := keepHid hb
          have HG := keepHid hgood
          clear hb hgood
          by_cases hu : 9223372036854775808 < u
          · have HNO : Hid (∀ n, ¬ Good 10 bs n) := keepHid HSIGN.out
            go_wp2
            go_ret2
            exact ⟨.inr ⟨_, 1, rfl, .inl rfl, HNO.out⟩, HB.out⟩
          · have HYES : Hid (∀ (v : Int) n, Good 10 bs n → v = (n : Int)) := keepHid fun v n hn => absurd hn (HSIGN.out n)
            have hle : u ≤ 9223372036854775808 := by omega
            go_wp2
            go_ret2
            exact ⟨.inl ⟨_, rfl, by unfold wrap64; omega, by unfold wrap64; omega, HYES.out _⟩, HB.out⟩
        · have HB := keepHid hb
          have HNO : Hid (∀ n, ¬ Good 10 bs n) := keepHid (HSIGN.out)
          clear hb hno
          rcases hk with ⟨rfl, rfl⟩ | ⟨rfl, rfl⟩
          · go_wp2
            go_ret2
            exact ⟨.inr ⟨_, 1, rfl, .inl rfl, HNO.out⟩, HB.out⟩
          · go_wp2
            go_ret2
            exact ⟨.inr ⟨0, 2, rfl, .inr rfl, HNO.out⟩, HB.out⟩
      · have n43 : ((x : Int) == 43) = false := by simp; omega
        have n45 : ((x : Int) == 45) = false := by simp; omega
        clear HHEAD
        go_enter Tryz.func136, Tryz.ntmps136
        go_wp2_with fail
        refine (parseUint10_any bs (by omega) _).mono ?_
        rintro e w1 ⟨⟨u, rfl, u0, u1, hgood⟩ | ⟨u, k, rfl, hk, hno⟩, hb⟩
        · have HB := keepHid hb
          have HG := keepHid hgood
          clear hb hgood
          by_cases hu : 9223372036854775808 ≤ u
          · have HNO : Hid (∀ n, ¬ Good 10 bs n) := keepHid fun n hn => by have h1 := HG.out n hn; have h2 := good_lt hn; omega
            go_wp2
            go_ret2
            exact ⟨.inr ⟨_, 1, rfl, .inl rfl, HNO.out⟩, HB.out⟩
          · have HYES : Hid (∀ n, Good 10 bs n → u = (n : Int)) := keepHid HG.out
            have hlt : u < 9223372036854775808 := by omega
            have hwr : IntKind.i64.wrap u = u := by rw [IntKind.wrap_i64]; omega
            go_wp2
            go_ret2
            exact ⟨.inl ⟨_, rfl, by omega, by omega, HYES.out⟩, HB.out⟩
        · have HB := keepHid hb
          have HNO : Hid (∀ n, ¬ Good 10 bs n) := keepHid (hno)
          clear hb hno
          rcases hk with ⟨rfl, rfl⟩ | ⟨rfl, rfl⟩
          · go_wp2
            go_ret2
            exact ⟨.inr ⟨_, 1, rfl, .inl rfl, HNO.out⟩, HB.out⟩
          · go_wp2
            go_ret2
            exact ⟨.inr ⟨0, 2, rfl, .inr rfl, HNO.out⟩, HB.out⟩

/-! ### The public one, and 'value' -/
def PPost (b : Nat) (bs : List UInt8) (w : World) (e : Ending) (w' : World) : Prop :=
  ((∃ v : Int, e = .returned (.tuple #[.int .i64 v, .nilIface]) ∧ -9223372036854775808 ≤ v ∧ v ≤ 9223372036854775807 ∧ ∀ n, Good b bs n → v = (n : Int)) ∨
   (∃ (v : Int) (te : TypeId) (pe : Value), e = .returned (.tuple #[.int .i64 v, .iface te pe]) ∧ ∀ n, ¬ Good b bs n)) ∧ Below w.heap.size w w'
def VPost (b : Nat) (bs : List UInt8) (w : World) (e : Ending) (w' : World) : Prop :=
  (∃ v : Int, e = .returned (.int .i64 v) ∧ -9223372036854775808 ≤ v ∧ v ≤ 9223372036854775807 ∧ ∀ n, Good b bs n → v = (n : Int)) ∧ Below w.heap.size w w'

set_option maxRecDepth 100000 in
set_option maxHeartbeats 4000000 in
theorem pubInt8_any (bs : List UInt8) (hl : bs.length ≤ 65536) (w : World) (hE : Errs w) :
    Calls Tryz.prog 128 #[.string (strB bs), .int .i64 8, .int .i64 64] w (PPost 8 bs w) := by
  have HE := keepHid hE
  clear hE
  go_enter Tryz.func128, Tryz.ntmps128
  go_wp2_with fail
  refine (parseInt8_any bs hl _).mono ?_
  rintro e w1 ⟨⟨v, rfl, v0, v1, hgood⟩ | ⟨v, k, rfl, hk, hno⟩, hb⟩
  · have HB := keepHid hb
    have HG := keepHid hgood
    clear hb hgood
    go_wp2
    go_ret2
    exact ⟨.inl ⟨v, rfl, v0, v1, HG.out⟩, HB.out⟩
  · have HB := keepHid hb
    have HNO := keepHid hno
    obtain ⟨⟨te, pe, h2⟩, tr, pr, h3⟩ := HE.out.below hb (Nat.le_refl _)
    clear hb hno
    have hlim : (strB bs).size ≤ 281474976710656 := by rw [strB_size]; omega
    rcases hk with rfl | rfl
    · go_wp2_with fail
      refine (Tryz.strconv_toError_range _ _ _ _ _ _ hlim h3 (.inr ⟨_, _, rfl⟩)).mono ?_
      rintro e w2 ⟨N, rfl, _, _, hb2⟩
      have HB2 := keepHid (HB.out.trans (hb2.mono HB.out.size))
      clear hb2
      go_wp2
      go_ret2
      exact ⟨.inr ⟨v, _, _, rfl, HNO.out⟩, HB2.out⟩
    · go_wp2_with fail
      refine (Tryz.strconv_toError_syntax _ _ _ _ _ _ hlim h2 (.inr ⟨_, _, rfl⟩)).mono ?_
      rintro e w2 ⟨N, rfl, _, _, hb2⟩
      have HB2 := keepHid (HB.out.trans (hb2.mono HB.out.size))
      clear hb2
      go_wp2
      go_ret2
      exact ⟨.inr ⟨v, _, _, rfl, HNO.out⟩, HB2.out⟩
theorem value8_any (bs : List UInt8) (hl : bs.length ≤ 65536) (w : World) (hE : Errs w) :
    Calls Tryz.prog 112 #[.string (strB bs), .int .i64 8] w (VPost 8 bs w) := by
  have HE := keepHid hE
  clear hE
  go_enter Tryz.func112, Tryz.ntmps112
  go_wp2_with fail
  refine (pubInt8_any bs hl _ HE.out).mono ?_
  rintro e w1 ⟨⟨v, rfl, v0, v1, hgood⟩ | ⟨v, te, pe, rfl, hno⟩, hb⟩
  · have HB := keepHid hb
    have HG := keepHid hgood
    clear hb hgood
    go_wp2
    go_ret
    exact ⟨⟨v, rfl, v0, v1, HG.out⟩, HB.out⟩
  · have HB := keepHid hb
    have HNO := keepHid hno
    clear hb hno
    go_wp2
    go_ret
    exact ⟨⟨0, rfl, by omega, by omega, fun n hn => absurd hn (HNO.out n)⟩, HB.out⟩

set_option maxRecDepth 100000 in
set_option maxHeartbeats 4000000 in
theorem pubInt10_any (bs : List UInt8) (hl : bs.length ≤ 65536) (w : World) (hE : Errs w) :
    Calls Tryz.prog 128 #[.string (strB bs), .int .i64 10, .int .i64 64] w (PPost 10 bs w) := by
  have HE := keepHid hE
  clear hE
  go_enter Tryz.func128, Tryz.ntmps128
  go_wp2_with fail
  refine (parseInt10_any bs hl _).mono ?_
  rintro e w1 ⟨⟨v, rfl, v0, v1, hgood⟩ | ⟨v, k, rfl, hk, hno⟩, hb⟩
  · have HB := keepHid hb
    have HG := keepHid hgood
    clear hb hgood
    go_wp2
    go_ret2
    exact ⟨.inl ⟨v, rfl, v0, v1, HG.out⟩, HB.out⟩
  · have HB := keepHid hb
    have HNO := keepHid hno
    obtain ⟨⟨te, pe, h2⟩, tr, pr, h3⟩ := HE.out.below hb (Nat.le_refl _)
    clear hb hno
    have hlim : (strB bs).size ≤ 281474976710656 := by rw [strB_size]; omega
    rcases hk with rfl | rfl
    · go_wp2_with fail
      refine (Tryz.strconv_toError_range _ _ _ _ _ _ hlim h3 (.inr ⟨_, _, rfl⟩)).mono ?_
      rintro e w2 ⟨N, rfl, _, _, hb2⟩
      have HB2 := keepHid (HB.out.trans (hb2.mono HB.out.size))
      clear hb2
      go_wp2
      go_ret2
      exact ⟨.inr ⟨v, _, _, rfl, HNO.out⟩, HB2.out⟩
    · go_wp2_with fail
      refine (Tryz.strconv_toError_syntax _ _ _ _ _ _ hlim h2 (.inr ⟨_, _, rfl⟩)).mono ?_
      rintro e w2 ⟨N, rfl, _, _, hb2⟩
      have HB2 := keepHid (HB.out.trans (hb2.mono HB.out.size))
      clear hb2
      go_wp2
      go_ret2
      exact ⟨.inr ⟨v, _, _, rfl, HNO.out⟩, HB2.out⟩
theorem value10_any (bs : List UInt8) (hl : bs.length ≤ 65536) (w : World) (hE : Errs w) :
    Calls Tryz.prog 112 #[.string (strB bs), .int .i64 10] w (VPost 10 bs w) := by
  have HE := keepHid hE
  clear hE
  go_enter Tryz.func112, Tryz.ntmps112
  go_wp2_with fail
  refine (pubInt10_any bs hl _ HE.out).mono ?_
  rintro e w1 ⟨⟨v, rfl, v0, v1, hgood⟩ | ⟨v, te, pe, rfl, hno⟩, hb⟩
  · have HB := keepHid hb
    have HG := keepHid hgood
    clear hb hgood
    go_wp2
    go_ret
    exact ⟨⟨v, rfl, v0, v1, HG.out⟩, HB.out⟩
  · have HB := keepHid hb
    have HNO := keepHid hno
    clear hb hno
    go_wp2
    go_ret
    exact ⟨⟨0, rfl, by omega, by omega, fun n hn => absurd hn (HNO.out n)⟩, HB.out⟩
end Go.Proofs.YtonloefjhofeeaaGreatDoor
