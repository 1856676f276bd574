/-
  A number's text in base 16: what the library writes of it (a text for cuts that write numbers in base 8 too).
-/
import Derived.Test.YtonloefjhofeeaaGreatDoorHeaderNum
import Derived.Test.YtonloefjhofeeaaGreatDoorTokenPlain
import Derived.Deep.DeepCutAuto
import Derived.WalkKit
import Derived.ProofKit
import Derived.WalkLawsBesides
import Derived.IntWalk
import Derived.RegionTactic
import Derived.BigRegion
import Derived.ChangeAlike
import Derived.Deep.QuietTactic
import Derived.BigQuiet
import Derived.Deep.RegionHeld3
import Derived.Deep.DrawnRows
import Derived.Outline
import Derived.Test.YtonloefjhofeeaaGreatDoorConv
import Derived.Test.YtonloefjhofeeaaGreatDoorStr
namespace Go.Proofs.YtonloefjhofeeaaGreatDoor
open Go.RowKit
set_option linter.unusedVariables false

/-- What numbers in base 16 are written by. -/
def Four (w : World) : Prop := w.cell? ⟨3, 15, none⟩ = some (.int .u8 4)
theorem Four.below {w w' : World} {B : Nat} (h : Four w) (hb : Below B w w') (hB : w.heap.size ≤ B) : Four w' := (hb.cell (show _ < B by show 3 < B; have := lt_of_cell (show w.cell? ⟨3, 15, none⟩ = some (.int .u8 4) from h); omega)).trans h
theorem trail64_16 (w : World) (h : w.cell? ⟨3, 15, none⟩ = some (.int .u8 4)) :
    Calls Tryz.prog 110 #[.int .u64 16] w fun e w' => e = .returned (.int .i64 4) ∧ w = w' := by
  have e1 : IntKind.u64.wrap (-16) = 18446744073709551600 := by decide
  have e2 : bits .and .u64 16 18446744073709551600 = 16 := by decide
  have e3 : IntKind.u64.wrap (16 * 285870213051353865) = 4573923408821661840 := by decide
  go_enter Tryz.func110, Tryz.ntmps110
  go_wp2
  go_ret
  exact ⟨rfl, rfl⟩
theorem trail_16 (w : World) (h : w.cell? ⟨3, 15, none⟩ = some (.int .u8 4)) :
    Calls Tryz.prog 100 #[.int .u64 16] w fun e w' => e = .returned (.int .i64 4) ∧ w = w' := by
  go_enter Tryz.func100, Tryz.ntmps100
  go_wp2_with (refine (trail64_16 _ h).mono ?_; rintro e w' ⟨rfl, rfl⟩)
  go_ret
  exact ⟨rfl, rfl⟩
theorem power16 (w : World) : Calls Tryz.prog 99 #[.int .i64 16] w fun e w' => e = .returned (.bool true) ∧ w = w' := by
  go_enter Tryz.func99, Tryz.ntmps99
  go_wp2
  go_ret
  exact ⟨rfl, rfl⟩
/-- A digit is looked up. -/
theorem dig16_at (d : Nat) (hd : d < 16) (w : World) : (Instr.index 9 (.string ⟨#[48, 49, 50, 51, 52, 53, 54, 55, 56, 57, 97, 98, 99, 100, 101, 102, 103, 104, 105, 106, 107, 108, 109, 110, 111, 112, 113, 114, 115, 116, 117, 118, 119, 120, 121, 122]⟩) (.int .u64 (d : Int))).run Tryz.prog w = .ok (.int .u8 ((chr d).toNat : Int)) w := by
  rcases (by omega : d = 0 ∨ d = 1 ∨ d = 2 ∨ d = 3 ∨ d = 4 ∨ d = 5 ∨ d = 6 ∨ d = 7 ∨ d = 8 ∨ d = 9 ∨ d = 10 ∨ d = 11 ∨ d = 12 ∨ d = 13 ∨ d = 14 ∨ d = 15) with rfl | rfl | rfl | rfl | rfl | rfl | rfl | rfl | rfl | rfl | rfl | rfl | rfl | rfl | rfl | rfl <;> kernel_rfl
theorem and15 (v : Nat) (hv : v < 18446744073709551616) : bits .and .u64 (v : Int) 15 = ((v % 16 : Nat) : Int) := by
  have h := u64_and_nat v 15 hv (by omega)
  rw [show ((15 : Nat) : Int) = 15 from rfl] at h
  rw [h, Nat.and_two_pow_sub_one_eq_mod v 4]
theorem dig16_step {v : Nat} (h : 16 ≤ v) (t : List UInt8) : digL 16 (v / 16) ++ chr (v % 16) :: t = digL 16 v ++ t := by
  rw [digL_ge (b := 16) h (by omega), List.append_assoc]; rfl
theorem dig16_len {u : Nat} (h : u < 18446744073709551616) : (digL 16 u).length ≤ 16 := digL_len (by omega) u 15 h
attribute [local irreducible] zrow
set_option maxRecDepth 100000 in
theorem bits16_any (u : Nat) (hu : u < 18446744073709551616)  (w : World) (h : w.cell? ⟨3, 15, none⟩ = some (.int .u8 4)) :
    Calls Tryz.prog 88 #[.slice none 0 0, .int .u64 (u : Int), .int .i64 16, .bool false, .bool false] w fun e w' => e = .returned (.tuple #[.slice none 0 0, .string (strB (digL 16 u))]) ∧ Below w.heap.size w w' := by
  have hzw := zero_65
  have hg := lt_of_cell h
  obtain ⟨w1, hw1⟩ : ∃ w1, w.alloc (.cells (zrow 65) 155) = w1 := ⟨_, rfl⟩
  have hb1 : Blk w1 w.heap.size 155 (byteVals (zeros 65)) := by rw [← hw1, ← zrow_def]; exact Blk.new w _ _
  have hbel : Below w.heap.size w w1 := by rw [← hw1]; exact (Below.refl _ _).alloc (Nat.le_refl _) _
  have h1 : w1.cell? ⟨3, 15, none⟩ = some (.int .u8 4) := (hbel.cell hg).trans h
  have HB := keepHid hb1
  have HW := keepHid hbel
  have HU := keepHid hu
  clear hb1 hbel h hg hu
  go_enter Tryz.func88, Tryz.ntmps88
  go_wp2_with (first
    | (refine (power16 _).mono ?_; rintro e w' ⟨rfl, rfl⟩)
    | (refine (trail_16 _ h1).mono ?_; rintro e w' ⟨rfl, rfl⟩))
  clear hw1 h1
  go_loopw [1, 13] (fun x i wr => ∃ (v k : Nat) (cs t : List UInt8), x = .int .u64 (v : Int) ∧ i = .int .i64 (k : Int) ∧ cs.length = 65 ∧ k + t.length = 65 ∧ Hid (v < 18446744073709551616) ∧ cs.drop k = t ∧ digL 16 v ++ t = digL 16 u ∧ Blk wr w.heap.size 155 (byteVals cs) ∧ Below w.heap.size w wr) (fun x _ _ => (intOf x).toNat)
  case atStart => exact ⟨u, 65, zeros 65, [], rfl, rfl, zeros_len _, rfl, HU, List.drop_eq_nil_of_le (by rw [zeros_len]; omega), by simp, HB.out, HW.out⟩
  case round =>
    obtain ⟨v, k, cs, t, rfl, rfl, hcl, hkt, hv, hdrop, hdig, hb, hbel⟩ := hrel
    have hlen := congrArg List.length hdig
    have hd1 := dig16_len HU.out
    have hd2 : 1 ≤ (digL 16 v).length := by
      cases hx : digL 16 v with
      | nil => exact absurd hx (digL_ne _ _)
      | cons a b => simp
    rw [List.length_append] at hlen
    obtain ⟨j, rfl⟩ : ∃ j, k = j + 1 := ⟨k - 1, by omega⟩
    have hj : j < 65 := by omega
    have hj48 : 49 ≤ j + 1 := by omega
    obtain ⟨y, hy, hyc⟩ := byteVals_at (cs := cs) (i := j) (by omega)
    have hpc : wr.cell? ⟨w.heap.size, j, none⟩ = some (.int .u8 (y.toNat : Int)) := (hb.cell j).trans hyc
    have hpf : wr.frozen? ⟨w.heap.size, j, none⟩ = false := hb.frozen j
    have HD := keepHid hdig
    have HBK := keepHid hb
    have HBL := keepHid hbel
    have HDR := keepHid hdrop
    clear hdig hb hbel hdrop hlen hd1 hd2 hy hyc
    have hjj : ((j + 1 : Nat) : Int) - 1 = (j : Int) := by omega
    by_cases h8 : 16 ≤ v
    · obtain ⟨d, hd⟩ : ∃ d, v % 16 = d := ⟨_, rfl⟩
      obtain ⟨c, hc⟩ : ∃ c, chr d = c := ⟨_, rfl⟩
      have hd8 : d < 16 := by rw [← hd]; exact Nat.mod_lt _ (by omega)
      have hidx := dig16_at d (by omega)
      have hand := and15 v hv.out
      rw [hd] at hand
      rw [hc] at hidx
      have HC : Hid (chr (v % 16) = c) := keepHid (by rw [hd]; exact hc)
      clear hd hc
      have hge : ¬ ((v : Int) < 16) := by omega
      go_wp2
      go_roundw
      case rel =>
        refine ⟨v / 16, j, cs.set j c, c :: t, by push_cast; rfl, rfl, by rw [List.length_set]; exact hcl, by simp; omega, keepHid (Nat.lt_of_le_of_lt (Nat.div_le_self _ _) hv.out), ?_, ?_, ?_, ?_⟩
        · rw [drop_set (by omega), HDR.out]
        · rw [← HD.out, ← dig16_step h8, HC.out]
        · rw [← byteVals_set]; exact HBK.out.put j _
        · exact HBL.out.setCell (p := ⟨w.heap.size, j, none⟩) (Nat.le_refl _) _
      case measure => simp [intOf]; omega
    · obtain ⟨c, hc⟩ : ∃ c, chr v = c := ⟨_, rfl⟩
      have hidx := dig16_at v (by omega)
      rw [hc] at hidx
      have hall : c :: t = digL 16 u := by rw [← HD.out, digL_lt (b := 16) (by omega), hc]; rfl
      have hblk : Blk (wr.setCell ⟨w.heap.size, j, none⟩ (.int .u8 (c.toNat : Int))) w.heap.size 155 (byteVals (cs.set j c)) := by rw [← byteVals_set]; exact HBK.out.put j _
      have hbel2 : Below w.heap.size w (wr.setCell ⟨w.heap.size, j, none⟩ (.int .u8 (c.toNat : Int))) := HBL.out.setCell (p := ⟨w.heap.size, j, none⟩) (Nat.le_refl _) _
      have hset : (cs.set j c).drop j = digL 16 u := by rw [drop_set (by omega), HDR.out, hall]
      have hsl' : (cs.set j c).length = 65 := by rw [List.length_set]; exact hcl
      have hbys := bys_of_blk hblk (j := j) (n := 65 - j) (by rw [List.length_set]; omega) (by rw [List.length_set]; omega)
      rw [hset] at hbys
      have hconv := run_str (P := Tryz.prog) (c := 65 - j) 31 5 9 Tryz.underlying31 Tryz.underlying5 Tryz.underlying9 hbys
      have HBL2 := keepHid hbel2
      clear hc hall hblk hbys hbel2 hset hsl'
      have hlt : (v : Int) < 16 := by omega
      have hsl := slice65 w.heap.size j hj
      go_wp2
      go_ret2
      exact ⟨rfl, HBL2.out⟩

theorem wrap_pos {n : Nat} (h : n < 9223372036854775808) : IntKind.u64.wrap (n : Int) = (n : Int) := by rw [IntKind.wrap_u64]; omega
theorem hex16_in (u : Nat) (hu : u < 9223372036854775808) (w : World) (h : Four w) :
    Calls Tryz.prog 74 #[.int .i64 (u : Int), .int .i64 16] w fun e w' => e = .returned (.string (strB (digL 16 u))) ∧ Below w.heap.size w w' := by
  have HB := keepHid (bits16_any u (by omega) w h)
  have hw := wrap_pos hu
  clear h hu
  go_enter Tryz.func74, Tryz.ntmps74
  go_wp2_with (refine HB.out.mono ?_; rintro e w' ⟨rfl, hb⟩; have HB2 := keepHid hb; clear hb)
  go_ret
  exact ⟨rfl, HB2.out⟩
theorem hex16_any (u : Nat) (hu : u < 9223372036854775808) (w : World) (h : Four w) :
    Calls Tryz.prog 60 #[.int .i64 (u : Int), .int .i64 16] w fun e w' => e = .returned (.string (strB (digL 16 u))) ∧ Below w.heap.size w w' := by
  have HB := keepHid (hex16_in u hu w h)
  clear hu
  go_enter Tryz.func60, Tryz.ntmps60
  go_wp2_with (refine HB.out.mono ?_; rintro e w' ⟨rfl, hb⟩; have HB2 := keepHid hb; clear hb)
  go_ret
  exact ⟨rfl, HB2.out⟩


/-- A text that is a number below 2^32 in base 16. -/
def Hx (bs : List UInt8) : Prop := bs ≠ [] ∧ (∀ c ∈ bs, hexL.contains c = true) ∧ valB 16 bs 0 < 4294967296
theorem hx_dig {n : Nat} (h : n < 4294967296) : Hx (digL 16 n) := ⟨digL_ne _ _, fun c hc => digL_all (b := 16) (.inr rfl) n c hc, by rw [val_dig (b := 16) (.inr rfl)]; exact h⟩
/-- What the library's reading of a number answers. -/
def UH (bs : List UInt8) (w : World) (e : Ending) (w' : World) : Prop :=
  ((∃ a : Nat, e = .returned (.tuple #[.int .u64 (a : Int), .nilIface]) ∧ a ≤ 4294967295 ∧ (Hx bs → valB 16 bs 0 = a)) ∨
   (∃ (a : Nat) (k : Int), e = .returned (.tuple #[.int .u64 (a : Int), .iface 170 (.int .i64 k)]) ∧ a ≤ 4294967295 ∧ (k = 1 ∨ k = 2) ∧ ¬ Hx bs)) ∧ Below w.heap.size w w'
theorem lowerx_any (c : Int) (w : World) : Calls Tryz.prog 121 #[.int .u8 c] w fun e w' => e = .returned (.int .u8 (bits .or .u8 c 32)) ∧ w = w' := by
  go_enter Tryz.func121, Tryz.ntmps121
  go_wp2
  go_ret
  exact ⟨rfl, rfl⟩
theorem lower_is (x : Nat) (h : 97 ≤ x ∧ x ≤ 102) : bits .or .u8 (x : Int) 32 = (x : Int) := by
  rcases (by omega : x = 97 ∨ x = 98 ∨ x = 99 ∨ x = 100 ∨ x = 101 ∨ x = 102) with rfl | rfl | rfl | rfl | rfl | rfl <;> decide
theorem hval_step {b : Nat} {bs : List UInt8} {k : Nat} {c : UInt8} (h : bs[k]? = some c) : valB b (bs.take (k + 1)) 0 = valB b (bs.take k) 0 * b + dgt c := by
  rw [List.take_succ_of h, valB_snoc]
theorem hval_app (b : Nat) : ∀ (l r : List UInt8) (v : Nat), valB b (l ++ r) v = valB b r (valB b l v)
  | [], r, v => rfl
  | a :: l, r, v => hval_app b l r (v * b + dgt a)
theorem hval_le {b : Nat} (hb : 1 ≤ b) (bs : List UInt8) (k : Nat) : valB b (bs.take k) 0 ≤ valB b bs 0 := by
  have : bs = bs.take k ++ bs.drop k := (List.take_append_drop k bs).symm
  rw [this, hval_app, ← this]
  exact valB_ge hb _ _
theorem hrng : ∀ c ∈ hexL, (48 ≤ c.toNat ∧ c.toNat ≤ 57 ∧ dgt c = c.toNat - 48) ∨ (97 ≤ c.toNat ∧ c.toNat ≤ 102 ∧ dgt c = c.toNat - 87) := by decide

set_option maxRecDepth 100000 in
set_option maxHeartbeats 32000000 in
theorem uhex_any (bs : List UInt8) (hl : bs.length ≤ 65536) (w : World) :
    Calls Tryz.prog 107 #[.string (strB bs), .int .i64 16, .int .i64 32] w (UH bs w) := by
  by_cases h0 : bs = []
  · subst h0
    have hemp : (strB []).toList.isEmpty = true := by rw [strB_toList]; rfl
    go_enter Tryz.func107, Tryz.ntmps107
    go_wp2
    go_ret2
    exact ⟨.inr ⟨0, 2, rfl, by omega, .inr rfl, fun h => h.1 rfl⟩, Below.refl _ _⟩
  · have hemp : (strB bs).toList.isEmpty = false := by rw [strB_toList]; simpa using h0
    obtain ⟨cp, w1, hcv, hrow⟩ := run_str_bytes (P := Tryz.prog) w 9 31 5 bs Tryz.underlying9 Tryz.underlying31 Tryz.underlying5 (by omega)
    obtain ⟨N, hN⟩ : ∃ N, bs.length = N := ⟨_, rfl⟩
    have HB : Hid (Below w.heap.size w w1) := keepHid hrow.below
    have HY : Hid (Bys w1 (w.heap.size + 1) (some ⟨w.heap.size, 0, none⟩) N bs) := keepHid (by have := hrow.bys; rw [hN] at this; exact this)
    have HM : Hid (∀ k, valB 16 (bs.take k) 0 ≤ valB 16 bs 0) := keepHid fun k => hval_le (by omega) bs k
    have HEND : Hid (bs.take N = bs) := keepHid (by rw [← hN, List.take_length])
    rw [hN] at hcv hl
    have hmv : IntKind.u64.wrap (IntKind.u64.wrap 4294967296 - 1) = 4294967295 := by decide
    clear hrow h0 hN
    go_enter Tryz.func107, Tryz.ntmps107
    go_wp2
    go_loop [12, 13, 101] (fun vu vn vi => ∃ (k a : Nat), vu = .bool false ∧ vn = .int .u64 (a : Int) ∧ vi = .int .i64 k ∧ k ≤ N ∧ a ≤ 4294967295 ∧ Hid (Hx bs → valB 16 (bs.take k) 0 = a)) (fun _ _ vi => N - (intOf vi).toNat)
    case atStart => exact ⟨0, 0, rfl, rfl, rfl, by omega, by omega, keepHid (fun _ => rfl)⟩
    case round =>
      obtain ⟨k, a, rfl, rfl, rfl, hk, ha, hh⟩ := hrel
      by_cases hkn : k < N
      · obtain ⟨ad, c, had, _, hx, hcell⟩ := HY.out.at_ hkn
        obtain rfl := Option.some.inj had
        have hadd : (⟨w.heap.size, 0, none⟩ : Addr).add k = ⟨w.heap.size, k, none⟩ := by unfold Addr.add; split <;> simp_all
        rw [hadd] at hcell
        obtain ⟨xn, hxn⟩ : ∃ xn, c.toNat = xn := ⟨_, rfl⟩
        have hlt : xn < 256 := by rw [← hxn]; exact c.toNat_lt
        have HF0 : Hid (Hx bs → ∃ dg, valB 16 (bs.take (k + 1)) 0 = a * 16 + dg ∧ ((48 ≤ xn ∧ xn ≤ 57 ∧ dg = xn - 48) ∨ (97 ≤ xn ∧ xn ≤ 102 ∧ dg = xn - 87))) := keepHid (fun hg => by
          refine ⟨dgt c, by rw [hval_step hx, hh.out hg], ?_⟩
          rw [← hxn]
          exact hrng c (List.contains_iff_mem.1 (hg.2.1 c (List.mem_of_getElem? hx))))
        rw [hxn] at hcell
        have hcut : (a : Int) ≤ 4294967295 := by omega
        clear had hadd hx hxn hh
        by_cases hdig : 48 ≤ xn ∧ xn ≤ 57
        · obtain ⟨d0, d1⟩ := hdig
          have i0 : (48 : Int) ≤ (xn : Int) := by omega
          have i1 : (xn : Int) ≤ 57 := by omega
          have HF : Hid (Hx bs → valB 16 (bs.take (k + 1)) 0 = a * 16 + (xn - 48)) := keepHid (fun hg => by
            obtain ⟨dg, h1, h2⟩ := HF0.out hg
            rw [h1]
            omega)
          clear HF0
          by_cases hov : 4294967295 < a * 16 + (xn - 48)
          · have HNO : Hid (¬ Hx bs) := keepHid (fun hg => by have h1 := HM.out (k + 1); rw [HF.out hg] at h1; have := hg.2.2; omega)
            have iov : (4294967295 : Int) < (a : Int) * 16 + ((xn : Int) - 48) := by omega
            have icut : ¬ (1152921504606846976 : Int) ≤ (a : Int) := by omega
            have hbig : (a : Int) * 16 + ((xn : Int) - 48) < 18446744073709551616 := by omega
            clear HF hov hcut
            go_wp2
            go_ret2
            exact ⟨.inr ⟨4294967295, 1, rfl, by omega, .inl rfl, HNO.out⟩, HB.out⟩
          · have iov : ¬ (4294967295 : Int) < (a : Int) * 16 + ((xn : Int) - 48) := by omega
            have icut : ¬ (1152921504606846976 : Int) ≤ (a : Int) := by omega
            have hsm : (a : Int) * 16 + ((xn : Int) - 48) ≤ 4294967295 := by omega
            have HN : Hid (((a * 16 + (xn - 48) : Nat) : Int) = (a : Int) * 16 + ((xn : Int) - 48)) := keepHid (by omega)
            have HK := HF
            clear HF hov hcut
            go_wp2
            go_round
            case rel => exact ⟨k + 1, a * 16 + (xn - 48), rfl, by first | (rw [HN.out]; done) | (rw [HN.out]; rfl) | (rw [HN.out]; congr 1; omega), by go_num, by omega, by omega, HK⟩
            case measure => simp [intOf]; omega
        · have hv0 := bits_lo_u8 .or (xn : Int) 32
          have hv1 := bits_hi_u8 .or (xn : Int) 32
          obtain ⟨y, hy⟩ : ∃ y : Nat, bits .or .u8 (xn : Int) 32 = (y : Int) := ⟨(bits .or .u8 (xn : Int) 32).toNat, by omega⟩
          have HF : Hid (Hx bs → y = xn ∧ 97 ≤ xn ∧ xn ≤ 102 ∧ valB 16 (bs.take (k + 1)) 0 = a * 16 + (xn - 87)) := keepHid (fun hg => by
            obtain ⟨dg, h1, h2⟩ := HF0.out hg
            rcases h2 with h2 | h2
            · omega
            · have h3 := lower_is xn ⟨h2.1, h2.2.1⟩
              rw [hy] at h3
              exact ⟨by omega, h2.1, h2.2.1, by rw [h1, h2.2.2]⟩)
          have HLO : Hid (∀ (z : Int) w, z = (xn : Int) → Calls Tryz.prog 121 #[.int .u8 z] w fun e w' => e = .returned (.int .u8 (y : Int)) ∧ w = w') := keepHid (fun z w hz => by rw [hz, ← hy]; exact lowerx_any _ w)
          have hu9 : xn = 95 → y = 127 := fun h => by rw [h] at hy; have : bits .or .u8 ((95 : Nat) : Int) 32 = 127 := by decide
                                                      omega
          have hy0 : y ≤ 255 := by omega
          have id : ¬ ((48 : Int) ≤ (xn : Int) ∧ (xn : Int) ≤ 57) := by omega
          clear HF0 hv0 hv1 hy
          have hq : xn < 48 ∨ 57 < xn := by omega
          by_cases hlet : 97 ≤ y ∧ y ≤ 102
          · obtain ⟨l0, l1⟩ := hlet
            have j0 : (97 : Int) ≤ (y : Int) := by omega
            have j1 : (y : Int) ≤ 102 := by omega
            have HKV : Hid (Hx bs → valB 16 (bs.take (k + 1)) 0 = a * 16 + (y - 87)) := keepHid (fun hg => by have h := HF.out hg; rw [h.2.2.2, h.1])
            have hu : ¬ (xn : Int) = 95 := fun h => by have := hu9 (by omega); omega
            clear HF hcut hu9
            by_cases hov : 4294967295 < a * 16 + (y - 87)
            · have HOV : Hid (4294967295 < a * 16 + (y - 87)) := keepHid hov
              have HNO : Hid (¬ Hx bs) := keepHid (fun hg => by have h1 := HM.out (k + 1); rw [HKV.out hg] at h1; have := hg.2.2; omega)
              clear HKV hov
              rcases hq with hq | hq
              all_goals
                have iq := Int.ofNat_lt.2 hq
                go_wp2_with fail
                refine (HLO.out _ _ (by omega)).mono ?_; rintro e w' ⟨rfl, rfl⟩
                go_wp2_with fail
                refine (HLO.out _ _ (by omega)).mono ?_; rintro e w' ⟨rfl, rfl⟩
                go_wp2_with fail
                refine (HLO.out _ _ (by omega)).mono ?_; rintro e w' ⟨rfl, rfl⟩
                go_upto_region 48 with fail
                have icut : ¬ (1152921504606846976 : Int) ≤ (a : Int) := by omega
                go_upto_region 50 with fail
                have iov : (4294967295 : Int) < (a : Int) * 16 + ((y : Int) - 87) := by have := HOV.out; omega
                have hbig : (a : Int) * 16 + ((y : Int) - 87) < 18446744073709551616 := by omega
                clear icut
                go_wp2
                go_ret2
                exact ⟨.inr ⟨4294967295, 1, rfl, by omega, .inl rfl, HNO.out⟩, HB.out⟩
            · have HOV : Hid (a * 16 + (y - 87) ≤ 4294967295) := keepHid (by omega)
              have HN : Hid (((a * 16 + (y - 87) : Nat) : Int) = (a : Int) * 16 + ((y : Int) - 87)) := keepHid (by omega)
              clear hov
              rcases hq with hq | hq
              all_goals
                have iq := Int.ofNat_lt.2 hq
                go_wp2_with fail
                refine (HLO.out _ _ (by omega)).mono ?_; rintro e w' ⟨rfl, rfl⟩
                go_wp2_with fail
                refine (HLO.out _ _ (by omega)).mono ?_; rintro e w' ⟨rfl, rfl⟩
                go_wp2_with fail
                refine (HLO.out _ _ (by omega)).mono ?_; rintro e w' ⟨rfl, rfl⟩
                go_upto_region 48 with fail
                have icut : ¬ (1152921504606846976 : Int) ≤ (a : Int) := by omega
                go_upto_region 50 with fail
                have iov : ¬ (4294967295 : Int) < (a : Int) * 16 + ((y : Int) - 87) := by have := HOV.out; omega
                have hsm : (a : Int) * 16 + ((y : Int) - 87) ≤ 4294967295 := by have := HOV.out; omega
                clear icut
                go_wp2
                go_round
                case rel => exact ⟨k + 1, a * 16 + (y - 87), rfl, by first | (rw [HN.out]; done) | (rw [HN.out]; rfl) | (rw [HN.out]; congr 1; omega), by go_num, by omega, HOV.out, HKV⟩
                case measure => simp [intOf]; omega
          · have HNO : Hid (¬ Hx bs) := keepHid (fun hg => by have h := HF.out hg; omega)
            clear HF hcut
            by_cases h95 : xn = 95
            · have hu8 := hu9 h95
              have iu : (xn : Int) = 95 := by omega
              have j0 : (122 : Int) < (y : Int) := by omega
              clear hu9 hq hlet
              go_wp2_with fail
              refine (HLO.out _ _ (by omega)).mono ?_; rintro e w' ⟨rfl, rfl⟩
              go_wp2_with fail
              refine (HLO.out _ _ (by omega)).mono ?_; rintro e w' ⟨rfl, rfl⟩
              go_wp2
              go_ret2
              exact ⟨.inr ⟨0, 2, rfl, by omega, .inr rfl, HNO.out⟩, HB.out⟩
            · have iu : ¬ (xn : Int) = 95 := by omega
              clear hu9
              rcases (by omega : y < 97 ∨ (103 ≤ y ∧ y ≤ 122) ∨ 122 < y) with hy1 | ⟨hy1, hy2⟩ | hy1
              · have j0 : (y : Int) < 97 := by omega
                rcases hq with hq | hq
                all_goals
                  have iq := Int.ofNat_lt.2 hq
                  go_wp2_with fail
                  refine (HLO.out _ _ (by omega)).mono ?_; rintro e w' ⟨rfl, rfl⟩
                  go_wp2
                  go_ret2
                  exact ⟨.inr ⟨0, 2, rfl, by omega, .inr rfl, HNO.out⟩, HB.out⟩
              · have j0 : (103 : Int) ≤ (y : Int) := by omega
                have j1 : (y : Int) ≤ 122 := by omega
                rcases hq with hq | hq
                all_goals
                  have iq := Int.ofNat_lt.2 hq
                  go_wp2_with fail
                  refine (HLO.out _ _ (by omega)).mono ?_; rintro e w' ⟨rfl, rfl⟩
                  go_wp2_with fail
                  refine (HLO.out _ _ (by omega)).mono ?_; rintro e w' ⟨rfl, rfl⟩
                  go_wp2_with fail
                  refine (HLO.out _ _ (by omega)).mono ?_; rintro e w' ⟨rfl, rfl⟩
                  go_wp2
                  go_ret2
                  exact ⟨.inr ⟨0, 2, rfl, by omega, .inr rfl, HNO.out⟩, HB.out⟩
              · have j0 : (122 : Int) < (y : Int) := by omega
                rcases hq with hq | hq
                all_goals
                  have iq := Int.ofNat_lt.2 hq
                  go_wp2_with fail
                  refine (HLO.out _ _ (by omega)).mono ?_; rintro e w' ⟨rfl, rfl⟩
                  go_wp2_with fail
                  refine (HLO.out _ _ (by omega)).mono ?_; rintro e w' ⟨rfl, rfl⟩
                  go_wp2
                  go_ret2
                  exact ⟨.inr ⟨0, 2, rfl, by omega, .inr rfl, HNO.out⟩, HB.out⟩
      · obtain rfl : k = N := by omega
        have HV : Hid (Hx bs → valB 16 bs 0 = a) := keepHid (fun hg => by rw [← hh.out hg, HEND.out])
        clear hh
        go_wp2
        go_ret2
        exact ⟨.inl ⟨a, rfl, by omega, HV.out⟩, HB.out⟩
end Go.Proofs.YtonloefjhofeeaaGreatDoor
