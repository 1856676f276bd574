/-
  A number's text: what the library writes of it in base 16 and 10.
-/
import Derived.Test.YtkhhcclomjfliaaGreatDoorTokenNum
import Derived.Test.YtkhhcclomjfliaaGreatDoorShelf
import Derived.Test.YtkhhcclomjfliaaGreatDoorManifestPlain
import Derived.Lib.ItoaNum
import Derived.Deep.DeepCutAuto
import Derived.WalkKit
import Derived.ProofKit
import Derived.WalkLawsBesides
import Derived.IntWalk
import Derived.RegionTactic
import Derived.BigRegion
import Derived.ChangeAlike
import Derived.Deep.QuietTactic
import Derived.BigQuiet
import Derived.Deep.RegionHeld3
import Derived.Deep.DrawnRows
import Derived.Outline
namespace Go.Proofs.YtkhhcclomjfliaaGreatDoor
open Go.RowKit
set_option linter.unusedVariables false

/-- What lies at start-up: the tables that numbers are written by, two errors. -/
structure NumT (w : World) : Prop where
  errs : Errs w
  pow : Lib.TabIs Tryz.prog w "internal/strconv.uint64pow10" .u64 Lib.pow10Tab
  four : w.cell? ⟨6, 15, none⟩ = some (.int .u8 4)
theorem gPow : Tryz.prog.globalNamed "internal/strconv.uint64pow10" = some 1 := by kernel_rfl
theorem lt_of_cell {w : World} {g i : Nat} {v : Value} (h : w.cell? ⟨g, i, none⟩ = some v) : g < w.heap.size := by
  rcases Nat.lt_or_ge g w.heap.size with hl | hl
  · exact hl
  · simp [World.cell?, Array.getElem?_eq_none hl] at h
theorem pow10_len : Lib.pow10Tab.length = 20 := Lib.pow10Tab_length
theorem NumT.below {w w' : World} {B : Nat} (h : NumT w) (hb : Below B w w') (hB : w.heap.size ≤ B) : NumT w' := by
  have h2 := lt_of_cell h.four
  exact ⟨h.errs.below hb hB, by
    have h1 := h.pow
    have hc := h1.cell gPow 0 (by rw [pow10_len]; omega)
    have hlt := lt_of_cell hc
    unfold Lib.TabIs World.var? at *
    rw [gPow] at *
    simp only [Option.bind_some] at *
    rw [hb.block _ (by omega)]
    exact h1, (hb.cell (show _ < B by show 6 < B; omega)).trans h.four⟩

theorem trail64_16 (w : World) (h : w.cell? ⟨6, 15, none⟩ = some (.int .u8 4)) :
    Calls Tryz.prog 97 #[.int .u64 16] w fun e w' => e = .returned (.int .i64 4) ∧ w = w' := by
  have e1 : IntKind.u64.wrap (-16) = 18446744073709551600 := by decide
  have e2 : bits .and .u64 16 18446744073709551600 = 16 := by decide
  have e3 : IntKind.u64.wrap (16 * 285870213051353865) = 4573923408821661840 := by decide
  go_enter Tryz.func97, Tryz.ntmps97
  go_wp2
  go_ret
  exact ⟨rfl, rfl⟩
theorem trail_16 (w : World) (h : w.cell? ⟨6, 15, none⟩ = some (.int .u8 4)) :
    Calls Tryz.prog 86 #[.int .u64 16] w fun e w' => e = .returned (.int .i64 4) ∧ w = w' := by
  go_enter Tryz.func86, Tryz.ntmps86
  go_wp2_with (refine (trail64_16 _ h).mono ?_; rintro e w' ⟨rfl, rfl⟩)
  go_ret
  exact ⟨rfl, rfl⟩
theorem power16 (w : World) : Calls Tryz.prog 85 #[.int .i64 16] w fun e w' => e = .returned (.bool true) ∧ w = w' := by
  go_enter Tryz.func85, Tryz.ntmps85
  go_wp2
  go_ret
  exact ⟨rfl, rfl⟩
/-- A digit is looked up. -/
theorem dig16_at (d : Nat) (hd : d < 16) (w : World) : (Instr.index 9 (.string ⟨#[48, 49, 50, 51, 52, 53, 54, 55, 56, 57, 97, 98, 99, 100, 101, 102, 103, 104, 105, 106, 107, 108, 109, 110, 111, 112, 113, 114, 115, 116, 117, 118, 119, 120, 121, 122]⟩) (.int .u64 (d : Int))).run Tryz.prog w = .ok (.int .u8 ((chr d).toNat : Int)) w := by
  rcases (by omega : d = 0 ∨ d = 1 ∨ d = 2 ∨ d = 3 ∨ d = 4 ∨ d = 5 ∨ d = 6 ∨ d = 7 ∨ d = 8 ∨ d = 9 ∨ d = 10 ∨ d = 11 ∨ d = 12 ∨ d = 13 ∨ d = 14 ∨ d = 15) with rfl | rfl | rfl | rfl | rfl | rfl | rfl | rfl | rfl | rfl | rfl | rfl | rfl | rfl | rfl | rfl <;> kernel_rfl
theorem and15 (v : Nat) (hv : v < 18446744073709551616) : bits .and .u64 (v : Int) 15 = ((v % 16 : Nat) : Int) := by
  have h := u64_and_nat v 15 hv (by omega)
  rw [show ((15 : Nat) : Int) = 15 from rfl] at h
  rw [h, Nat.and_two_pow_sub_one_eq_mod v 4]
theorem drop_set {cs : List UInt8} {j : Nat} {c : UInt8} (hj : j < cs.length) : (cs.set j c).drop j = c :: cs.drop (j + 1) := by
  rw [List.drop_eq_getElem_cons (by rw [List.length_set]; exact hj), List.getElem_set_self, List.drop_set_of_lt (by omega)]
theorem dig16_step {v : Nat} (h : 16 ≤ v) (t : List UInt8) : digL 16 (v / 16) ++ chr (v % 16) :: t = digL 16 v ++ t := by
  rw [digL_ge (b := 16) h (by omega), List.append_assoc]; rfl
theorem bys_of_blk {w : World} {g : Nat} {t : TypeId} {cs : List UInt8} (h : Blk w g t (byteVals cs)) {j n : Nat} (hj : j + n = cs.length) (hm : cs.length ≤ 65536) : Bys w (g + 1) (some ⟨g, j, none⟩) n (cs.drop j) := by
  refine ⟨by rw [List.length_drop]; omega, by unfold maxLen; omega, fun k c hk => ⟨_, rfl, Nat.lt_succ_self _, ?_⟩⟩
  have e : (⟨g, j, none⟩ : Addr).add k = ⟨g, j + k, none⟩ := by unfold Addr.add; split <;> simp_all
  rw [List.getElem?_drop] at hk
  have hlt : j + k < cs.length := by
    rcases Nat.lt_or_ge (j + k) cs.length with hl | hl
    · exact hl
    · rw [List.getElem?_eq_none hl] at hk; cases hk
  rw [e, h.cell]
  rw [List.getElem?_eq_getElem hlt] at hk
  simp [byteVals, hlt, Option.some.inj hk]

theorem under65 : Tryz.prog.underlying 149 = some (.array (Tryz.prog.arrayLen 149) (Tryz.prog.elem 149)) := by kernel_rfl
theorem len65 : Tryz.prog.arrayLen 149 = 65 := by kernel_rfl
theorem slice65 (g j : Nat) (hj : j < 65) (W : World) : (Instr.sliceAt 149 (.pointer (some ⟨g, 0, none⟩)) (some (.int .i64 (j : Int))) none none).run Tryz.prog W = .ok (.slice (some ⟨g, j, none⟩) (65 - j) (65 - j)) W := by
  rw [run_sliceAt_array_l W 149 ⟨g, 0, none⟩ under65 .i64 (j : Int) (by omega) (by rw [len65]; omega)]
  have hs : (sizeOf (Tryz.prog.elem 149)).run Tryz.prog W = .ok 1 W := by kernel_rfl
  rw [hs, len65]
  have e : (⟨g, 0, none⟩ : Addr).add (j * 1) = ⟨g, j, none⟩ := by unfold Addr.add; split <;> simp_all
  show Result.ok (slicedAt _ _ _ _ _) W = _
  unfold slicedAt
  rw [Int.toNat_natCast, if_neg (by omega), e]

theorem zrow_def (n : Nat) : zrow n = byteVals (zeros n) := rfl
theorem zero_65 (w : World) : (zeroValue 149).run Tryz.prog w = .ok (.agg (zrow 65)) w := by kernel_rfl
theorem dig16_len {u : Nat} (h : u < 18446744073709551616) : (digL 16 u).length ≤ 16 := digL_len (by omega) u 15 h
attribute [local irreducible] zrow
set_option maxRecDepth 100000 in
theorem bits16_any (u : Nat) (hu : u < 18446744073709551616)  (w : World) (h : w.cell? ⟨6, 15, none⟩ = some (.int .u8 4)) :
    Calls Tryz.prog 72 #[.slice none 0 0, .int .u64 (u : Int), .int .i64 16, .bool false, .bool false] w fun e w' => e = .returned (.tuple #[.slice none 0 0, .string (strB (digL 16 u))]) ∧ Below w.heap.size w w' := by
  have hzw := zero_65
  have hg := lt_of_cell h
  obtain ⟨w1, hw1⟩ : ∃ w1, w.alloc (.cells (zrow 65) 149) = w1 := ⟨_, rfl⟩
  have hb1 : Blk w1 w.heap.size 149 (byteVals (zeros 65)) := by rw [← hw1, ← zrow_def]; exact Blk.new w _ _
  have hbel : Below w.heap.size w w1 := by rw [← hw1]; exact (Below.refl _ _).alloc (Nat.le_refl _) _
  have h1 : w1.cell? ⟨6, 15, none⟩ = some (.int .u8 4) := (hbel.cell hg).trans h
  have HB := keepHid hb1
  have HW := keepHid hbel
  have HU := keepHid hu
  clear hb1 hbel h hg hu
  go_enter Tryz.func72, Tryz.ntmps72
  go_wp2_with (first
    | (refine (power16 _).mono ?_; rintro e w' ⟨rfl, rfl⟩)
    | (refine (trail_16 _ h1).mono ?_; rintro e w' ⟨rfl, rfl⟩))
  clear hw1 h1
  go_loopw [1, 13] (fun x i wr => ∃ (v k : Nat) (cs t : List UInt8), x = .int .u64 (v : Int) ∧ i = .int .i64 (k : Int) ∧ cs.length = 65 ∧ k + t.length = 65 ∧ Hid (v < 18446744073709551616) ∧ cs.drop k = t ∧ digL 16 v ++ t = digL 16 u ∧ Blk wr w.heap.size 149 (byteVals cs) ∧ Below w.heap.size w wr) (fun x _ _ => (intOf x).toNat)
  case atStart => exact ⟨u, 65, zeros 65, [], rfl, rfl, zeros_len _, rfl, HU, List.drop_eq_nil_of_le (by rw [zeros_len]; omega), by simp, HB.out, HW.out⟩
  case round =>
    obtain ⟨v, k, cs, t, rfl, rfl, hcl, hkt, hv, hdrop, hdig, hb, hbel⟩ := hrel
    have hlen := congrArg List.length hdig
    have hd1 := dig16_len HU.out
    have hd2 : 1 ≤ (digL 16 v).length := by
      cases hx : digL 16 v with
      | nil => exact absurd hx (digL_ne _ _)
      | cons a b => simp
    rw [List.length_append] at hlen
    obtain ⟨j, rfl⟩ : ∃ j, k = j + 1 := ⟨k - 1, by omega⟩
    have hj : j < 65 := by omega
    have hj48 : 49 ≤ j + 1 := by omega
    obtain ⟨y, hy, hyc⟩ := byteVals_at (cs := cs) (i := j) (by omega)
    have hpc : wr.cell? ⟨w.heap.size, j, none⟩ = some (.int .u8 (y.toNat : Int)) := (hb.cell j).trans hyc
    have hpf : wr.frozen? ⟨w.heap.size, j, none⟩ = false := hb.frozen j
    have HD := keepHid hdig
    have HBK := keepHid hb
    have HBL := keepHid hbel
    have HDR := keepHid hdrop
    clear hdig hb hbel hdrop hlen hd1 hd2 hy hyc
    have hjj : ((j + 1 : Nat) : Int) - 1 = (j : Int) := by omega
    by_cases h8 : 16 ≤ v
    · obtain ⟨d, hd⟩ : ∃ d, v % 16 = d := ⟨_, rfl⟩
      obtain ⟨c, hc⟩ : ∃ c, chr d = c := ⟨_, rfl⟩
      have hd8 : d < 16 := by rw [← hd]; exact Nat.mod_lt _ (by omega)
      have hidx := dig16_at d (by omega)
      have hand := and15 v hv.out
      rw [hd] at hand
      rw [hc] at hidx
      have HC : Hid (chr (v % 16) = c) := keepHid (by rw [hd]; exact hc)
      clear hd hc
      have hge : ¬ ((v : Int) < 16) := by omega
      go_wp2
      go_roundw
      case rel =>
        refine ⟨v / 16, j, cs.set j c, c :: t, by push_cast; rfl, rfl, by rw [List.length_set]; exact hcl, by simp; omega, keepHid (Nat.lt_of_le_of_lt (Nat.div_le_self _ _) hv.out), ?_, ?_, ?_, ?_⟩
        · rw [drop_set (by omega), HDR.out]
        · rw [← HD.out, ← dig16_step h8, HC.out]
        · rw [← byteVals_set]; exact HBK.out.put j _
        · exact HBL.out.setCell (p := ⟨w.heap.size, j, none⟩) (Nat.le_refl _) _
      case measure => simp [intOf]; omega
    · obtain ⟨c, hc⟩ : ∃ c, chr v = c := ⟨_, rfl⟩
      have hidx := dig16_at v (by omega)
      rw [hc] at hidx
      have hall : c :: t = digL 16 u := by rw [← HD.out, digL_lt (b := 16) (by omega), hc]; rfl
      have hblk : Blk (wr.setCell ⟨w.heap.size, j, none⟩ (.int .u8 (c.toNat : Int))) w.heap.size 149 (byteVals (cs.set j c)) := by rw [← byteVals_set]; exact HBK.out.put j _
      have hbel2 : Below w.heap.size w (wr.setCell ⟨w.heap.size, j, none⟩ (.int .u8 (c.toNat : Int))) := HBL.out.setCell (p := ⟨w.heap.size, j, none⟩) (Nat.le_refl _) _
      have hset : (cs.set j c).drop j = digL 16 u := by rw [drop_set (by omega), HDR.out, hall]
      have hsl' : (cs.set j c).length = 65 := by rw [List.length_set]; exact hcl
      have hbys := bys_of_blk hblk (j := j) (n := 65 - j) (by rw [List.length_set]; omega) (by rw [List.length_set]; omega)
      rw [hset] at hbys
      have hconv := run_str (P := Tryz.prog) (c := 65 - j) 62 5 9 Tryz.underlying62 Tryz.underlying5 Tryz.underlying9 hbys
      have HBL2 := keepHid hbel2
      clear hc hall hblk hbys hbel2 hset hsl'
      have hlt : (v : Int) < 16 := by omega
      have hsl := slice65 w.heap.size j hj
      go_wp2
      go_ret2
      exact ⟨rfl, HBL2.out⟩

set_option maxRecDepth 100000 in
theorem bits16_neg (u : Nat) (hu : u < 18446744073709551616) (z : Int) (hz : IntKind.u64.wrap (-z) = (u : Int)) (w : World) (h : w.cell? ⟨6, 15, none⟩ = some (.int .u8 4)) :
    Calls Tryz.prog 72 #[.slice none 0 0, .int .u64 z, .int .i64 16, .bool true, .bool false] w fun e w' => e = .returned (.tuple #[.slice none 0 0, .string (strB (45 :: digL 16 u))]) ∧ Below w.heap.size w w' := by
  have hzw := zero_65
  have hg := lt_of_cell h
  obtain ⟨w1, hw1⟩ : ∃ w1, w.alloc (.cells (zrow 65) 149) = w1 := ⟨_, rfl⟩
  have hb1 : Blk w1 w.heap.size 149 (byteVals (zeros 65)) := by rw [← hw1, ← zrow_def]; exact Blk.new w _ _
  have hbel : Below w.heap.size w w1 := by rw [← hw1]; exact (Below.refl _ _).alloc (Nat.le_refl _) _
  have h1 : w1.cell? ⟨6, 15, none⟩ = some (.int .u8 4) := (hbel.cell hg).trans h
  have HB := keepHid hb1
  have HW := keepHid hbel
  have HU := keepHid hu
  clear hb1 hbel h hg hu
  go_enter Tryz.func72, Tryz.ntmps72
  go_wp2_with (first
    | (refine (power16 _).mono ?_; rintro e w' ⟨rfl, rfl⟩)
    | (refine (trail_16 _ h1).mono ?_; rintro e w' ⟨rfl, rfl⟩))
  clear hw1 h1 hz
  go_loopw [1, 13] (fun x i wr => ∃ (v k : Nat) (cs t : List UInt8), x = .int .u64 (v : Int) ∧ i = .int .i64 (k : Int) ∧ cs.length = 65 ∧ k + t.length = 65 ∧ Hid (v < 18446744073709551616) ∧ cs.drop k = t ∧ digL 16 v ++ t = digL 16 u ∧ Blk wr w.heap.size 149 (byteVals cs) ∧ Below w.heap.size w wr) (fun x _ _ => (intOf x).toNat)
  case atStart => exact ⟨u, 65, zeros 65, [], rfl, rfl, zeros_len _, rfl, HU, List.drop_eq_nil_of_le (by rw [zeros_len]; omega), by simp, HB.out, HW.out⟩
  case round =>
    obtain ⟨v, k, cs, t, rfl, rfl, hcl, hkt, hv, hdrop, hdig, hb, hbel⟩ := hrel
    have hlen := congrArg List.length hdig
    have hd1 := dig16_len HU.out
    have hd2 : 1 ≤ (digL 16 v).length := by
      cases hx : digL 16 v with
      | nil => exact absurd hx (digL_ne _ _)
      | cons a b => simp
    rw [List.length_append] at hlen
    obtain ⟨j, rfl⟩ : ∃ j, k = j + 1 := ⟨k - 1, by omega⟩
    have hj : j < 65 := by omega
    have hj48 : 49 ≤ j + 1 := by omega
    obtain ⟨y, hy, hyc⟩ := byteVals_at (cs := cs) (i := j) (by omega)
    have hpc : wr.cell? ⟨w.heap.size, j, none⟩ = some (.int .u8 (y.toNat : Int)) := (hb.cell j).trans hyc
    have hpf : wr.frozen? ⟨w.heap.size, j, none⟩ = false := hb.frozen j
    have HD := keepHid hdig
    have HBK := keepHid hb
    have HBL := keepHid hbel
    have HDR := keepHid hdrop
    clear hdig hb hbel hdrop hlen hd1 hd2 hy hyc
    have hjj : ((j + 1 : Nat) : Int) - 1 = (j : Int) := by omega
    by_cases h8 : 16 ≤ v
    · obtain ⟨d, hd⟩ : ∃ d, v % 16 = d := ⟨_, rfl⟩
      obtain ⟨c, hc⟩ : ∃ c, chr d = c := ⟨_, rfl⟩
      have hd8 : d < 16 := by rw [← hd]; exact Nat.mod_lt _ (by omega)
      have hidx := dig16_at d (by omega)
      have hand := and15 v hv.out
      rw [hd] at hand
      rw [hc] at hidx
      have HC : Hid (chr (v % 16) = c) := keepHid (by rw [hd]; exact hc)
      clear hd hc
      have hge : ¬ ((v : Int) < 16) := by omega
      go_wp2
      go_roundw
      case rel =>
        refine ⟨v / 16, j, cs.set j c, c :: t, by push_cast; rfl, rfl, by rw [List.length_set]; exact hcl, by simp; omega, keepHid (Nat.lt_of_le_of_lt (Nat.div_le_self _ _) hv.out), ?_, ?_, ?_, ?_⟩
        · rw [drop_set (by omega), HDR.out]
        · rw [← HD.out, ← dig16_step h8, HC.out]
        · rw [← byteVals_set]; exact HBK.out.put j _
        · exact HBL.out.setCell (p := ⟨w.heap.size, j, none⟩) (Nat.le_refl _) _
      case measure => simp [intOf]; omega
    · obtain ⟨c, hc⟩ : ∃ c, chr v = c := ⟨_, rfl⟩
      have hidx := dig16_at v (by omega)
      rw [hc] at hidx
      have hall : c :: t = digL 16 u := by rw [← HD.out, digL_lt (b := 16) (by omega), hc]; rfl
      have hblk : Blk (wr.setCell ⟨w.heap.size, j, none⟩ (.int .u8 (c.toNat : Int))) w.heap.size 149 (byteVals (cs.set j c)) := by rw [← byteVals_set]; exact HBK.out.put j _
      have hbel2 : Below w.heap.size w (wr.setCell ⟨w.heap.size, j, none⟩ (.int .u8 (c.toNat : Int))) := HBL.out.setCell (p := ⟨w.heap.size, j, none⟩) (Nat.le_refl _) _
      have hset : (cs.set j c).drop j = digL 16 u := by rw [drop_set (by omega), HDR.out, hall]
      have hsl' : (cs.set j c).length = 65 := by rw [List.length_set]; exact hcl
      obtain ⟨i, rfl⟩ : ∃ i, j = i + 1 := ⟨j - 1, by omega⟩
      generalize cs.set (i + 1) c = cs' at *
      obtain ⟨y2, hy2, hyc2⟩ := byteVals_at (cs := cs') (i := i) (by omega)
      have hii : ((i + 1 : Nat) : Int) - 1 = (i : Int) := by omega
      obtain ⟨w3, hw3⟩ : ∃ w3, wr.setCell ⟨w.heap.size, i + 1, none⟩ (.int .u8 (c.toNat : Int)) = w3 := ⟨_, rfl⟩
      rw [hw3] at hblk hbel2
      have hpc2 : w3.cell? ⟨w.heap.size, i, none⟩ = some (.int .u8 (y2.toNat : Int)) := (hblk.cell i).trans hyc2
      have hpf2 : w3.frozen? ⟨w.heap.size, i, none⟩ = false := hblk.frozen i
      have hblk3 : Blk (w3.setCell ⟨w.heap.size, i, none⟩ (.int .u8 45)) w.heap.size 149 (byteVals (cs'.set i 45)) := by rw [← byteVals_set]; exact hblk.put i _
      have hbys := bys_of_blk hblk3 (j := i) (n := 65 - i) (by rw [List.length_set]; omega) (by rw [List.length_set]; omega)
      rw [drop_set (by omega), hset] at hbys
      have hconv := run_str (P := Tryz.prog) (c := 65 - i) 62 5 9 Tryz.underlying62 Tryz.underlying5 Tryz.underlying9 hbys
      have hbel3 : Below w.heap.size w (w3.setCell ⟨w.heap.size, i, none⟩ (.int .u8 45)) := hbel2.setCell (p := ⟨w.heap.size, i, none⟩) (Nat.le_refl _) _
      have HBL2 := keepHid hbel3
      clear hc hall hblk hblk3 hbys hbel2 hbel3 hy2 hyc2 hset hsl'
      have hlt : (v : Int) < 16 := by omega
      have hsl := slice65 w.heap.size i (by omega)
      go_wp2
      go_ret2
      exact ⟨rfl, HBL2.out⟩

theorem grow_below {w : World} (k : Nat) (os : Array Obj) : Below w.heap.size w (Sort.grow (w.drewN k) os) := by
  refine ⟨rfl, rfl, rfl, ?_, fun i hi => ?_⟩
  · show w.heap.size ≤ (w.heap ++ os).size
    rw [Array.size_append]; omega
  · show (w.heap ++ os)[i]? = _
    rw [Array.getElem?_append_left hi]
theorem itoa_num (n : Int) : Lib.itoa n = numL 10 n := by
  have h : ∀ n : Nat, Lib.decDigits n = digL 10 n := by
    intro n
    induction n using Nat.strongRecOn with
    | ind n ih =>
      have hc : ∀ k, k < 10 → UInt8.ofNat (48 + k) = chr k := by
        intro k hk
        rcases (by omega : k = 0 ∨ k = 1 ∨ k = 2 ∨ k = 3 ∨ k = 4 ∨ k = 5 ∨ k = 6 ∨ k = 7 ∨ k = 8 ∨ k = 9) with rfl | rfl | rfl | rfl | rfl | rfl | rfl | rfl | rfl | rfl <;> rfl
      rw [Lib.decDigits]
      split
      · rename_i h; rw [digL_lt h, hc n h]
      · rename_i h; rw [digL_ge (by omega) (by omega), ih (n / 10) (by omega), hc _ (Nat.mod_lt _ (by omega))]
  unfold Lib.itoa numL
  split
  · rw [h]; first | rfl | (congr 2; omega)
  · rw [h]
theorem itoa_any (n : Int) (h0 : -9223372036854775808 ≤ n ∧ n ≤ 9223372036854775807) (w : World) (h : NumT w) :
    Calls Tryz.prog 38 #[.int .i64 n] w fun e w' => e = .returned (.string (strB (numL 10 n))) ∧ Below w.heap.size w w' := by
  refine (Tryz.strconv_Itoa n h0.1 h0.2 w h.pow).mono ?_
  rintro e w' ⟨rfl, k, os, rfl⟩
  exact ⟨by rw [← itoa_num]; rfl, grow_below k os⟩
theorem wrap_pos {n : Nat} (h : n < 9223372036854775808) : IntKind.u64.wrap (n : Int) = (n : Int) := by rw [IntKind.wrap_u64]; omega
theorem wrap_neg {n : Nat} (h : 1 ≤ n) (h2 : n ≤ 9223372036854775808) : IntKind.u64.wrap (-(IntKind.u64.wrap (-(n : Int)))) = (n : Int) := by rw [IntKind.wrap_u64, IntKind.wrap_u64]; omega
theorem fmt16_in (n : Int) (h0 : -9223372036854775808 ≤ n ∧ n ≤ 9223372036854775807) (w : World) (h : NumT w) :
    Calls Tryz.prog 58 #[.int .i64 n, .int .i64 16] w fun e w' => e = .returned (.string (strB (numL 16 n))) ∧ Below w.heap.size w w' := by
  have h4 := h.four
  by_cases hn : n < 0
  · obtain ⟨u, rfl, hu1, hu2⟩ : ∃ u : Nat, n = -(u : Int) ∧ 1 ≤ u ∧ u ≤ 9223372036854775808 := ⟨(-n).toNat, by omega, by omega, by omega⟩
    have hz := wrap_neg hu1 hu2
    have HB := keepHid (bits16_neg u (by omega) _ hz w h4)
    have HN : Hid (numL 16 (-(u : Int)) = 45 :: digL 16 u) := keepHid (by unfold numL; rw [if_pos hn]; congr 2; omega)
    clear hz hu2 h0 hn h h4
    obtain ⟨z, hz⟩ : ∃ z, IntKind.u64.wrap (-(u : Int)) = z := ⟨_, rfl⟩
    rw [hz] at HB
    have hneg : -(u : Int) < 0 := by omega
    generalize -(u : Int) = m at *
    clear hu1
    go_enter Tryz.func58, Tryz.ntmps58
    go_wp2_with (refine HB.out.mono ?_; rintro e w' ⟨rfl, hb⟩; have HB2 := keepHid hb; clear hb)
    go_ret
    exact ⟨by rw [HN.out]; rfl, HB2.out⟩
  · obtain ⟨u, rfl, hu⟩ : ∃ u : Nat, n = (u : Int) ∧ u < 9223372036854775808 := ⟨n.toNat, by omega, by omega⟩
    have HB := keepHid (bits16_any u (by omega) w h4)
    have HN : Hid (numL 16 (u : Int) = digL 16 u) := keepHid (by unfold numL; rw [if_neg hn]; rfl)
    have hw := wrap_pos hu
    clear h0 h h4 hu
    go_enter Tryz.func58, Tryz.ntmps58
    go_wp2_with (refine HB.out.mono ?_; rintro e w' ⟨rfl, hb⟩; have HB2 := keepHid hb; clear hb)
    go_ret
    exact ⟨by rw [HN.out]; rfl, HB2.out⟩
theorem fmt16_any (n : Int) (h0 : -9223372036854775808 ≤ n ∧ n ≤ 9223372036854775807) (w : World) (h : NumT w) :
    Calls Tryz.prog 37 #[.int .i64 n, .int .i64 16] w fun e w' => e = .returned (.string (strB (numL 16 n))) ∧ Below w.heap.size w w' := by
  have HB := keepHid (fmt16_in n h0 w h)
  clear h0
  go_enter Tryz.func37, Tryz.ntmps37
  go_wp2_with (refine HB.out.mono ?_; rintro e w' ⟨rfl, hb⟩; have HB2 := keepHid hb; clear hb)
  go_ret
  exact ⟨rfl, HB2.out⟩
theorem fmtu_in (u : Nat) (hu : u < 4294967296) (w : World) (h : NumT w) :
    Calls Tryz.prog 60 #[.int .u64 (u : Int), .int .i64 16] w fun e w' => e = .returned (.string (strB (numL 16 (u : Int)))) ∧ Below w.heap.size w w' := by
  have HB := keepHid (bits16_any u (by omega) w h.four)
  have HN : Hid (numL 16 (u : Int) = digL 16 u) := keepHid (by unfold numL; rw [if_neg (by omega)]; rfl)
  clear h hu
  go_enter Tryz.func60, Tryz.ntmps60
  go_wp2_with (refine HB.out.mono ?_; rintro e w' ⟨rfl, hb⟩; have HB2 := keepHid hb; clear hb)
  go_ret
  exact ⟨by rw [HN.out]; rfl, HB2.out⟩
theorem fmtu_any (n : Int) (hn : 0 ≤ n ∧ n ≤ 4294967295) (w : World) (h : NumT w) :
    Calls Tryz.prog 39 #[.int .u64 n, .int .i64 16] w fun e w' => e = .returned (.string (strB (numL 16 n))) ∧ Below w.heap.size w w' := by
  obtain ⟨u, rfl⟩ : ∃ u : Nat, n = (u : Int) := ⟨n.toNat, by omega⟩
  have HB := keepHid (fmtu_in u (by omega) w h)
  clear hn
  go_enter Tryz.func39, Tryz.ntmps39
  go_wp2_with (refine HB.out.mono ?_; rintro e w' ⟨rfl, hb⟩; have HB2 := keepHid hb; clear hb)
  go_ret
  exact ⟨rfl, HB2.out⟩
end Go.Proofs.YtkhhcclomjfliaaGreatDoor
