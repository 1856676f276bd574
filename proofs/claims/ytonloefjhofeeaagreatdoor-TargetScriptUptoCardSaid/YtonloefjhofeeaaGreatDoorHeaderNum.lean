/-
  A number's text: what the library writes of it in base 8 and 10.
-/
import Derived.Test.YtonloefjhofeeaaGreatDoorHeaderName
import Derived.Test.YtonloefjhofeeaaGreatDoorShelf
import Derived.Deep.DeepCutAuto
import Derived.WalkKit
import Derived.ProofKit
import Derived.WalkLawsBesides
import Derived.IntWalk
import Derived.RegionTactic
import Derived.BigRegion
import Derived.ChangeAlike
import Derived.Deep.QuietTactic
import Derived.BigQuiet
import Derived.Deep.RegionHeld3
import Derived.Deep.DrawnRows
import Derived.Outline
namespace Go.Proofs.YtonloefjhofeeaaGreatDoor
open Go.RowKit
set_option linter.unusedVariables false

/-- What lies at start-up: the tables that numbers are written by. -/
structure Tabs (w : World) : Prop where
  pow : Lib.TabIs Tryz.prog w "internal/strconv.uint64pow10" .u64 Lib.pow10Tab
  three : w.cell? ⟨3, 7, none⟩ = some (.int .u8 3)
theorem gPow : Tryz.prog.globalNamed "internal/strconv.uint64pow10" = some 0 := by kernel_rfl
theorem lt_of_cell {w : World} {g i : Nat} {v : Value} (h : w.cell? ⟨g, i, none⟩ = some v) : g < w.heap.size := by
  rcases Nat.lt_or_ge g w.heap.size with hl | hl
  · exact hl
  · simp [World.cell?, Array.getElem?_eq_none hl] at h
theorem pow10_len : Lib.pow10Tab.length = 20 := Lib.pow10Tab_length
theorem Tabs.below {w w' : World} {B : Nat} (h : Tabs w) (hb : Below B w w') (hB : w.heap.size ≤ B) : Tabs w' := by
  have h2 := lt_of_cell h.three
  exact ⟨by
    have h1 := h.pow
    have hc := h1.cell gPow 0 (by rw [pow10_len]; omega)
    have hlt := lt_of_cell hc
    unfold Lib.TabIs World.var? at *
    rw [gPow] at *
    simp only [Option.bind_some] at *
    rw [hb.block _ (by omega)]
    exact h1, (hb.cell (show _ < B by show 3 < B; omega)).trans h.three⟩
theorem Tabs.alloc {w : World} (h : Tabs w) (o : Obj) : Tabs (w.alloc o) := h.below ((Below.refl w.heap.size w).alloc (Nat.le_refl _) o) (Nat.le_refl _)
theorem Tabs.drew {w : World} (h : Tabs w) : Tabs w.drew := h.below ((Below.refl w.heap.size w).drew) (Nat.le_refl _)

theorem trail64 (w : World) (h : w.cell? ⟨3, 7, none⟩ = some (.int .u8 3)) :
    Calls Tryz.prog 110 #[.int .u64 8] w fun e w' => e = .returned (.int .i64 3) ∧ w = w' := by
  have e1 : IntKind.u64.wrap (-8) = 18446744073709551608 := by decide
  have e2 : bits .and .u64 8 18446744073709551608 = 8 := by decide
  have e3 : IntKind.u64.wrap (8 * 285870213051353865) = 2286961704410830920 := by decide
  go_enter Tryz.func110, Tryz.ntmps110
  go_wp2
  go_ret
  exact ⟨rfl, rfl⟩
theorem trail (w : World) (h : w.cell? ⟨3, 7, none⟩ = some (.int .u8 3)) :
    Calls Tryz.prog 100 #[.int .u64 8] w fun e w' => e = .returned (.int .i64 3) ∧ w = w' := by
  go_enter Tryz.func100, Tryz.ntmps100
  go_wp2_with (refine (trail64 _ h).mono ?_; rintro e w' ⟨rfl, rfl⟩)
  go_ret
  exact ⟨rfl, rfl⟩
theorem power8 (w : World) : Calls Tryz.prog 99 #[.int .i64 8] w fun e w' => e = .returned (.bool true) ∧ w = w' := by
  go_enter Tryz.func99, Tryz.ntmps99
  go_wp2
  go_ret
  exact ⟨rfl, rfl⟩

/-- A digit is looked up. -/
theorem dig_at (d : Nat) (hd : d < 10) (w : World) : (Instr.index 9 (.string ⟨#[48, 49, 50, 51, 52, 53, 54, 55, 56, 57, 97, 98, 99, 100, 101, 102, 103, 104, 105, 106, 107, 108, 109, 110, 111, 112, 113, 114, 115, 116, 117, 118, 119, 120, 121, 122]⟩) (.int .u64 (d : Int))).run Tryz.prog w = .ok (.int .u8 ((48 + d : Nat) : Int)) w := by
  rcases (by omega : d = 0 ∨ d = 1 ∨ d = 2 ∨ d = 3 ∨ d = 4 ∨ d = 5 ∨ d = 6 ∨ d = 7 ∨ d = 8 ∨ d = 9) with rfl | rfl | rfl | rfl | rfl | rfl | rfl | rfl | rfl | rfl <;> kernel_rfl
theorem and7 (v : Nat) (hv : v < 8589934592) : bits .and .u64 (v : Int) 7 = ((v % 8 : Nat) : Int) := by
  have h := u64_and_nat v 7 (by omega) (by omega)
  rw [show ((7 : Nat) : Int) = 7 from rfl] at h
  rw [h, Nat.and_two_pow_sub_one_eq_mod v 3]
theorem drop_set {cs : List UInt8} {j : Nat} {c : UInt8} (hj : j < cs.length) : (cs.set j c).drop j = c :: cs.drop (j + 1) := by
  rw [List.drop_eq_getElem_cons (by rw [List.length_set]; exact hj), List.getElem_set_self, List.drop_set_of_lt (by omega)]
theorem dig8_step {v : Nat} (h : 8 ≤ v) (t : List UInt8) : digs 8 (v / 8) ++ UInt8.ofNat (48 + v % 8) :: t = digs 8 v ++ t := by
  rw [digs_ge (b := 8) (by omega) h, List.append_assoc]; rfl

theorem dig_byte (d : Nat) (hd : d < 10) : ((48 + d : Nat) : Int) = ((UInt8.ofNat (48 + d)).toNat : Int) := by simp; omega
theorem bys_of_blk {w : World} {g : Nat} {t : TypeId} {cs : List UInt8} (h : Blk w g t (byteVals cs)) {j n : Nat} (hj : j + n = cs.length) (hm : cs.length ≤ 65536) : Bys w (g + 1) (some ⟨g, j, none⟩) n (cs.drop j) := by
  refine ⟨by rw [List.length_drop]; omega, by unfold maxLen; omega, fun k c hk => ⟨_, rfl, Nat.lt_succ_self _, ?_⟩⟩
  have e : (⟨g, j, none⟩ : Addr).add k = ⟨g, j + k, none⟩ := by unfold Addr.add; split <;> simp_all
  rw [List.getElem?_drop] at hk
  have hlt : j + k < cs.length := by
    rcases Nat.lt_or_ge (j + k) cs.length with hl | hl
    · exact hl
    · rw [List.getElem?_eq_none hl] at hk; cases hk
  rw [e, h.cell]
  rw [List.getElem?_eq_getElem hlt] at hk
  simp [byteVals, hlt, Option.some.inj hk]

theorem under65 : Tryz.prog.underlying 155 = some (.array (Tryz.prog.arrayLen 155) (Tryz.prog.elem 155)) := by kernel_rfl
theorem len65 : Tryz.prog.arrayLen 155 = 65 := by kernel_rfl
theorem slice65 (g j : Nat) (hj : j < 65) (W : World) : (Instr.sliceAt 155 (.pointer (some ⟨g, 0, none⟩)) (some (.int .i64 (j : Int))) none none).run Tryz.prog W = .ok (.slice (some ⟨g, j, none⟩) (65 - j) (65 - j)) W := by
  rw [run_sliceAt_array_l W 155 ⟨g, 0, none⟩ under65 .i64 (j : Int) (by omega) (by rw [len65]; omega)]
  have hs : (sizeOf (Tryz.prog.elem 155)).run Tryz.prog W = .ok 1 W := by kernel_rfl
  rw [hs, len65]
  have e : (⟨g, 0, none⟩ : Addr).add (j * 1) = ⟨g, j, none⟩ := by unfold Addr.add; split <;> simp_all
  show Result.ok (slicedAt _ _ _ _ _) W = _
  unfold slicedAt
  rw [Int.toNat_natCast, if_neg (by omega), e]

theorem zrow_def (n : Nat) : zrow n = byteVals (zeros n) := rfl
theorem zero_65 (w : World) : (zeroValue 155).run Tryz.prog w = .ok (.agg (zrow 65)) w := by kernel_rfl
attribute [local irreducible] zrow
set_option maxRecDepth 100000 in
theorem bits8_any (u : Nat) (hu : u < 8589934592) (w : World) (h : w.cell? ⟨3, 7, none⟩ = some (.int .u8 3)) :
    Calls Tryz.prog 88 #[.slice none 0 0, .int .u64 (u : Int), .int .i64 8, .bool false, .bool false] w fun e w' => e = .returned (.tuple #[.slice none 0 0, .string (strB (digs 8 u))]) ∧ Below w.heap.size w w' := by
  have hz := zero_65
  have hg := lt_of_cell h
  obtain ⟨w1, hw1⟩ : ∃ w1, w.alloc (.cells (zrow 65) 155) = w1 := ⟨_, rfl⟩
  have hb1 : Blk w1 w.heap.size 155 (byteVals (zeros 65)) := by rw [← hw1, ← zrow_def]; exact Blk.new w _ _
  have hbel : Below w.heap.size w w1 := by rw [← hw1]; exact (Below.refl _ _).alloc (Nat.le_refl _) _
  have h1 : w1.cell? ⟨3, 7, none⟩ = some (.int .u8 3) := (hbel.cell hg).trans h
  have HB := keepHid hb1
  have HW := keepHid hbel
  clear hb1 hbel h hg
  go_enter Tryz.func88, Tryz.ntmps88
  go_wp2_with (first
    | (refine (power8 _).mono ?_; rintro e w' ⟨rfl, rfl⟩)
    | (refine (trail _ h1).mono ?_; rintro e w' ⟨rfl, rfl⟩))
  clear hw1 h1
  go_loopw [1, 13] (fun x i wr => ∃ (v k : Nat) (cs t : List UInt8), x = .int .u64 (v : Int) ∧ i = .int .i64 (k : Int) ∧ cs.length = 65 ∧ k + t.length = 65 ∧ v < 8589934592 ∧ cs.drop k = t ∧ digs 8 v ++ t = digs 8 u ∧ Blk wr w.heap.size 155 (byteVals cs) ∧ Below w.heap.size w wr) (fun x _ _ => (intOf x).toNat)
  case atStart => exact ⟨u, 65, zeros 65, [], rfl, rfl, zeros_len _, rfl, hu, List.drop_eq_nil_of_le (by rw [zeros_len]; omega), by simp, HB.out, HW.out⟩
  case round =>
    obtain ⟨v, k, cs, t, rfl, rfl, hcl, hkt, hv, hdrop, hdig, hb, hbel⟩ := hrel
    have hlen := congrArg List.length hdig
    have hd1 := digs_len (b := 8) (by omega) 11 u (by omega) (by omega)
    have hd2 := digs_pos 8 v
    rw [List.length_append] at hlen
    obtain ⟨j, rfl⟩ : ∃ j, k = j + 1 := ⟨k - 1, by omega⟩
    have hj : j < 65 := by omega
    obtain ⟨y, hy, hyc⟩ := byteVals_at (cs := cs) (i := j) (by omega)
    have hpc : wr.cell? ⟨w.heap.size, j, none⟩ = some (.int .u8 (y.toNat : Int)) := (hb.cell j).trans hyc
    have hpf : wr.frozen? ⟨w.heap.size, j, none⟩ = false := hb.frozen j
    have HD := keepHid hdig
    have HBK := keepHid hb
    have HBL := keepHid hbel
    have HDR := keepHid hdrop
    clear hdig hb hbel hdrop hlen hd1 hd2 hy hyc
    have hjj : ((j + 1 : Nat) : Int) - 1 = (j : Int) := by omega
    by_cases h8 : 8 ≤ v
    · obtain ⟨d, hd⟩ : ∃ d, v % 8 = d := ⟨_, rfl⟩
      obtain ⟨c, hc⟩ : ∃ c, UInt8.ofNat (48 + d) = c := ⟨_, rfl⟩
      have hd8 : d < 8 := by rw [← hd]; exact Nat.mod_lt _ (by omega)
      have hidx := dig_at d (by omega)
      have hand := and7 v hv
      rw [hd] at hand
      rw [dig_byte d (by omega), hc] at hidx
      have HC : Hid (UInt8.ofNat (48 + v % 8) = c) := keepHid (by rw [hd]; exact hc)
      clear hd hc
      have hge : ¬ ((v : Int) < 8) := by omega
      go_wp2
      go_roundw
      case rel =>
        refine ⟨v / 8, j, cs.set j c, c :: t, by push_cast; rfl, rfl, by rw [List.length_set]; exact hcl, by simp; omega, by omega, ?_, ?_, ?_, ?_⟩
        · rw [drop_set (by omega), HDR.out]
        · rw [← HD.out, ← dig8_step h8, HC.out]
        · rw [← byteVals_set]; exact HBK.out.put j _
        · exact HBL.out.setCell (p := ⟨w.heap.size, j, none⟩) (Nat.le_refl _) _
      case measure => simp [intOf]; omega
    · obtain ⟨c, hc⟩ : ∃ c, UInt8.ofNat (48 + v) = c := ⟨_, rfl⟩
      have hidx := dig_at v (by omega)
      rw [dig_byte v (by omega), hc] at hidx
      have hall : c :: t = digs 8 u := by rw [← HD.out, digs_lt (b := 8) (by omega), hc]; rfl
      have hblk : Blk (wr.setCell ⟨w.heap.size, j, none⟩ (.int .u8 (c.toNat : Int))) w.heap.size 155 (byteVals (cs.set j c)) := by rw [← byteVals_set]; exact HBK.out.put j _
      have hbys := bys_of_blk hblk (j := j) (n := 65 - j) (by rw [List.length_set]; omega) (by rw [List.length_set]; omega)
      rw [drop_set (by omega), HDR.out, hall] at hbys
      have hconv := run_str (P := Tryz.prog) (c := 65 - j) 31 5 9 Tryz.underlying31 Tryz.underlying5 Tryz.underlying9 hbys
      have hbel2 : Below w.heap.size w (wr.setCell ⟨w.heap.size, j, none⟩ (.int .u8 (c.toNat : Int))) := HBL.out.setCell (p := ⟨w.heap.size, j, none⟩) (Nat.le_refl _) _
      have HBL2 := keepHid hbel2
      clear hc hall hblk hbys hbel2
      have hlt : (v : Int) < 8 := by omega
      have hsl := slice65 w.heap.size j hj
      go_wp2
      go_ret2
      exact ⟨rfl, HBL2.out⟩

theorem grow_below {w : World} (k : Nat) (os : Array Obj) : Below w.heap.size w (Sort.grow (w.drewN k) os) := by
  refine ⟨rfl, rfl, rfl, ?_, fun i hi => ?_⟩
  · show w.heap.size ≤ (w.heap ++ os).size
    rw [Array.size_append]; omega
  · show (w.heap ++ os)[i]? = _
    rw [Array.getElem?_append_left hi]
theorem format10_any (n : Nat) (hn : n < 4294967296) (w : World) (h : Tabs w) :
    Calls Tryz.prog 60 #[.int .i64 (n : Int), .int .i64 10] w fun e w' => e = .returned (.string (strB (digs 10 n))) ∧ Below w.heap.size w w' := by
  refine (Tryz.strconv_FormatInt_10 (n : Int) (by omega) (by omega) w h.pow).mono ?_
  rintro e w' ⟨rfl, k, os, rfl⟩
  exact ⟨by rw [digs_itoa]; rfl, grow_below k os⟩
theorem format8_in (n : Nat) (hn : n < 4294967296) (w : World) (h : Tabs w) :
    Calls Tryz.prog 74 #[.int .i64 (n : Int), .int .i64 8] w fun e w' => e = .returned (.string (strB (digs 8 n))) ∧ Below w.heap.size w w' := by
  have h1 := h.three
  have e1 : IntKind.u64.wrap (n : Int) = (n : Int) := by rw [IntKind.wrap_u64]; omega
  have e2 : ¬ (n : Int) < 0 := by omega
  go_enter Tryz.func74, Tryz.ntmps74
  go_wp2_with (refine (bits8_any n (by omega) _ h1).mono ?_; rintro e w' ⟨rfl, hb⟩; have HB := keepHid hb; clear hb)
  go_ret
  exact ⟨rfl, HB.out⟩
theorem format8_any (n : Nat) (hn : n < 4294967296) (w : World) (h : Tabs w) :
    Calls Tryz.prog 60 #[.int .i64 (n : Int), .int .i64 8] w fun e w' => e = .returned (.string (strB (digs 8 n))) ∧ Below w.heap.size w w' := by
  go_enter Tryz.func60, Tryz.ntmps60
  go_wp2_with (refine (format8_in n hn _ h).mono ?_; rintro e w' ⟨rfl, hb⟩; have HB := keepHid hb; clear hb)
  go_ret
  exact ⟨rfl, HB.out⟩
theorem inBase10_any (n : Nat) (hn : n < 4294967296) (w : World) (h : Tabs w) :
    Calls Tryz.prog 115 #[.int .i64 (n : Int), .int .i64 10] w fun e w' => e = .returned (.string (strB (digs 10 n))) ∧ Below w.heap.size w w' := by
  go_enter Tryz.func115, Tryz.ntmps115
  go_wp2_with (refine (format10_any n hn _ h).mono ?_; rintro e w' ⟨rfl, hb⟩; have HB := keepHid hb; clear hb)
  go_ret
  exact ⟨rfl, HB.out⟩
theorem inBase8_any (n : Nat) (hn : n < 4294967296) (w : World) (h : Tabs w) :
    Calls Tryz.prog 115 #[.int .i64 (n : Int), .int .i64 8] w fun e w' => e = .returned (.string (strB (digs 8 n))) ∧ Below w.heap.size w w' := by
  go_enter Tryz.func115, Tryz.ntmps115
  go_wp2_with (refine (format8_any n hn _ h).mono ?_; rintro e w' ⟨rfl, hb⟩; have HB := keepHid hb; clear hb)
  go_ret
  exact ⟨rfl, HB.out⟩
end Go.Proofs.YtonloefjhofeeaaGreatDoor
