/-
  The table of what is left of each byte; what is left by any table.
-/
import Derived.Test.YtljnncakgndgpaaSum
import Derived.Test.YtljnncakgndgpaaSumTab
import Derived.Outline
namespace Go.Proofs.Ytljnncakgndgpaa
open Go.RowKit
set_option linter.unusedVariables false

theorem by_any (ad : Addr) (t : List Nat) (A : Option Addr) (n c B B' : Nat) (bs : List UInt8) (w : World) (ht : Tab w B' ad t) (h : Bys w B A n bs) :
    Calls Try.prog 14 #[.pointer (some ad), .slice A n c] w fun e w' => e = .returned (.int .u16 (byL t bs : Nat)) ∧ w = w' := by
  have hm := h.max
  go_enter Try.func14, Try.ntmps14
  go_wp2
  go_loop [5, 10] (fun t' i => ∃ k : Nat, k ≤ n ∧ i = .int .i64 k ∧ t' = .int .u16 (byL t (bs.take k) : Nat)) (fun _ i => n - (intOf i).toNat)
  case atStart => exact ⟨0, Nat.zero_le _, rfl, rfl⟩
  case round =>
    obtain ⟨k, hk, rfl, rfl⟩ := hrel
    by_cases hlt : k < n
    · obtain ⟨ad', x, rfl, _, hx, hc⟩ := h.at_ hlt
      have HS := keepHid (by_take (t := t) hx)
      clear hx h
      have h1 := by_lt ht.2.1 (bs.take k)
      generalize byL t (bs.take k) = q at *
      have h2 := u8lt x
      have hj : (q / 256) ^^^ x.toNat < 256 := Nat.xor_lt_two_pow (n := 8) (by omega) h2
      have hx8 : bits .xor .u8 ((q : Int) / 256) (x.toNat : Int) = (((q / 256) ^^^ x.toNat : Nat) : Int) := xor8 (a := q / 256) (b := x.toNat) (by omega) rfl (by omega) h2
      obtain ⟨y, hy, hylt, hyc⟩ := ht.at_ hj
      have HY : Hid (byStep t q x = (q * 256 % 65536) ^^^ y) := keepHid (by unfold byStep; rw [hy]; rfl)
      have HX := keepHid (xor16 (x := IntKind.u16.wrap ((q : Int) * 256)) (y := (y : Int)) (a := q * 256 % 65536) (b := y) (by rw [IntKind.wrap_u16]; omega) rfl (by omega) hylt)
      generalize (q / 256) ^^^ x.toNat = j at *
      clear hy ht
      go_wp2
      go_round
      case rel => exact ⟨k + 1, by omega, by go_num, by rw [HS.out, HY.out, HX.out]⟩
      case measure => simp [intOf]; omega
    · have e : bs.take k = bs := List.take_of_length_le (by rw [h.len]; omega)
      have E := keepHid e
      clear e h
      go_wp2
      go_ret
      exact ⟨ret_u16 (by rw [E.out]), rfl⟩

theorem zero_tab (w : World) : (zeroValue 27).run Try.prog w = .ok (.agg (tabAt 0)) w := by kernel_rfl
theorem size_tab : (Try.prog.info? 27).map (·.size) = some 256 := by kernel_rfl

attribute [local irreducible] tabAt crcL byL
set_option maxRecDepth 100000 in
theorem table_any (w : World) :
    Calls Try.prog 11 #[] w fun e w' => e = .returned (.agg (tabAt 256)) ∧ Below w.heap.size w w' := by
  have hz := zero_tab
  go_enter Try.func11, Try.ntmps11
  go_wp2
  go_loopw [3] (fun i wr => ∃ k : Nat, k ≤ 256 ∧ i = .int .i64 k ∧ Blk wr w.heap.size 27 (tabAt 0) ∧ Blk wr (w.heap.size + 1) 27 (tabAt k) ∧ Below w.heap.size w wr) (fun i _ => 256 - (intOf i).toNat)
  case atStart => exact ⟨0, Nat.zero_le _, rfl, (Blk.new _ _ _).alloc _, by simpa using Blk.new (w.alloc _) _ _, ((Below.refl _ _).alloc (Nat.le_refl _) _).alloc (by simp) _⟩
  case round =>
    obtain ⟨k, hk, rfl, hb0, hb1, hbel⟩ := hrel
    have hs1 := hb1.lt
    by_cases hlt : k < 256
    · have HB := keepHid hb1
      have hcell := hb1.cell k
      rw [tabAt_old k hlt] at hcell
      have hfz := hb1.frozen k
      clear hb1
      have hone : ∀ W : World, Bys (W.alloc (.cells #[.int .u8 (k : Int)] 5)) (W.heap.size + 1) (some ⟨W.heap.size, 0, none⟩) 1 [UInt8.ofNat k] := fun W =>
        bys_new W _ [UInt8.ofNat k] 1 rfl (by unfold maxLen; omega) _ (by simp [byteVals]; omega) _ rfl
      have HO := keepHid hone
      clear hone
      go_wp2_with ((refine (crc_any _ _ _ _ _ _ (HO.out _)).mono ?_); rintro e w' ⟨rfl, rfl⟩)
      go_roundw
      case rel =>
        refine ⟨k + 1, by omega, by go_num, ?_, ?_, ?_⟩
        · exact (hb0.far (p := ⟨w.heap.size + 1, k, none⟩) (by simp) _).alloc _
        · rw [← tabAt_set k hlt]; exact (HB.out.put k _).alloc _
        · exact (hbel.setCell (p := ⟨w.heap.size + 1, k, none⟩) (by simp) _).alloc (by simp; omega) _
      case measure => simp [intOf]; omega
    · obtain rfl : k = 256 := by omega
      have HB1 := keepHid hb1
      have HB0 := keepHid hb0
      clear hb1 hb0
      go_wp2_with (first
        | (refine wpList_load_row rfl 27 (.tmp 1) rfl (w.heap.size + 1) rfl 27 (tabAt 256) (0, 0) _ HB1.out Try.underlying27 rfl (by rw [tabAt_size]; exact size_tab) ?_)
        | (refine wpList_store_row rfl 27 (.tmp 0) (.tmp 13) rfl w.heap.size (tabAt 256) rfl rfl 27 (tabAt 0) HB0.out (by rw [tabAt_size]; exact size_tab) (by rw [tabAt_size, tabAt_size]) (tabAt_one 256) ?_))
      refine bodyPost_ret (results_cell_row (p := 0) rfl _ _ w.heap.size 27 (tabAt 256) (0, 0) _ rfl (HB0.out.row _) Try.underlying27 rfl (by rw [tabAt_size]; exact size_tab)) rfl ⟨rfl, below_row hbel (Nat.le_refl _) _⟩
end Go.Proofs.Ytljnncakgndgpaa
