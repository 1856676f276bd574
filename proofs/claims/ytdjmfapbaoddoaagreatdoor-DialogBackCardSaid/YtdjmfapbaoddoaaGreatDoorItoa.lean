/-
  A number's text in base 10: what the library writes of it.
-/
import Derived.Test.YtdjmfapbaoddoaaGreatDoorTokenNum
import Derived.Test.YtdjmfapbaoddoaaGreatDoorShelf
import Derived.Test.YtdjmfapbaoddoaaGreatDoorManifestPlain
import Derived.Lib.ItoaNum
import Derived.WalkKit
import Derived.ProofKit
namespace Go.Proofs.YtdjmfapbaoddoaaGreatDoor
open Go.RowKit
set_option linter.unusedVariables false

/-- What lies at start-up: the tables that numbers are written by, two errors. -/
structure NumT (w : World) : Prop where
  errs : Errs w
  pow : Lib.TabIs Tryz.prog w "internal/strconv.uint64pow10" .u64 Lib.pow10Tab
  four : w.cell? ⟨8, 15, none⟩ = some (.int .u8 4)
theorem gPow : Tryz.prog.globalNamed "internal/strconv.uint64pow10" = some 2 := by kernel_rfl
theorem lt_of_cell {w : World} {g i : Nat} {v : Value} (h : w.cell? ⟨g, i, none⟩ = some v) : g < w.heap.size := by
  rcases Nat.lt_or_ge g w.heap.size with hl | hl
  · exact hl
  · simp [World.cell?, Array.getElem?_eq_none hl] at h
theorem pow10_len : Lib.pow10Tab.length = 20 := Lib.pow10Tab_length
theorem NumT.below {w w' : World} {B : Nat} (h : NumT w) (hb : Below B w w') (hB : w.heap.size ≤ B) : NumT w' := by
  have h2 := lt_of_cell h.four
  exact ⟨h.errs.below hb hB, by
    have h1 := h.pow
    have hc := h1.cell gPow 0 (by rw [pow10_len]; omega)
    have hlt := lt_of_cell hc
    unfold Lib.TabIs World.var? at *
    rw [gPow] at *
    simp only [Option.bind_some] at *
    rw [hb.block _ (by omega)]
    exact h1, (hb.cell (show _ < B by show 8 < B; omega)).trans h.four⟩

theorem grow_below {w : World} (k : Nat) (os : Array Obj) : Below w.heap.size w (Sort.grow (w.drewN k) os) := by
  refine ⟨rfl, rfl, rfl, ?_, fun i hi => ?_⟩
  · show w.heap.size ≤ (w.heap ++ os).size
    rw [Array.size_append]; omega
  · show (w.heap ++ os)[i]? = _
    rw [Array.getElem?_append_left hi]
theorem itoa_num (n : Int) : Lib.itoa n = numL 10 n := by
  have h : ∀ n : Nat, Lib.decDigits n = digL 10 n := by
    intro n
    induction n using Nat.strongRecOn with
    | ind n ih =>
      have hc : ∀ k, k < 10 → UInt8.ofNat (48 + k) = chr k := by
        intro k hk
        rcases (by omega : k = 0 ∨ k = 1 ∨ k = 2 ∨ k = 3 ∨ k = 4 ∨ k = 5 ∨ k = 6 ∨ k = 7 ∨ k = 8 ∨ k = 9) with rfl | rfl | rfl | rfl | rfl | rfl | rfl | rfl | rfl | rfl <;> rfl
      rw [Lib.decDigits]
      split
      · rename_i h; rw [digL_lt h, hc n h]
      · rename_i h; rw [digL_ge (by omega) (by omega), ih (n / 10) (by omega), hc _ (Nat.mod_lt _ (by omega))]
  unfold Lib.itoa numL
  split
  · rw [h]; first | rfl | (congr 2; omega)
  · rw [h]
theorem itoa_any (n : Int) (h0 : -9223372036854775808 ≤ n ∧ n ≤ 9223372036854775807) (w : World) (h : NumT w) :
    Calls Tryz.prog 61 #[.int .i64 n] w fun e w' => e = .returned (.string (strB (numL 10 n))) ∧ Below w.heap.size w w' := by
  refine (Tryz.strconv_Itoa n h0.1 h0.2 w h.pow).mono ?_
  rintro e w' ⟨rfl, k, os, rfl⟩
  exact ⟨by rw [← itoa_num]; rfl, grow_below k os⟩
end Go.Proofs.YtdjmfapbaoddoaaGreatDoor
