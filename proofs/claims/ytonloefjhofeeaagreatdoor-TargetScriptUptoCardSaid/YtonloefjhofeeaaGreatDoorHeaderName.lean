/-
  What may be told of a file.
-/
import Derived.Test.YtonloefjhofeeaaGreatDoorHeaderNom
import Derived.WalkKit
import Derived.ProofKit
import Derived.WalkLawsBesides
import Derived.IntWalk
import Derived.RegionTactic
import Derived.BigRegion
import Derived.ChangeAlike
import Derived.Deep.QuietTactic
import Derived.BigQuiet
import Derived.Deep.RegionHeld3
import Derived.Deep.DrawnRows
import Derived.Outline
namespace Go.Proofs.YtonloefjhofeeaaGreatDoor
open Go.RowKit
set_option linter.unusedVariables false

theorem upTo_any (n m : Int) (w : World) :
    Calls Tryz.prog 130 #[.int .i64 n, .int .i64 m] w fun e w' => e = .returned (.bool (decide (0 ≤ n) && decide (n ≤ m))) ∧ w = w' := by
  go_enter Tryz.func130, Tryz.ntmps130
  go_wp2
  all_goals
    go_ret
    exact ⟨ret_bool (by rw [Bool.eq_iff_iff]; simp only [Bool.and_eq_true, decide_eq_true_eq, Bool.false_eq_true, false_iff]; omega), rfl⟩

def flCells (f : Fl) : Array Value := #[.string (strB f.name), .int .i64 f.size, .int .i64 f.time, .int .i64 f.mode]
def flV (f : Fl) : Value := .agg (flCells f)
theorem may_any (f : Fl) (hl : f.name.length ≤ 9223372036854775807) (w : World) :
    Calls Tryz.prog 113 #[flV f] w fun e w' => e = .returned (.bool (mayB f)) ∧ Below w.heap.size w w' := by
  obtain ⟨l, a, b, c⟩ := f
  obtain ⟨w1, hw1⟩ : ∃ w1, w.alloc (.cells #[.string (strB l), .int .i64 a, .int .i64 b, .int .i64 c] 100) = w1 := ⟨_, rfl⟩
  have hc0 : w1.cell? ⟨w.heap.size, 0, none⟩ = some (.string (strB l)) := by rw [← hw1]; exact (Blk.new w _ _).cell 0
  have hc1 : w1.cell? ⟨w.heap.size, 1, none⟩ = some (.int .i64 a) := by rw [← hw1]; exact (Blk.new w _ _).cell 1
  have hc2 : w1.cell? ⟨w.heap.size, 2, none⟩ = some (.int .i64 b) := by rw [← hw1]; exact (Blk.new w _ _).cell 2
  have hc3 : w1.cell? ⟨w.heap.size, 3, none⟩ = some (.int .i64 c) := by rw [← hw1]; exact (Blk.new w _ _).cell 3
  have HB : Hid (Below w.heap.size w w1) := keepHid (by rw [← hw1]; exact (Below.refl _ _).alloc (Nat.le_refl _) _)
  have HM : Hid (mayB ⟨l, a, b, c⟩ = (nameB l && (decide (0 ≤ a) && decide (a ≤ 8192)) && (decide (0 ≤ b) && decide (b ≤ 4294967295)) && (decide (0 ≤ c) && decide (c ≤ 65535)))) := keepHid rfl
  have H0 := keepHid (name_any l hl)
  have H1 := keepHid (upTo_any a 8192)
  have H2 := keepHid (upTo_any b 4294967295)
  have H3 := keepHid (upTo_any c 65535)
  generalize nameB l = x0 at *
  generalize (decide (0 ≤ a) && decide (a ≤ 8192)) = x1 at *
  generalize (decide (0 ≤ b) && decide (b ≤ 4294967295)) = x2 at *
  generalize (decide (0 ≤ c) && decide (c ≤ 65535)) = x3 at *
  generalize mayB ⟨l, a, b, c⟩ = y at *
  show Calls Tryz.prog 113 #[.agg #[.string (strB l), .int .i64 a, .int .i64 b, .int .i64 c]] w _
  rcases (by cases x0 <;> cases x1 <;> cases x2 <;> simp : x0 = false ∨ (x0 = true ∧ x1 = false) ∨ (x0 = true ∧ x1 = true ∧ x2 = false) ∨ (x0 = true ∧ x1 = true ∧ x2 = true)) with rfl | ⟨rfl, rfl⟩ | ⟨rfl, rfl, rfl⟩ | ⟨rfl, rfl, rfl⟩
  all_goals
    go_enter Tryz.func113, Tryz.ntmps113
    go_wp2_with (first
      | ((with_reducible refine (H0.out _).mono ?_); rintro e w' ⟨rfl, rfl⟩)
      | ((with_reducible refine (H1.out _).mono ?_); rintro e w' ⟨rfl, rfl⟩)
      | ((with_reducible refine (H2.out _).mono ?_); rintro e w' ⟨rfl, rfl⟩)
      | ((with_reducible refine (H3.out _).mono ?_); rintro e w' ⟨rfl, rfl⟩))
    go_ret
    exact ⟨ret_bool (by rw [HM.out]; rfl), HB.out⟩
end Go.Proofs.YtonloefjhofeeaaGreatDoor
