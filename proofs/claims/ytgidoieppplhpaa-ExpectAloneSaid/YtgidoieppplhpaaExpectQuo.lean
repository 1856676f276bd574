/-
  Waiting for texts that are quoted.
-/
import Derived.Test.YtgidoieppplhpaaExpectAwake
import Derived.Test.YtgidoieppplhpaaNfaTree
namespace Go.Proofs.Ytgidoieppplhpaa
open Go.RowKit
set_option linter.unusedVariables false

theorem emp_fold : ∀ (l : List UInt8) (r : Re), emp r = false → emp (l.foldl (fun n x => .thn n (byteR x)) r) = false
  | [], r, h => h
  | c :: l, r, h => emp_fold l _ (by simp [emp, h])
theorem emp_tree {l : List UInt8} (h : l ≠ []) : emp (treeOf l) = false := by
  cases l with
  | nil => exact absurd rfl h
  | cons c r => exact emp_fold r _ rfl
theorem pat9_quo {l : List UInt8} (h : l ≠ []) (hl : (quo l).length ≤ 64) : pat9 (quo l) = .inl (treeOf l) := pat9_of hl (quo_parse l hl) (emp_tree h)
theorem of9_quo {l : List UInt8} (h : l ≠ []) (hl : (quo l).length ≤ 64) : of9 [quo l] = .inl [treeOf l] := by simp [of9, pat9_quo h hl]
/-- It ends with the last byte just if it stands at the end. -/
theorem end_tree {l : List UInt8} (h : l ≠ []) (t : List UInt8) : endA (auOf (treeOf l)) t = true ↔ l.length ≤ t.length ∧ t.drop (t.length - l.length) = l := by
  unfold endA
  rw [srch_any (auOf_ok _)]
  have hp : 0 < l.length := List.length_pos_iff.2 h
  constructor
  · rintro ⟨j, hj, hm⟩
    rw [mt_tree] at hm
    have hd : (t.drop j).length = l.length := by rw [hm]
    rw [List.length_drop] at hd
    refine ⟨by omega, ?_⟩
    rw [show t.length - l.length = j by omega]
    exact hm
  · rintro ⟨h1, h2⟩
    exact ⟨t.length - l.length, by omega, by rw [mt_tree]; exact h2⟩
theorem arm_one (A : Au) (t : List UInt8) : armA [A] t = if endA A t then some 0 else none := rfl
theorem run_addx (l : List UInt8) (c : UInt8) (h : l.length ≤ 140737488351232) (W : World) : (Op.stringOp .add (strB l) ⟨#[c]⟩).run Try.prog W = .ok (.string (strB (l ++ [c]))) W :=
  run_strAdd l [c] (by simp; omega) W
theorem min_s (ts : Array TypeId) (t : TypeId) (a : Nat) (b : Int) (k : Nat) (h : min ((a : Int) + 1) b = (k : Int)) (w : World) :
    (Builtin.min_ ts t #[.int .i64 ((a : Int) + 1), .int .i64 b]).run Try.prog w = .ok (.int .i64 (k : Int)) w := min_i ts t (a + 1) b k h w
theorem sl_one9 {w w1 : World} {g : Nat} (hg : g = w.heap.size) {l : List UInt8} (hw : w.alloc (.cells #[.string (strB l)] 9) = w1) : Sl strV w1 (some ⟨g, 0, none⟩) 1 [l] ∧ Below w.heap.size w w1 := by
  subst hg hw
  exact ⟨Sl.of_blk (xs := [l]) (Blk.new _ _ _) rfl (by decide), (Below.refl _ _).alloc (Nat.le_refl _) _⟩
end Go.Proofs.Ytgidoieppplhpaa
