/-
  Stage 8's statements: parts of texts; where patterns end in a text and in a longer one.
-/
import Derived.Test.YtgidoieppplhpaaDoorMatchFirst
import Derived.Test.YtgidoieppplhpaaDoorRegexParse
import Derived.Test.YtgidoieppplhpaaDoorNfaText
namespace Go.Proofs.YtgidoieppplhpaaDoor
open Go.RowKit
set_option linter.unusedVariables false

theorem strB_mid (q : List UInt8) (a b : Nat) : (strB q).extract a b = strB (mid q a b) := by
  apply ByteArray.ext
  simp [strB, ByteArray.data_extract, mid, List.drop_take]
theorem run_mid {l : List UInt8} {i j : Nat} (hij : i ≤ j) (hj : j ≤ l.length) (a b : Int) (ha : a = (i : Int)) (hb : b = (j : Int)) (W : World) :
    (Instr.slice 9 (.string (strB l)) (some (.int .i64 a)) (some (.int .i64 b)) none).run Tryd.prog W = .ok (.string (strB (mid l i j))) W := by
  subst ha hb
  rw [run_slice_string W 9 (strB l) .i64 .i64 (i : Int) (j : Int) Tryd.underlying9 (by omega) (by omega) (by rw [strB_size]; omega)]
  show Result.ok (Value.string ((strB l).extract _ _)) W = _
  rw [show ((i : Int)).toNat = i by omega, show ((j : Int)).toNat = j by omega, strB_mid]
/-- What 'First' says. -/
theorem first_spec (r : Re) (s : List UInt8) : (∃ k, k ≤ s.length ∧ firstL r s = (k, true) ∧ hitB r s k = true ∧ ∀ i, i < k → hitB r s i = false) ∨ (firstL r s = (0, false) ∧ ∀ i, i ≤ s.length → hitB r s i = false) := by
  unfold firstL
  cases h : (List.range (s.length + 1)).find? (hitB r s) with
  | none =>
    right
    refine ⟨rfl, fun i hi => ?_⟩
    have := List.find?_eq_none.1 h i (List.mem_range.2 (by omega))
    simpa using this
  | some k =>
    left
    have hr := List.mem_range.1 (List.mem_of_find?_eq_some h)
    rw [List.find?_range_eq_some] at h
    exact ⟨k, by omega, rfl, h.1, fun i hi => by have := h.2.2 i hi; simpa using this⟩
theorem mid_app {s u : List UInt8} {f k : Nat} (hk : k ≤ s.length) : mid (s ++ u) f k = mid s f k := by
  unfold mid
  rw [List.take_append_of_le_length hk]
theorem hit_app {r : Re} {s u : List UInt8} {k : Nat} (hk : k ≤ s.length) : hitB r (s ++ u) k = hitB r s k := by
  unfold hitB
  congr 1
  funext i
  rw [mid_app hk]
theorem endsTo_app (r : Re) (s u : List UInt8) (f : Nat) {k : Nat} (hk : k ≤ s.length) : endsTo r (s ++ u) f k = endsTo r s f k := by
  unfold endsTo
  apply List.filter_congr
  intro i hi
  rw [List.mem_range'_1] at hi
  rw [mid_app (by omega)]
theorem endsTo_pre (r : Re) (s : List UInt8) {f : Nat} : ∀ (d k : Nat), f ≤ k → ∃ m, endsTo r s f (k + d) = endsTo r s f k ++ m
  | 0, k, _ => ⟨[], by simp⟩
  | d + 1, k, hf => by
    obtain ⟨m, hm⟩ := endsTo_pre r s d k hf
    rw [← Nat.add_assoc, endsTo_succ r s (by omega), hm, List.append_assoc]
    exact ⟨_, rfl⟩
theorem endsL_app (r : Re) (s u : List UInt8) : ∃ m, endsL r (s ++ u) 0 = endsL r s 0 ++ m := by
  unfold endsL
  obtain ⟨m, hm⟩ := endsTo_pre r (s ++ u) (f := 0) u.length s.length (Nat.zero_le _)
  rw [List.length_append, hm, endsTo_app r s u 0 (Nat.le_refl _)]
  exact ⟨m, rfl⟩
end Go.Proofs.YtgidoieppplhpaaDoor
