/-
  Stage 8's statements: their own 'awake'.
-/
import Derived.Test.YtelkgkmomdmblaaMatchFirst
import Derived.Test.YtelkgkmomdmblaaRegexParse
import Derived.Test.YtelkgkmomdmblaaNfaText
namespace Go.Proofs.Ytelkgkmomdmblaa
open Go.RowKit
set_option linter.unusedVariables false

theorem min_i (ts : Array TypeId) (t : TypeId) (a : Nat) (b : Int) (k : Nat) (h : min (a : Int) b = (k : Int)) (w : World) :
    (Builtin.min_ ts t #[.int .i64 (a : Int), .int .i64 b]).run Try.prog w = .ok (.int .i64 (k : Int)) w := by
  rw [← h]
  by_cases hc : b < (a : Int)
  · simp [Builtin.min_, Builtin.min2, Int.min_def]
    split <;> first | rfl | omega
  · simp [Builtin.min_, Builtin.min2, Int.min_def]
    split <;> first | rfl | omega
def patB : Re := .thn (.one (withS st0 98)) (.star (.one (withS st0 98)))
theorem parse_b : parseF [98, 43] = (some patB, 2) := by decide +kernel
theorem first_b : firstL patB [97, 97, 98, 98] = (3, true) := by decide +kernel
set_option maxHeartbeats 1000000 in
theorem awake8_any (w : World) : Calls Try.prog 9 #[] w fun e w' => e = .returned (.bool true) ∧ Below w.heap.size w w' := by
  have H1 := keepHid (parse_any [98, 43] w)
  have e1 : strB [98, 43] = ⟨#[98, 43]⟩ := rfl
  rw [e1] at H1
  clear e1
  go_enter Try.func9, Try.ntmps9
  go_wp2_with fail
  refine H1.out.mono ?_
  rintro e w1 hp
  obtain ⟨h, rfl, hi1, hb1⟩ := parse_pat parse_b hp (by decide)
  obtain ⟨w2, hw2⟩ : ∃ w2, w1.alloc (.cells (hdC h) 31) = w2 := ⟨_, rfl⟩
  obtain ⟨hi2, hb2, hk2⟩ := node_var hi1 hw2
  have HF := keepHid (first_any [97, 97, 98, 98] hi2 (by decide))
  have e2 : strB [97, 97, 98, 98] = ⟨#[97, 97, 98, 98]⟩ := rfl
  unfold FirstPost at HF
  rw [first_b, e2] at HF
  have HB2 := keepHid (hb1.trans (hb2.mono hb1.size))
  have HW2 := keepHid hw2
  unfold hdC at hk2 HW2
  obtain ⟨n0, n1, n2, n3, n4, n5, nf⟩ := blk6 hk2
  clear hp hi1 hb1 hi2 hb2 hw2 hk2 H1 e2
  unfold hdV at *
  go_upto_region 2 with fail
  rw [HW2.out]
  go_wp2_with fail
  with_reducible refine HF.out.mono ?_
  rintro e w3 ⟨rfl, hb3⟩
  have HB3 := keepHid (HB2.out.trans (hb3.mono HB2.out.size))
  clear hb3
  go_wp2
  go_ret
  exact ⟨rfl, HB3.out⟩
end Go.Proofs.Ytelkgkmomdmblaa
