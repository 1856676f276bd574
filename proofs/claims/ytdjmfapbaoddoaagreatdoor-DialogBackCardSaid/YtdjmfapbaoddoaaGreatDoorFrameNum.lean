/-
  What the tables that a row lists give a walk that writes numbers.
-/
import Derived.Test.YtdjmfapbaoddoaaGreatDoorFrameSeven
import Derived.Test.YtdjmfapbaoddoaaGreatDoorItoa
namespace Go.Proofs.YtdjmfapbaoddoaaGreatDoor
open Go.RowKit Go.ChangeShapes Go.WideShapes Go.ChangeAt
set_option linter.unusedVariables false

def bruijn64 : List Int := [0, 1, 56, 2, 57, 49, 28, 3, 61, 58, 42, 50, 38, 29, 17, 4, 62, 47, 59, 36, 45, 43, 51, 22, 53, 39, 33, 30, 24, 18, 12, 5, 63, 55, 48, 27, 60, 41, 37, 16, 46, 35, 44, 21, 52, 32, 23, 11, 54, 26, 40, 15, 34, 20, 31, 10, 25, 14, 19, 9, 13, 8, 7, 6]
theorem bruijn_is : (Rows.laid_math_bits_deBruijn64tab : DataW Unit) = Lib.tabData .u8 bruijn64 := rfl
theorem pow_is : (Rows.laid_internal_strconv_uint64pow10 : DataW Unit) = Lib.tabData .u64 Lib.pow10Tab := by kernel_rfl
theorem gBruijn : Tryz.prog.globalNamed "math/bits.deBruijn64tab" = some 8 := by kernel_rfl
theorem gBruijnT : (Tryz.prog.globals[8]?).map (·.type) = some 237 := by kernel_rfl
theorem gPowT : (Tryz.prog.globals[2]?).map (·.type) = some 208 := by kernel_rfl
theorem num_of {W : World} (h : laidMet Tryz.prog laid7 W) : NumT W := by
  have he := errs_of h
  have h1 := h.tail
  have h2 := h1.tail
  rw [bruijn_is] at h1
  rw [pow_is] at h2
  have t1 := Lib.tabIs_of_head gBruijn gBruijnT Tryz.underlying237 Tryz.underlying5 (by kernel_rfl) (by kernel_rfl) h1
  have t2 := Lib.tabIs_of_head gPow gPowT Tryz.underlying208 Tryz.underlying57 (by kernel_rfl) (by kernel_rfl) h2
  exact ⟨he, t2, t1.cell gBruijn 15 (by decide)⟩
theorem num7 {W : World} (h : laidMetH Tryz.prog laid7 W) : NumT W := by
  rw [MakeChecks.laidMetH_plain _ _ _ plain7] at h
  exact num_of h
end Go.Proofs.YtdjmfapbaoddoaaGreatDoor
