/-
  What the variables that a row lists (four tables, one of them pinned by name, two errors) give a walk; the start that fits.
-/
import Derived.Test.YtgndcgknedmalaaGreatDoorRows
import Derived.Test.YtgndcgknedmalaaGreatDoorTokenNum
import Derived.Test.YtgndcgknedmalaaGreatDoorFrame
import Derived.Test.YtgndcgknedmalaaGreatDoorTie
import Derived.Lib.LaidTab
import Derived.Stop.LaidErr
import Derived.LaidLaws
import Derived.LaidHandle
import Derived.LaidMore
import Derived.Lay
import Derived.Stop.Joined
import Derived.SevenTiedAt
import Derived.ProofKit
namespace Go.Proofs.YtgndcgknedmalaaGreatDoor
open Go.RowKit Go.ChangeShapes Go.WideShapes Go.ChangeAt
set_option linter.unusedVariables false

def laid7 : List (String × DataW Unit) := [("math/bits.deBruijn32tab", Rows.laid_math_bits_deBruijn32tab), ("math/bits.deBruijn64tab", Rows.laid_math_bits_deBruijn64tab), ("internal/strconv.uint64pow10", Rows.laid_internal_strconv_uint64pow10), ("unicode/utf8.acceptRanges", Rows.laid_unicode_utf8_acceptRanges), ("strconv.ErrRange", Rows.laid_strconv_ErrRange), ("strconv.ErrSyntax", Rows.laid_strconv_ErrSyntax), ("unicode/utf8.first", Rows.laid_unicode_utf8_first)]
def laidF : List (String × DataW Unit) := [("unicode/utf8.first", Rows.laid_unicode_utf8_first)]
theorem plain7 : (laid7.all fun x => x.2.handleName?.isNone) = true := by kernel_rfl
theorem gSyn : Tryz.prog.globalNamed "strconv.ErrSyntax" = some 2 := by kernel_rfl
theorem gSynT : (Tryz.prog.globals[2]?).map (·.type) = some 49 := by kernel_rfl
theorem gRan : Tryz.prog.globalNamed "strconv.ErrRange" = some 3 := by kernel_rfl
theorem gRanT : (Tryz.prog.globals[3]?).map (·.type) = some 49 := by kernel_rfl
theorem star : "*" ++ "errors.errorString" = "*errors.errorString" := by decide
theorem rowErr (u : TypeId) (h : Tryz.prog.typeName? 3 u = some "*errors.errorString") : u = 228 :=
  typeName_ptr_named (nm := "errors.errorString") (by rw [star]; kernel_rfl) (by kernel_rfl) (by decide) u (by rw [star]; exact h)
theorem errs_of {W : World} (h : laidMet Tryz.prog laid7 W) : Errs W := by
  have h1 := h.tail.tail.tail.tail
  obtain ⟨a0, _, hv0, -, -, -⟩ := laid_sentinel h1 gRan gRanT Tryz.underlying49 rowErr Tryz.underlying228 Tryz.underlying230 rfl rfl Tryz.underlying9 (by kernel_rfl) (by kernel_rfl)
  obtain ⟨a1, _, hv1, -, -, -⟩ := laid_sentinel h1.tail gSyn gSynT Tryz.underlying49 rowErr Tryz.underlying228 Tryz.underlying230 rfl rfl Tryz.underlying9 (by kernel_rfl) (by kernel_rfl)
  have c0 := World.var?_cell gRan hv0 0
  have c1 := World.var?_cell gSyn hv1 0
  exact ⟨⟨_, _, by simpa using c1⟩, _, _, by simpa using c0⟩
theorem errs7 {W : World} (h : laidMetH Tryz.prog laid7 W) : Errs W := by
  rw [MakeChecks.laidMetH_plain _ _ _ plain7] at h
  exact errs_of h

noncomputable def worldF (os : Os) : World := (World.doorLaid Tryz.prog 400 os).layVars Tryz.prog laidF
theorem worldF_os (os : Os) : (worldF os).os = os := by
  unfold worldF
  rw [World.layVars_os]
  rfl
noncomputable def laidB (os : Os) : List Nat := (List.range (World.doorLaid Tryz.prog 400 os).heap.size).filter fun b => b != 4
theorem fits0 (os : Os) : (World.doorLaid Tryz.prog 400 os).layFits Tryz.prog laidF (laidB os) = true := by kernel_rfl
theorem filt7 : (laid7.filter fun x => ["unicode/utf8.first"].contains x.1) = laidF := by kernel_rfl
theorem filt7n : (laid7.filter fun x => !["unicode/utf8.first"].contains x.1) = laid7.take 6 := by kernel_rfl
theorem met7 (os : Os) : laidMet Tryz.prog laid7 (worldF os) := by
  refine laidMet_layVars (w0 := World.doorLaid Tryz.prog 400 os) ["unicode/utf8.first"] (laidB os) ?_ ?_ ?_ ?_
  · rw [filt7]; rfl
  · rw [filt7]; exact fits0 os
  · rw [filt7]; kernel_rfl
  · rw [filt7n]
    exact LaidIn.of_run (laidB os) 8 (by kernel_rfl) (by kernel_rfl) (by kernel_rfl) (by kernel_rfl)
theorem door7 (os : Os) (args : Array Value) : laidMetH Tryz.prog laid7 ((worldF os).forCall (fun _ _ => 0) ⟨#[], args, []⟩).memory := by
  rw [MakeChecks.laidMetH_plain _ _ _ plain7]
  exact (met7 os).of_heap (by simp [World.memory, World.forCall, Input.heap])
end Go.Proofs.YtgndcgknedmalaaGreatDoor
