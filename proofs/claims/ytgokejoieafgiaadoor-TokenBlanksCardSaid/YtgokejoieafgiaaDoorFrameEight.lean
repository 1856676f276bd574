/-
  What the variables that a row lists (four tables, one of them pinned by name, a type's handle, two errors) give a walk; the start that fits.
-/
import Derived.Test.YtgokejoieafgiaaDoorRows
import Derived.Test.YtgokejoieafgiaaDoorErrOne
import Derived.Test.YtgokejoieafgiaaDoorTokenNum
import Derived.Test.YtgokejoieafgiaaDoorFrame
import Derived.Test.YtgokejoieafgiaaDoorTie
import Derived.Lib.LaidTab
import Derived.Stop.LaidErr
import Derived.LaidLaws
import Derived.LaidHandle
import Derived.LaidMore
import Derived.Lay
import Derived.Stop.Joined
import Derived.SevenTiedAt
import Derived.ProofKit
namespace Go.Proofs.YtgokejoieafgiaaDoor
open Go.RowKit Go.ChangeShapes Go.WideShapes Go.ChangeAt
set_option linter.unusedVariables false

def laid8 : List (String × DataW Unit) := [("math/bits.deBruijn32tab", Rows.laid_math_bits_deBruijn32tab), ("math/bits.deBruijn64tab", Rows.laid_math_bits_deBruijn64tab), ("internal/strconv.uint64pow10", Rows.laid_internal_strconv_uint64pow10), ("unicode/utf8.acceptRanges", Rows.laid_unicode_utf8_acceptRanges), ("errors.errorType", Rows.laid_errors_errorType), ("strconv.ErrRange", Rows.laid_strconv_ErrRange), ("strconv.ErrSyntax", Rows.laid_strconv_ErrSyntax), ("unicode/utf8.first", Rows.laid_unicode_utf8_first)]
def laid7 : List (String × DataW Unit) := [("math/bits.deBruijn32tab", Rows.laid_math_bits_deBruijn32tab), ("math/bits.deBruijn64tab", Rows.laid_math_bits_deBruijn64tab), ("internal/strconv.uint64pow10", Rows.laid_internal_strconv_uint64pow10), ("unicode/utf8.acceptRanges", Rows.laid_unicode_utf8_acceptRanges), ("strconv.ErrRange", Rows.laid_strconv_ErrRange), ("strconv.ErrSyntax", Rows.laid_strconv_ErrSyntax), ("unicode/utf8.first", Rows.laid_unicode_utf8_first)]
def laidF : List (String × DataW Unit) := [("unicode/utf8.first", Rows.laid_unicode_utf8_first)]
theorem plain7 : (laid7.all fun x => x.2.handleName?.isNone) = true := by kernel_rfl
theorem gErrT : Tryd.prog.globalNamed "errors.errorType" = some 0 := by kernel_rfl
theorem rowRt : (Tryd.prog.cutTypes.find? (·.1 == "internal/reflectlite.rtype")).map (·.2) = some 82 := by kernel_rfl
theorem oneRow : ((List.range Tryd.prog.types.size).filter fun t => Tryd.prog.rowNamed t [101, 114, 114, 111, 114]) = [25] := by kernel_rfl
theorem laid8_parts {W : World} (h : laidMetH Tryd.prog laid8 W) : laidMet Tryd.prog laid7 W ∧ ErrT W := by
  have h' : laidMet Tryd.prog laid7 W ∧ handlesMet Tryd.prog [("errors.errorType", Rows.laid_errors_errorType)] W := h
  refine ⟨h'.1, ?_⟩
  obtain ⟨name, u, ty, e1, e2, e3, e4, e5⟩ := h'.2 _ (List.mem_singleton.2 rfl)
  have en : name = [101, 114, 114, 111, 114] := (Option.some.inj e1).symm
  subst en
  obtain rfl := Option.some.inj (rowRt.symm.trans e2)
  have hm : ty ∈ (List.range Tryd.prog.types.size).filter fun t => Tryd.prog.rowNamed t [101, 114, 114, 111, 114] := List.mem_filter.2 ⟨List.mem_range.2 e3, e4⟩
  rw [oneRow] at hm
  obtain rfl := List.mem_singleton.1 hm
  have hh : typeHandle Tryd.prog 25 = hndl 25 := by kernel_rfl
  rw [hh] at e5
  simpa [ErrT] using World.var?_cell gErrT e5 0
theorem gSyn : Tryd.prog.globalNamed "strconv.ErrSyntax" = some 2 := by kernel_rfl
theorem gSynT : (Tryd.prog.globals[2]?).map (·.type) = some 25 := by kernel_rfl
theorem gRan : Tryd.prog.globalNamed "strconv.ErrRange" = some 3 := by kernel_rfl
theorem gRanT : (Tryd.prog.globals[3]?).map (·.type) = some 25 := by kernel_rfl
theorem star : "*" ++ "errors.errorString" = "*errors.errorString" := by decide
theorem rowErr (u : TypeId) (h : Tryd.prog.typeName? 3 u = some "*errors.errorString") : u = 124 :=
  typeName_ptr_named (nm := "errors.errorString") (by rw [star]; kernel_rfl) (by kernel_rfl) (by decide) u (by rw [star]; exact h)
theorem errs_of {W : World} (h : laidMet Tryd.prog laid7 W) : Errs W := by
  have h1 := h.tail.tail.tail.tail
  obtain ⟨a0, _, hv0, -, -, -⟩ := laid_sentinel h1 gRan gRanT Tryd.underlying25 rowErr Tryd.underlying124 Tryd.underlying126 rfl rfl Tryd.underlying9 (by kernel_rfl) (by kernel_rfl)
  obtain ⟨a1, _, hv1, -, -, -⟩ := laid_sentinel h1.tail gSyn gSynT Tryd.underlying25 rowErr Tryd.underlying124 Tryd.underlying126 rfl rfl Tryd.underlying9 (by kernel_rfl) (by kernel_rfl)
  have c0 := World.var?_cell gRan hv0 0
  have c1 := World.var?_cell gSyn hv1 0
  exact ⟨⟨_, _, by simpa using c1⟩, _, _, by simpa using c0⟩
theorem errs8 {W : World} (h : laidMetH Tryd.prog laid8 W) : Errs W := errs_of (laid8_parts h).1
theorem errT8 {W : World} (h : laidMetH Tryd.prog laid8 W) : ErrT W := (laid8_parts h).2
theorem errs7 {W : World} (h : laidMetH Tryd.prog laid7 W) : Errs W := by
  rw [MakeChecks.laidMetH_plain _ _ _ plain7] at h
  exact errs_of h

/-- The start that fits: what the program's own initialisers leave, and the one table that they don't hold. -/
noncomputable def worldF (os : Os) : World := (World.doorLaid Tryd.prog 400 os).layVars Tryd.prog laidF
theorem worldF_os (os : Os) : (worldF os).os = os := by
  unfold worldF
  rw [World.layVars_os]
  rfl
noncomputable def laidB (os : Os) : List Nat := (List.range (World.doorLaid Tryd.prog 400 os).heap.size).filter fun b => b != 4
theorem fits0 (os : Os) : (World.doorLaid Tryd.prog 400 os).layFits Tryd.prog laidF (laidB os) = true := by kernel_rfl
theorem filt7 : (laid7.filter fun x => ["unicode/utf8.first"].contains x.1) = laidF := by kernel_rfl
theorem filt7n : (laid7.filter fun x => !["unicode/utf8.first"].contains x.1) = laid7.take 6 := by kernel_rfl
theorem met7 (os : Os) : laidMet Tryd.prog laid7 (worldF os) := by
  refine laidMet_layVars (w0 := World.doorLaid Tryd.prog 400 os) ["unicode/utf8.first"] (laidB os) ?_ ?_ ?_ ?_
  · rw [filt7]; rfl
  · rw [filt7]; exact fits0 os
  · rw [filt7]; kernel_rfl
  · rw [filt7n]
    exact LaidIn.of_run (laidB os) 8 (by kernel_rfl) (by kernel_rfl) (by kernel_rfl) (by kernel_rfl)
theorem door7 (os : Os) (args : Array Value) : laidMetH Tryd.prog laid7 ((worldF os).forCall (fun _ _ => 0) ⟨#[], args, []⟩).memory := by
  rw [MakeChecks.laidMetH_plain _ _ _ plain7]
  exact (met7 os).of_heap (by simp [World.memory, World.forCall, Input.heap])
theorem filt8 : (laid8.filter fun x => x.2.handleName?.isNone) = laid7 := by kernel_rfl
theorem hand8 (os : Os) : (laid8.filter fun x => x.2.handleName?.isSome).all (handleAtB Tryd.prog (worldF os)) = true := by kernel_rfl
theorem door8 (os : Os) (args : Array Value) : laidMetH Tryd.prog laid8 ((worldF os).forCall (fun _ _ => 0) ⟨#[], args, []⟩).memory := by
  have h : laidMetH Tryd.prog laid8 (worldF os) := laidMetH_of_parts (by rw [filt8]; exact met7 os) (hand8 os)
  exact h.of_heap (by simp [World.memory, World.forCall, Input.heap])
end Go.Proofs.YtgokejoieafgiaaDoor
