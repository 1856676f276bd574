/-
  What the six variables that a row lists (three tables, a type's handle, two errors) give a walk.
-/
import Derived.Test.YtgdjopiejmdbnaaGreatDoorFrameErrs
import Derived.Test.YtgdjopiejmdbnaaGreatDoorErrOne
import Derived.LaidLaws
import Derived.LaidHandle
namespace Go.Proofs.YtgdjopiejmdbnaaGreatDoor
open Go.RowKit Go.ChangeShapes Go.WideShapes Go.ChangeAt
set_option linter.unusedVariables false

def laid6 : List (String × DataW Unit) := [("math/bits.deBruijn32tab", Rows.laid_math_bits_deBruijn32tab), ("math/bits.deBruijn64tab", Rows.laid_math_bits_deBruijn64tab), ("internal/strconv.uint64pow10", Rows.laid_internal_strconv_uint64pow10), ("errors.errorType", Rows.laid_errors_errorType), ("strconv.ErrRange", Rows.laid_strconv_ErrRange), ("strconv.ErrSyntax", Rows.laid_strconv_ErrSyntax)]
theorem gErrT : Tryz.prog.globalNamed "errors.errorType" = some 0 := by kernel_rfl
theorem rowRt : (Tryz.prog.cutTypes.find? (·.1 == "internal/reflectlite.rtype")).map (·.2) = some 146 := by kernel_rfl
theorem oneRow : ((List.range Tryz.prog.types.size).filter fun t => Tryz.prog.rowNamed t [101, 114, 114, 111, 114]) = [34] := by kernel_rfl
theorem laid6_parts {W : World} (h : laidMetH Tryz.prog laid6 W) : laidMetH Tryz.prog laid5 W ∧ ErrT W := by
  have h' : laidMet Tryz.prog laid5 W ∧ handlesMet Tryz.prog [("errors.errorType", Rows.laid_errors_errorType)] W := h
  refine ⟨by rw [MakeChecks.laidMetH_plain _ _ _ plain5]; exact h'.1, ?_⟩
  obtain ⟨name, u, ty, e1, e2, e3, e4, e5⟩ := h'.2 _ (List.mem_singleton.2 rfl)
  have en : name = [101, 114, 114, 111, 114] := (Option.some.inj e1).symm
  subst en
  obtain rfl := Option.some.inj (rowRt.symm.trans e2)
  have hm : ty ∈ (List.range Tryz.prog.types.size).filter fun t => Tryz.prog.rowNamed t [101, 114, 114, 111, 114] := List.mem_filter.2 ⟨List.mem_range.2 e3, e4⟩
  rw [oneRow] at hm
  obtain rfl := List.mem_singleton.1 hm
  have hh : typeHandle Tryz.prog 34 = hndl 34 := by kernel_rfl
  rw [hh] at e5
  simpa [ErrT] using World.var?_cell gErrT e5 0
theorem tabs6 {W : World} (h : laidMetH Tryz.prog laid6 W) : Tabs W := tabs5 (laid6_parts h).1
theorem errs6 {W : World} (h : laidMetH Tryz.prog laid6 W) : Errs W := errs5 (laid6_parts h).1
theorem errT6 {W : World} (h : laidMetH Tryz.prog laid6 W) : ErrT W := (laid6_parts h).2
/-- The start that fits: what the program's own initialisers leave. -/
theorem door6 (os : Os) (args : Array Value) : laidMetH Tryz.prog laid6 ((World.doorLaid Tryz.prog 400 os).forCall (fun _ _ => 0) ⟨#[], args, []⟩).memory :=
  laidMetH_of_parts3 (fuel := 8) (laidMet_of_run' 8 (by kernel_rfl) (by kernel_rfl)) (by kernel_rfl) (by kernel_rfl)
end Go.Proofs.YtgdjopiejmdbnaaGreatDoor
