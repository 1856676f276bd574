/-
  What the variables that a row lists (four tables, one of them pinned by name, a type's handle, two errors) give a walk; the start that fits.
-/
import Derived.Test.YtgndcgknedmalaaGreatDoorRows
import Derived.Test.YtgndcgknedmalaaGreatDoorErrOne
import Derived.Test.YtgndcgknedmalaaGreatDoorTokenNum
import Derived.Test.YtgndcgknedmalaaGreatDoorFrameSeven
import Derived.Test.YtgndcgknedmalaaGreatDoorFrame
import Derived.Test.YtgndcgknedmalaaGreatDoorTie
import Derived.Lib.LaidTab
import Derived.Stop.LaidErr
import Derived.LaidLaws
import Derived.LaidHandle
import Derived.LaidMore
import Derived.Lay
import Derived.Stop.Joined
import Derived.SevenTiedAt
import Derived.ProofKit
namespace Go.Proofs.YtgndcgknedmalaaGreatDoor
open Go.RowKit Go.ChangeShapes Go.WideShapes Go.ChangeAt
set_option linter.unusedVariables false

def laid8 : List (String × DataW Unit) := [("math/bits.deBruijn32tab", Rows.laid_math_bits_deBruijn32tab), ("math/bits.deBruijn64tab", Rows.laid_math_bits_deBruijn64tab), ("internal/strconv.uint64pow10", Rows.laid_internal_strconv_uint64pow10), ("unicode/utf8.acceptRanges", Rows.laid_unicode_utf8_acceptRanges), ("errors.errorType", Rows.laid_errors_errorType), ("strconv.ErrRange", Rows.laid_strconv_ErrRange), ("strconv.ErrSyntax", Rows.laid_strconv_ErrSyntax), ("unicode/utf8.first", Rows.laid_unicode_utf8_first)]
theorem gErrT : Tryz.prog.globalNamed "errors.errorType" = some 0 := by kernel_rfl
theorem rowRt : (Tryz.prog.cutTypes.find? (·.1 == "internal/reflectlite.rtype")).map (·.2) = some 186 := by kernel_rfl
theorem oneRow : ((List.range Tryz.prog.types.size).filter fun t => Tryz.prog.rowNamed t [101, 114, 114, 111, 114]) = [49] := by kernel_rfl
theorem laid8_parts {W : World} (h : laidMetH Tryz.prog laid8 W) : laidMet Tryz.prog laid7 W ∧ ErrT W := by
  have h' : laidMet Tryz.prog laid7 W ∧ handlesMet Tryz.prog [("errors.errorType", Rows.laid_errors_errorType)] W := h
  refine ⟨h'.1, ?_⟩
  obtain ⟨name, u, ty, e1, e2, e3, e4, e5⟩ := h'.2 _ (List.mem_singleton.2 rfl)
  have en : name = [101, 114, 114, 111, 114] := (Option.some.inj e1).symm
  subst en
  obtain rfl := Option.some.inj (rowRt.symm.trans e2)
  have hm : ty ∈ (List.range Tryz.prog.types.size).filter fun t => Tryz.prog.rowNamed t [101, 114, 114, 111, 114] := List.mem_filter.2 ⟨List.mem_range.2 e3, e4⟩
  rw [oneRow] at hm
  obtain rfl := List.mem_singleton.1 hm
  have hh : typeHandle Tryz.prog 49 = hndl 49 := by kernel_rfl
  rw [hh] at e5
  simpa [ErrT] using World.var?_cell gErrT e5 0
theorem errs8 {W : World} (h : laidMetH Tryz.prog laid8 W) : Errs W := errs_of (laid8_parts h).1
theorem errT8 {W : World} (h : laidMetH Tryz.prog laid8 W) : ErrT W := (laid8_parts h).2
theorem filt8 : (laid8.filter fun x => x.2.handleName?.isNone) = laid7 := by kernel_rfl
theorem hand8 (os : Os) : (laid8.filter fun x => x.2.handleName?.isSome).all (handleAtB Tryz.prog (worldF os)) = true := by kernel_rfl
theorem door8 (os : Os) (args : Array Value) : laidMetH Tryz.prog laid8 ((worldF os).forCall (fun _ _ => 0) ⟨#[], args, []⟩).memory := by
  have h : laidMetH Tryz.prog laid8 (worldF os) := laidMetH_of_parts (by rw [filt8]; exact met7 os) (hand8 os)
  exact h.of_heap (by simp [World.memory, World.forCall, Input.heap])
end Go.Proofs.YtgndcgknedmalaaGreatDoor
