/-
  What the two errors that a row lists give a walk.
-/
import Derived.Test.YtipajdjcmgkcbaaDoorFrameDoor
import Derived.Test.YtipajdjcmgkcbaaDoorHeaderParse
namespace Go.Proofs.YtipajdjcmgkcbaaDoor
open Go.RowKit
set_option linter.unusedVariables false

theorem gSyn : Tryd.prog.globalNamed "strconv.ErrSyntax" = some 2 := by kernel_rfl
theorem gSynT : (Tryd.prog.globals[2]?).map (·.type) = some 53 := by kernel_rfl
theorem gRan : Tryd.prog.globalNamed "strconv.ErrRange" = some 3 := by kernel_rfl
theorem gRanT : (Tryd.prog.globals[3]?).map (·.type) = some 53 := by kernel_rfl
theorem star : "*" ++ "errors.errorString" = "*errors.errorString" := by decide
theorem rowErr (u : TypeId) (h : Tryd.prog.typeName? 3 u = some "*errors.errorString") : u = 90 :=
  typeName_ptr_named (nm := "errors.errorString") (by rw [star]; kernel_rfl) (by kernel_rfl) (by decide) u (by rw [star]; exact h)
theorem errs5 {W : World} (h : laidMetH Tryd.prog laid5 W) : Errs W := by
  rw [MakeChecks.laidMetH_plain _ _ _ plain5] at h
  have h1 := h.tail.tail.tail
  obtain ⟨a0, _, hv0, -, -, -⟩ := laid_sentinel h1 gRan gRanT Tryd.underlying53 rowErr Tryd.underlying90 Tryd.underlying92 rfl rfl Tryd.underlying9 (by kernel_rfl) (by kernel_rfl)
  obtain ⟨a1, _, hv1, -, -, -⟩ := laid_sentinel h1.tail gSyn gSynT Tryd.underlying53 rowErr Tryd.underlying90 Tryd.underlying92 rfl rfl Tryd.underlying9 (by kernel_rfl) (by kernel_rfl)
  have c0 := World.var?_cell gRan hv0 0
  have c1 := World.var?_cell gSyn hv1 0
  exact ⟨⟨_, _, by simpa using c1⟩, _, _, by simpa using c0⟩
end Go.Proofs.YtipajdjcmgkcbaaDoor
