/-
  What the two errors that a row lists give a walk.
-/
import Derived.Test.YtgdjopiejmdbnaaGreatDoorFrameDoor
import Derived.Test.YtgdjopiejmdbnaaGreatDoorHeaderParse
namespace Go.Proofs.YtgdjopiejmdbnaaGreatDoor
open Go.RowKit
set_option linter.unusedVariables false

theorem gSyn : Tryz.prog.globalNamed "strconv.ErrSyntax" = some 3 := by kernel_rfl
theorem gSynT : (Tryz.prog.globals[3]?).map (·.type) = some 34 := by kernel_rfl
theorem gRan : Tryz.prog.globalNamed "strconv.ErrRange" = some 4 := by kernel_rfl
theorem gRanT : (Tryz.prog.globals[4]?).map (·.type) = some 34 := by kernel_rfl
theorem star : "*" ++ "errors.errorString" = "*errors.errorString" := by decide
theorem rowErr (u : TypeId) (h : Tryz.prog.typeName? 3 u = some "*errors.errorString") : u = 193 :=
  typeName_ptr_named (nm := "errors.errorString") (by rw [star]; kernel_rfl) (by kernel_rfl) (by decide) u (by rw [star]; exact h)
theorem errs5 {W : World} (h : laidMetH Tryz.prog laid5 W) : Errs W := by
  rw [MakeChecks.laidMetH_plain _ _ _ plain5] at h
  have h1 := h.tail.tail.tail
  obtain ⟨a0, _, hv0, -, -, -⟩ := laid_sentinel h1 gRan gRanT Tryz.underlying34 rowErr Tryz.underlying193 Tryz.underlying195 rfl rfl Tryz.underlying9 (by kernel_rfl) (by kernel_rfl)
  obtain ⟨a1, _, hv1, -, -, -⟩ := laid_sentinel h1.tail gSyn gSynT Tryz.underlying34 rowErr Tryz.underlying193 Tryz.underlying195 rfl rfl Tryz.underlying9 (by kernel_rfl) (by kernel_rfl)
  have c0 := World.var?_cell gRan hv0 0
  have c1 := World.var?_cell gSyn hv1 0
  exact ⟨⟨_, _, by simpa using c1⟩, _, _, by simpa using c0⟩
end Go.Proofs.YtgdjopiejmdbnaaGreatDoor
