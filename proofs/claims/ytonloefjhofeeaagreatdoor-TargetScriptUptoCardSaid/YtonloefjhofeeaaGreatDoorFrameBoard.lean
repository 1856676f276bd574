/-
  What the variables that a row lists (four tables, one of them pinned by name, two errors) give a walk that reads and writes numbers in bases 8, 10 and 16; the start that fits.
-/
import Derived.Test.YtonloefjhofeeaaGreatDoorRows
import Derived.Test.YtonloefjhofeeaaGreatDoorHexNum
import Derived.Test.YtonloefjhofeeaaGreatDoorHeaderParse
import Derived.Test.YtonloefjhofeeaaGreatDoorFrameDoor
import Derived.Test.YtonloefjhofeeaaGreatDoorFrame
import Derived.Test.YtonloefjhofeeaaGreatDoorTie
import Derived.Lib.LaidTab
import Derived.Stop.LaidErr
import Derived.LaidLaws
import Derived.LaidHandle
import Derived.LaidMore
import Derived.Lay
import Derived.Stop.Joined
import Derived.SevenTiedAt
import Derived.ProofKit
namespace Go.Proofs.YtonloefjhofeeaaGreatDoor
open Go.RowKit Go.ChangeShapes Go.WideShapes Go.ChangeAt
set_option linter.unusedVariables false

def laid7 : List (String × DataW Unit) := [("math/bits.deBruijn32tab", Rows.laid_math_bits_deBruijn32tab), ("math/bits.deBruijn64tab", Rows.laid_math_bits_deBruijn64tab), ("internal/strconv.uint64pow10", Rows.laid_internal_strconv_uint64pow10), ("unicode/utf8.acceptRanges", Rows.laid_unicode_utf8_acceptRanges), ("strconv.ErrRange", Rows.laid_strconv_ErrRange), ("strconv.ErrSyntax", Rows.laid_strconv_ErrSyntax), ("unicode/utf8.first", Rows.laid_unicode_utf8_first)]
def laidF : List (String × DataW Unit) := [("unicode/utf8.first", Rows.laid_unicode_utf8_first)]
theorem plain7 : (laid7.all fun x => x.2.handleName?.isNone) = true := by kernel_rfl
theorem gSyn : Tryz.prog.globalNamed "strconv.ErrSyntax" = some 6 := by kernel_rfl
theorem gSynT : (Tryz.prog.globals[6]?).map (·.type) = some 94 := by kernel_rfl
theorem gRan : Tryz.prog.globalNamed "strconv.ErrRange" = some 7 := by kernel_rfl
theorem gRanT : (Tryz.prog.globals[7]?).map (·.type) = some 94 := by kernel_rfl
theorem star : "*" ++ "errors.errorString" = "*errors.errorString" := by decide
theorem rowErr (u : TypeId) (h : Tryz.prog.typeName? 3 u = some "*errors.errorString") : u = 191 :=
  typeName_ptr_named (nm := "errors.errorString") (by rw [star]; kernel_rfl) (by kernel_rfl) (by decide) u (by rw [star]; exact h)
theorem errs_of {W : World} (h : laidMet Tryz.prog laid7 W) : Errs W := by
  have h1 := h.tail.tail.tail.tail
  obtain ⟨a0, _, hv0, -, -, -⟩ := laid_sentinel h1 gRan gRanT Tryz.underlying94 rowErr Tryz.underlying191 Tryz.underlying193 rfl rfl Tryz.underlying9 (by kernel_rfl) (by kernel_rfl)
  obtain ⟨a1, _, hv1, -, -, -⟩ := laid_sentinel h1.tail gSyn gSynT Tryz.underlying94 rowErr Tryz.underlying191 Tryz.underlying193 rfl rfl Tryz.underlying9 (by kernel_rfl) (by kernel_rfl)
  have c0 := World.var?_cell gRan hv0 0
  have c1 := World.var?_cell gSyn hv1 0
  exact ⟨⟨_, _, by simpa using c1⟩, _, _, by simpa using c0⟩
theorem errs7 {W : World} (h : laidMetH Tryz.prog laid7 W) : Errs W := by
  rw [MakeChecks.laidMetH_plain _ _ _ plain7] at h
  exact errs_of h

noncomputable def worldF (os : Os) : World := (World.doorLaid Tryz.prog 400 os).layVars Tryz.prog laidF
theorem worldF_os (os : Os) : (worldF os).os = os := by
  unfold worldF
  rw [World.layVars_os]
  rfl
noncomputable def laidB (os : Os) : List Nat := (List.range (World.doorLaid Tryz.prog 400 os).heap.size).filter fun b => b != 4
theorem fits7 (os : Os) : (World.doorLaid Tryz.prog 400 os).layFits Tryz.prog laidF (laidB os) = true := by kernel_rfl
theorem filt7 : (laid7.filter fun x => ["unicode/utf8.first"].contains x.1) = laidF := by kernel_rfl
theorem filt7n : (laid7.filter fun x => !["unicode/utf8.first"].contains x.1) = laid7.take 6 := by kernel_rfl
theorem met7 (os : Os) : laidMet Tryz.prog laid7 (worldF os) := by
  refine laidMet_layVars (w0 := World.doorLaid Tryz.prog 400 os) ["unicode/utf8.first"] (laidB os) ?_ ?_ ?_ ?_
  · rw [filt7]; rfl
  · rw [filt7]; exact fits7 os
  · rw [filt7]; kernel_rfl
  · rw [filt7n]
    exact LaidIn.of_run (laidB os) 8 (by kernel_rfl) (by kernel_rfl) (by kernel_rfl) (by kernel_rfl)
theorem door7 (os : Os) (args : Array Value) : laidMetH Tryz.prog laid7 ((worldF os).forCall (fun _ _ => 0) ⟨#[], args, []⟩).memory := by
  rw [MakeChecks.laidMetH_plain _ _ _ plain7]
  exact (met7 os).of_heap (by simp [World.memory, World.forCall, Input.heap])

/-- What lies at start-up: tables, errors. -/
structure Sup (w : World) : Prop where
  tabs : Tabs w
  errs : Errs w
  four : Four w
theorem Sup.below {w w' : World} {B : Nat} (h : Sup w) (hb : Below B w w') (hB : w.heap.size ≤ B) : Sup w' := ⟨h.tabs.below hb hB, h.errs.below hb hB, h.four.below hb hB⟩
theorem sup7 {W : World} (h : laidMetH Tryz.prog laid7 W) : Sup W := by
  rw [MakeChecks.laidMetH_plain _ _ _ plain7] at h
  refine ⟨tabs_of_laid h, errs_of h, ?_⟩
  have h1 := h.tail
  rw [bruijn_is] at h1
  exact (Lib.tabIs_of_head gBruijn gBruijnT Tryz.underlying177 Tryz.underlying5 (by kernel_rfl) (by kernel_rfl) h1).cell gBruijn 15 (by decide)
end Go.Proofs.YtonloefjhofeeaaGreatDoor
