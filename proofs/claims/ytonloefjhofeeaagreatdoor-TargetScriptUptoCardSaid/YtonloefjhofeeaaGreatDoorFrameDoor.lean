/-
  What the tables and the errors that a row lists give a walk; a file that comes in, opened; the start that fits the rows.
-/
import Derived.Test.YtonloefjhofeeaaGreatDoorRows
import Derived.Test.YtonloefjhofeeaaGreatDoorHeaderName
import Derived.Test.YtonloefjhofeeaaGreatDoorHeaderNum
import Derived.Test.YtonloefjhofeeaaGreatDoorFrame
import Derived.Test.YtonloefjhofeeaaGreatDoorTie
import Derived.Lib.LaidTab
import Derived.Stop.LaidErr
import Derived.LaidMore
import Derived.Stop.Joined
import Derived.SevenTiedAt
import Derived.ProofKit
namespace Go.Proofs.YtonloefjhofeeaaGreatDoor
open Go.RowKit Go.ChangeShapes Go.WideShapes Go.ChangeAt
set_option linter.unusedVariables false

/-! ### What lies at start-up -/
def laid3 : List (String × DataW Unit) := [("math/bits.deBruijn32tab", Rows.laid_math_bits_deBruijn32tab), ("math/bits.deBruijn64tab", Rows.laid_math_bits_deBruijn64tab), ("internal/strconv.uint64pow10", Rows.laid_internal_strconv_uint64pow10)]
def laid5 : List (String × DataW Unit) := [("math/bits.deBruijn32tab", Rows.laid_math_bits_deBruijn32tab), ("math/bits.deBruijn64tab", Rows.laid_math_bits_deBruijn64tab), ("internal/strconv.uint64pow10", Rows.laid_internal_strconv_uint64pow10), ("strconv.ErrRange", Rows.laid_strconv_ErrRange), ("strconv.ErrSyntax", Rows.laid_strconv_ErrSyntax)]
def bruijn64 : List Int := [0, 1, 56, 2, 57, 49, 28, 3, 61, 58, 42, 50, 38, 29, 17, 4, 62, 47, 59, 36, 45, 43, 51, 22, 53, 39, 33, 30, 24, 18, 12, 5, 63, 55, 48, 27, 60, 41, 37, 16, 46, 35, 44, 21, 52, 32, 23, 11, 54, 26, 40, 15, 34, 20, 31, 10, 25, 14, 19, 9, 13, 8, 7, 6]
theorem bruijn_is : (Rows.laid_math_bits_deBruijn64tab : DataW Unit) = Lib.tabData .u8 bruijn64 := rfl
theorem pow_is : (Rows.laid_internal_strconv_uint64pow10 : DataW Unit) = Lib.tabData .u64 Lib.pow10Tab := by kernel_rfl
theorem gBruijn : Tryz.prog.globalNamed "math/bits.deBruijn64tab" = some 3 := by kernel_rfl
theorem gBruijnT : (Tryz.prog.globals[3]?).map (·.type) = some 177 := by kernel_rfl
theorem gPowT : (Tryz.prog.globals[0]?).map (·.type) = some 154 := by kernel_rfl
theorem tabs_of_laid {r : List (String × DataW Unit)} {W : World}
    (h : laidMet Tryz.prog (("math/bits.deBruijn32tab", Rows.laid_math_bits_deBruijn32tab) :: ("math/bits.deBruijn64tab", Rows.laid_math_bits_deBruijn64tab) :: ("internal/strconv.uint64pow10", Rows.laid_internal_strconv_uint64pow10) :: r) W) : Tabs W := by
  have h1 := h.tail
  have h2 := h1.tail
  rw [bruijn_is] at h1
  rw [pow_is] at h2
  have t1 := Lib.tabIs_of_head gBruijn gBruijnT Tryz.underlying177 Tryz.underlying5 (by kernel_rfl) (by kernel_rfl) h1
  have t2 := Lib.tabIs_of_head gPow gPowT Tryz.underlying154 Tryz.underlying139 (by kernel_rfl) (by kernel_rfl) h2
  exact ⟨t2, t1.cell gBruijn 7 (by decide)⟩
theorem plain3 : (laid3.all fun x => x.2.handleName?.isNone) = true := by kernel_rfl
theorem plain5 : (laid5.all fun x => x.2.handleName?.isNone) = true := by kernel_rfl
theorem tabs3 {W : World} (h : laidMetH Tryz.prog laid3 W) : Tabs W := by
  rw [MakeChecks.laidMetH_plain _ _ _ plain3] at h
  exact tabs_of_laid h
theorem tabs5 {W : World} (h : laidMetH Tryz.prog laid5 W) : Tabs W := by
  rw [MakeChecks.laidMetH_plain _ _ _ plain5] at h
  exact tabs_of_laid h

/-- The start that fits: what the program's own initialisers leave. -/
theorem door3 (os : Os) (args : Array Value) : laidMetH Tryz.prog laid3 ((World.doorLaid Tryz.prog 400 os).forCall (fun _ _ => 0) ⟨#[], args, []⟩).memory :=
  laidMetH_of_parts3 (fuel := 8) (laidMet_of_run' 8 (by kernel_rfl) (by kernel_rfl)) (by kernel_rfl) (by kernel_rfl)
theorem door5 (os : Os) (args : Array Value) : laidMetH Tryz.prog laid5 ((World.doorLaid Tryz.prog 400 os).forCall (fun _ _ => 0) ⟨#[], args, []⟩).memory :=
  laidMetH_of_parts3 (fuel := 8) (laidMet_of_run' 8 (by kernel_rfl) (by kernel_rfl)) (by kernel_rfl) (by kernel_rfl)

/-! ### A file that comes in -/
section
variable {H : Type} {enc : TypeId × Value → H} {P : Program} {W : World}
theorem trod_struct4 {base : Nat} {spare : Nat → Bool} {held : Bool} {t : TypeId} {f0 f1 f2 f3 : Field} {fuel : Nat} {cs : List Value} {x : DataW H × List MemPlace} (ht : P.underlying t = some (.struct #[f0, f1, f2, f3])) (h : DataW.trod enc P W base spare held fuel t cs = some x) :
    ∃ y0 y1 y2 y3 n, x.1 = .agg [y0.1, y1.1, y2.1, y3.1] ∧ cs.length = P.cellsOf t ∧ DataW.trod enc P W base spare held n f0.type ((cs.drop f0.offset).take (P.cellsOf f0.type)) = some y0 ∧
      DataW.trod enc P W base spare held n f1.type ((cs.drop f1.offset).take (P.cellsOf f1.type)) = some y1 ∧ DataW.trod enc P W base spare held n f2.type ((cs.drop f2.offset).take (P.cellsOf f2.type)) = some y2 ∧
      DataW.trod enc P W base spare held n f3.type ((cs.drop f3.offset).take (P.cellsOf f3.type)) = some y3 := by
  obtain ⟨xs, n, _, rfl, hl, hlen, hf⟩ := DataW.trod_struct ht h
  match xs, hlen with
  | [y0, y1, y2, y3], _ => exact ⟨y0, y1, y2, y3, n, by simp, hl, by simpa using hf 0 f0 rfl, by simpa using hf 1 f1 rfl, by simpa using hf 2 f2 rfl, by simpa using hf 3 f3 rfl⟩

/-- What an int of 64 bits can be. -/
structure Fits (f : Fl) : Prop where
  name : f.name.length ≤ 9223372036854775807
  size : -9223372036854775808 ≤ f.size ∧ f.size ≤ 9223372036854775807
  time : -9223372036854775808 ≤ f.time ∧ f.time ≤ 9223372036854775807
  mode : -9223372036854775808 ≤ f.mode ∧ f.mode ≤ 9223372036854775807
theorem str_of (s : ByteArray) : s = strB s.data.toList := rfl
theorem open_file {base b0 : Nat} {spare : Nat → Bool} {held : Bool} {t s i : TypeId} {f0 f1 f2 f3 : Field} {v : Value} {d : DataW H} {p : List MemPlace} (ht : P.underlying t = some (.struct #[f0, f1, f2, f3]))
    (h0 : f0.type = s ∧ f0.offset = 0) (h1 : f1.type = i ∧ f1.offset = 1) (h2 : f2.type = i ∧ f2.offset = 2) (h3 : f3.type = i ∧ f3.offset = 3) (hs : P.underlying s = some .string) (hi : P.underlying i = some (.int .i64))
    (cs : P.cellsOf s = 1) (ci : P.cellsOf i = 1) (ct : P.cellsOf t = 4) (hv : Value.okWide P W .any b0 t v) (h : DataW.Trod enc P W base spare held t v d p) :
    ∃ f : Fl, v = flV f ∧ Fits f := by
  obtain ⟨c, rfl, hsz⟩ : ∃ c, v = .agg c ∧ c.size = P.cellsOf t := by
    simp only [Value.okWide, ht] at hv
    obtain ⟨c, e1, e2, _⟩ := hv
    exact ⟨c, e1, e2⟩
  obtain ⟨fuel, hf⟩ := h
  obtain ⟨y0, y1, y2, y3, n, _, hl, t0, t1, t2, t3⟩ := trod_struct4 ht hf
  rw [h0.1, h0.2, cs] at t0
  rw [h1.1, h1.2, ci] at t1
  rw [h2.1, h2.2, ci] at t2
  rw [h3.1, h3.2, ci] at t3
  rw [ct] at hl
  have hc : (Value.agg c).cells.toList = c.toList := rfl
  rw [hc] at hl t0 t1 t2 t3
  obtain ⟨l⟩ := c
  match l, hl with
  | [c0, c1, c2, c3], _ =>
    obtain ⟨sv, q0, _, hm⟩ := DataW.trod_string hs t0
    obtain ⟨z1, q1, _, r1⟩ := DataW.trod_int hi t1
    obtain ⟨z2, q2, _, r2⟩ := DataW.trod_int hi t2
    obtain ⟨z3, q3, _, r3⟩ := DataW.trod_int hi t3
    have e0 : c0 = .string sv := by simpa using q0
    have e1 : c1 = .int .i64 z1 := by simpa using q1
    have e2 : c2 = .int .i64 z2 := by simpa using q2
    have e3 : c3 = .int .i64 z3 := by simpa using q3
    subst e0 e1 e2 e3
    refine ⟨⟨sv.data.toList, z1, z2, z3⟩, rfl, ?_, wf_i64 r1, wf_i64 r2, wf_i64 r3⟩
    have : sv.size = sv.data.toList.length := rfl
    unfold maxLen at hm
    show sv.data.toList.length ≤ _
    omega
end
end Go.Proofs.YtonloefjhofeeaaGreatDoor
