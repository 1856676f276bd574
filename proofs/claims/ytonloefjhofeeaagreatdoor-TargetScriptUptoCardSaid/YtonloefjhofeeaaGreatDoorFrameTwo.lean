/-
  Arguments that come in, opened: a struct of two ints.
-/
import Derived.Test.YtonloefjhofeeaaGreatDoorFrame
import Derived.ChangeSame
namespace Go.Proofs.YtonloefjhofeeaaGreatDoor
open Go.RowKit Go.ChangeShapes Go.WideShapes
set_option linter.unusedVariables false
section
variable {H : Type} {enc : TypeId × Value → H} {P : Program} {W : World}
theorem open_two {base b0 : Nat} {spare : Nat → Bool} {held : Bool} {t i : TypeId} {f0 f1 : Field} {v : Value} {d : DataW H} {p : List MemPlace} (ht : P.underlying t = some (.struct #[f0, f1]))
    (h0 : f0.type = i ∧ f0.offset = 0) (h1 : f1.type = i ∧ f1.offset = 1) (hi : P.underlying i = some (.int .i64))
    (ci : P.cellsOf i = 1) (ct : P.cellsOf t = 2) (hv : Value.okWide P W .any b0 t v) (h : DataW.Trod enc P W base spare held t v d p) :
    ∃ y z : Int, v = .agg #[.int .i64 y, .int .i64 z] ∧ (-9223372036854775808 ≤ y ∧ y ≤ 9223372036854775807) ∧ (-9223372036854775808 ≤ z ∧ z ≤ 9223372036854775807) := by
  obtain ⟨c, rfl, hsz⟩ : ∃ c, v = .agg c ∧ c.size = P.cellsOf t := by
    simp only [Value.okWide, ht] at hv
    obtain ⟨c, e1, e2, _⟩ := hv
    exact ⟨c, e1, e2⟩
  obtain ⟨fuel, hf⟩ := h
  obtain ⟨y0, y1, n, _, hl, t0, t1⟩ := trod_struct2 ht hf
  rw [h0.1, h0.2, ci] at t0
  rw [h1.1, h1.2, ci] at t1
  rw [ct] at hl
  have hc : (Value.agg c).cells.toList = c.toList := rfl
  rw [hc] at hl t0 t1
  obtain ⟨l⟩ := c
  match l, hl with
  | [c0, c1], _ =>
    obtain ⟨z0, q0, _, r0⟩ := DataW.trod_int hi t0
    obtain ⟨z1, q1, _, r1⟩ := DataW.trod_int hi t1
    have e0 : c0 = .int .i64 z0 := by simpa using q0
    have e1 : c1 = .int .i64 z1 := by simpa using q1
    subst e0 e1
    exact ⟨z0, z1, rfl, wf_i64 r0, wf_i64 r1⟩
end
end Go.Proofs.YtonloefjhofeeaaGreatDoor
