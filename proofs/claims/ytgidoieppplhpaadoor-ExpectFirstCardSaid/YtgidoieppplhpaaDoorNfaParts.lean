/-
  Texts that fit two patterns, one behind the other, or a pattern's star, by where the first one ends.
-/
import Derived.Test.YtgidoieppplhpaaDoorNfaPlain
namespace Go.Proofs.YtgidoieppplhpaaDoor
set_option linter.unusedVariables false

theorem mt_thn {a b : Re} {s : List UInt8} : Mt (.thn a b) s ↔ ∃ k, k ≤ s.length ∧ Mt a (s.take k) ∧ Mt b (s.drop k) := by
  constructor
  · rintro ⟨u, v, rfl, h1, h2⟩
    exact ⟨u.length, by simp, by simpa using h1, by simpa using h2⟩
  · rintro ⟨k, hk, h1, h2⟩
    exact ⟨s.take k, s.drop k, (List.take_append_drop k s).symm, h1, h2⟩
theorem mt_star {a : Re} {s : List UInt8} (hs : s ≠ []) : Mt (.star a) s ↔ ∃ k, 1 ≤ k ∧ k ≤ s.length ∧ Mt a (s.take k) ∧ Mt (.star a) (s.drop k) := by
  constructor
  · rintro ⟨us, rfl, h⟩
    induction us with
    | nil => exact absurd rfl hs
    | cons u us ih =>
      cases u with
      | nil =>
        have e : (([] : List UInt8) :: us).flatten = us.flatten := by simp
        rw [e] at hs ⊢
        exact ih (fun v hv => h v (by simp [hv])) hs
      | cons c u =>
        refine ⟨(c :: u).length, by simp, by simp, by simpa using h (c :: u) (by simp), us, by simp, fun v hv => h v (by simp [hv])⟩
  · rintro ⟨k, _, hk, h1, us, h2, h3⟩
    refine ⟨s.take k :: us, ?_, fun u hu => ?_⟩
    · rw [List.flatten_cons, ← h2, List.take_append_drop]
    · rcases List.mem_cons.1 hu with rfl | hu
      · exact h1
      · exact h3 u hu
end Go.Proofs.YtgidoieppplhpaaDoor
