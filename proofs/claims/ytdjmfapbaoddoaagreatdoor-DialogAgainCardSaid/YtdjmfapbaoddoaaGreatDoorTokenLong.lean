/-
  Texts that are too long; how long a token's text is.
-/
import Derived.Test.YtdjmfapbaoddoaaGreatDoorTokenCut
import Derived.Test.YtdjmfapbaoddoaaGreatDoorTkA
namespace Go.Proofs.YtdjmfapbaoddoaaGreatDoor
open Go.RowKit
set_option linter.unusedVariables false

theorem cut_long (l : List UInt8) (hl : 4096 < l.length) (hl2 : l.length ≤ 140737488351232) (w : World) :
    Calls Tryz.prog 27 #[.string (strB l)] w fun e w' => e = .returned (.tuple #[.slice none 0 0, faultV 7 0]) ∧ w' = w := by
  have hlen : (strB l).size = l.length := strB_size l
  have HW := keepHid (wrap_any 7 0)
  have h1 : (4096 : Int) < (l.length : Int) := by omega
  go_enter Tryz.func27, Tryz.ntmps27
  go_wp2
  go_step3
  go_wp2_with (refine (HW.out _).mono ?_; rintro e w' ⟨rfl, rfl⟩)
  rw [Exit.noGoto_ret]
  go_ret2
  exact ⟨rfl, rfl⟩
/-- A token's text is no longer than the text. -/
theorem cut_short (l : List UInt8) (p : Nat) : ∀ ts, cutR l p = .ok ts → ∀ t ∈ ts, t.text.length ≤ l.length := by
  refine cut_ind (fun l p x => ∀ ts, x = .ok ts → ∀ t ∈ ts, t.text.length ≤ l.length) ?_ ?_ ?_ ?_ ?_ l p
  · intro p ts h t ht
    cases h
    obtain rfl : t = ⟨0, [], 0, p⟩ := by simpa using ht
    simp
  · intro l p k h1 h2 h ts hts t ht
    have := h ts hts t ht
    rw [List.length_drop] at this
    omega
  · intro c r p ts h; cases h
  · intro l p t n q hf h ts hts; cases hts
  · intro l p t n ts hf h us hus u hu
    cases hus
    have hx := firstT_le hf
    rcases List.mem_cons.1 hu with rfl | hu
    · show t.text.length ≤ _
      have h1 := hx.2.1
      have h2 := hx.2.2.1
      simp at h1 h2
      omega
    · have := h ts rfl u hu
      rw [List.length_drop] at this
      omega
end Go.Proofs.YtdjmfapbaoddoaaGreatDoor
