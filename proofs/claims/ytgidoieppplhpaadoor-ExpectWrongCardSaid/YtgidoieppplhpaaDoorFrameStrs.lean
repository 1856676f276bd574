/-
  Arguments that come in, opened: slices of strings.
-/
import Derived.Test.YtgidoieppplhpaaDoorOwnOne
import Derived.Test.YtgidoieppplhpaaDoorFrameRows
namespace Go.Proofs.YtgidoieppplhpaaDoor
open Go.RowKit Go.ChangeShapes Go.WideShapes Go.Deep
set_option linter.unusedVariables false

section
variable {H : Type} {enc : TypeId × Value → H} {P : Program} {W : World} {base : Nat} {held : Bool}
theorem open_strs {b0 : Nat} {t e : TypeId} {v : Value} {d : DataW H} {p : List MemPlace} (ht : P.underlying t = some (.slice e)) (he : P.underlying e = some .string) (hc : P.cellsOf e = 1)
    (hv : Value.okWide P W .any b0 t v) (h : DataW.Trod enc P W base (fun _ => true) held t v d p) :
    ∃ A n c ss, v = .slice A n c ∧ Sl strV W A n ss ∧ n ≤ c ∧ c ≤ 9223372036854775807 := by
  obtain ⟨a0, len0, cap0, rfl⟩ := okWide_slice ht hv
  obtain ⟨fuel, hf⟩ := h
  rcases open_slice1 ht hc hf with ⟨hcs', hx⟩ | ⟨a, len, cap, m, n, V, D, Pl, hcs', hb, hl, hm, hmm, hx, hi⟩
  · simp [Value.cells] at hcs'
    obtain ⟨rfl, rfl, rfl⟩ := hcs'
    exact ⟨none, 0, 0, [], rfl, Sl.nil, Nat.le_refl _, Nat.zero_le _⟩
  · simp [Value.cells] at hcs'
    obtain ⟨rfl, rfl, rfl⟩ := hcs'
    simp only [if_true] at hmm
    subst hmm
    obtain ⟨rows, hr1, hr2⟩ := choose_list (α := List UInt8) (p := fun k b => W.cell? (a.add k) = some (strV b)) len0 (fun k hk => by
      obtain ⟨h1, h2⟩ := hi k (by omega)
      obtain ⟨s, hb, _⟩ := DataW.trod_string he h2
      have hV : V k = .string s := by simpa using hb
      rw [hV] at h1
      exact ⟨s.data.toList, h1⟩)
    have hm' : m ≤ 9223372036854775807 := by unfold maxLen at hm; exact hm
    exact ⟨some a, len0, _, rows, rfl, ⟨hr1, by unfold maxLen; omega, fun k x hk => ⟨a, rfl, by have := World.block_lt_of_cell? _ _ (hr2 k x hk); rwa [ad_block] at this, hr2 k x hk⟩⟩, hl, hm'⟩
end
end Go.Proofs.YtgidoieppplhpaaDoor
