/-
  Arguments that come in, opened: slices of bools. Over any program.
-/
import Derived.Test.YtlmjijejgfhmmaaNfaSl
import Derived.Test.YtlmjijejgfhmmaaFrameRows
namespace Go.Proofs.Ytlmjijejgfhmmaa
open Go.RowKit Go.ChangeShapes Go.WideShapes Go.Deep
set_option linter.unusedVariables false

section
variable {H : Type} {enc : TypeId × Value → H} {P : Program} {W : World} {base : Nat} {held : Bool}
theorem open_bools {b0 : Nat} {t e : TypeId} {v : Value} {d : DataW H} {p : List MemPlace} (ht : P.underlying t = some (.slice e)) (he : P.underlying e = some .bool) (hc : P.cellsOf e = 1) (hby : P.bytesOf e = 1)
    (hv : Value.okWide P W .any b0 t v) (h : DataW.Trod enc P W base (fun _ => true) held t v d p) (hsz : ∀ el sp, d = .slice el sp → (el.length + sp.length) * P.bytesOf e ≤ reachBytes) :
    ∃ A n c bs, v = .slice A n c ∧ Sl Value.bool W A n bs ∧ n ≤ c ∧ c ≤ 140737488351232 := by
  obtain ⟨a0, len0, cap0, rfl⟩ := okWide_slice ht hv
  obtain ⟨fuel, hf⟩ := h
  rcases open_slice1 ht hc hf with ⟨hcs', hx⟩ | ⟨a, len, cap, m, n, V, D, Pl, hcs', hb, hl, hm, hmm, hx, hi⟩
  · simp [Value.cells] at hcs'
    obtain ⟨rfl, rfl, rfl⟩ := hcs'
    exact ⟨none, 0, 0, [], rfl, Sl.nil, Nat.le_refl _, Nat.zero_le _⟩
  · simp [Value.cells] at hcs'
    obtain ⟨rfl, rfl, rfl⟩ := hcs'
    simp only [if_true] at hmm
    subst hmm
    obtain ⟨rows, hr1, hr2⟩ := choose_list (α := Bool) (p := fun k b => W.cell? (a.add k) = some (.bool b)) len0 (fun k hk => by
      obtain ⟨h1, h2⟩ := hi k (by omega)
      obtain ⟨b, hb, _⟩ := DataW.trod_bool he h2
      have hV : V k = .bool b := by simpa using hb
      rw [hV] at h1
      exact ⟨b, h1⟩)
    have hd : d = .slice ((List.range len0).map D) ((List.range (m - len0)).map fun j => D (len0 + j)) := by injection hx
    have h1 := hsz _ _ hd
    rw [hby] at h1
    simp only [List.length_map, List.length_range, reachBytes] at h1
    exact ⟨some a, len0, _, rows, rfl, ⟨hr1, by omega, fun k x hk => ⟨a, rfl, by have := World.block_lt_of_cell? _ _ (hr2 k x hk); rwa [ad_block] at this, hr2 k x hk⟩⟩, hl, by omega⟩
end
end Go.Proofs.Ytlmjijejgfhmmaa
