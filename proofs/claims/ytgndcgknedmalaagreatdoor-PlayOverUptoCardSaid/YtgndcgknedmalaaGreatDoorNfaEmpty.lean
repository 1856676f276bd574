/-
  nfa's Empty, by contract.
-/
import Derived.Test.YtgndcgknedmalaaGreatDoorNfaVar
import Derived.LoopTactic
namespace Go.Proofs.YtgndcgknedmalaaGreatDoor
open Go.RowKit
set_option linter.unusedVariables false

theorem tempty_any {lo g : Nat} {v3 v4 : Value} {b : Bool} {T : TbD} {w : World} (ht : Tab w lo g v3 v4 (.bool b) T) :
    Calls Tryz.prog 77 #[.pointer (some ⟨g, 0, none⟩)] w fun e w' => e = .returned (.bool b) ∧ w = w' := by
  obtain ⟨vs, vg, M, vals, h⟩ := ht
  have c5 : w.cell? ⟨g, 5, none⟩ = some (.bool b) := h.blk.cell 5
  clear h
  go_enter Tryz.func77, Tryz.ntmps77
  go_wp2
  go_ret
  exact ⟨rfl, rfl⟩
theorem tabA_empty {lo g : Nat} {A : Au} {w : World} (h : TabA w lo g A) : Calls Tryz.prog 77 #[.pointer (some ⟨g, 0, none⟩)] w fun e w' => e = .returned (.bool A.e) ∧ w = w' := by
  obtain ⟨F, c, L, k, ht, _⟩ := h
  exact tempty_any ht
end Go.Proofs.YtgndcgknedmalaaGreatDoor
