/-
  What bytes.Clone answers.
-/
import Derived.Test.YtonloefjhofeeaaGreatDoorMake
import Derived.Lib.BufferMore
import Derived.WalkKit
import Derived.ProofKit
import Derived.WalkLawsBesides
import Derived.IntWalk
import Derived.RegionTactic
import Derived.BigRegion
import Derived.ChangeAlike
import Derived.Deep.QuietTactic
import Derived.BigQuiet
import Derived.Deep.RegionHeld3
import Derived.Deep.DrawnRows
import Derived.Outline
namespace Go.Proofs.YtonloefjhofeeaaGreatDoor
open Go.RowKit
set_option linter.unusedVariables false

/-- bytes.Clone. -/
theorem clone_any (A : Option Addr) (n c B : Nat) (bs : List UInt8) (w : World) (h : Bys w B A n bs) (hn : n ≤ 140737488355328) :
    Calls Tryz.prog 64 #[.slice A n c] w (RetB w bs) := by
  have hl := h.len
  subst hl
  rcases A with _ | ad
  · have h0 : bs = [] := by
      rcases hb : bs with _ | ⟨b, r⟩
      · rfl
      · obtain ⟨_, _, e, _⟩ := h.at_ (k := 0) (by rw [hb]; simp)
        cases e
    subst h0
    have hq := Lib.run_eql_slice_nil_nil (P := Tryz.prog) w 0 c Tryz.underlying31
    go_enter Tryz.func64, Tryz.ntmps64
    go_wp2
    go_ret
    exact ⟨none, 0, rfl, OwnB.nil _ _ _, Nat.le_refl _, by omega, Below.refl _ _⟩
  · have H := keepHid h
    have hq := Lib.run_eql_slice_some_nil (P := Tryz.prog) w ad bs.length c Tryz.underlying31
    obtain ⟨w1, hw1⟩ : ∃ w1, w.alloc (.cells #[] 5) = w1 := ⟨_, rfl⟩
    have H0 : Hid (OwnB w1 w.heap.size 5 (.slice (some ⟨w.heap.size, 0, none⟩) 0 0) 0 []) := keepHid (by rw [← hw1]; exact own_new w w.heap.size _ 0 [] #[] rfl (Nat.le_refl _) rfl rfl (by omega))
    have HB : Hid (Below w.heap.size w w1) := keepHid (by rw [← hw1]; exact (Below.refl _ _).alloc (Nat.le_refl _) _)
    have H1 : Hid (Bys w1 B (some ad) bs.length bs) := keepHid (by
      rw [← hw1]
      refine ⟨h.1, h.2.1, fun k c hk => ?_⟩
      obtain ⟨ad', e, hb, hc⟩ := h.2.2 k c hk
      exact ⟨ad', e, hb, (World.cell?_alloc_lt w _ _ (World.block_lt_of_cell? _ _ hc)).trans hc⟩)
    clear h
    go_enter Tryz.func64, Tryz.ntmps64
    go_wp2_with (at_builtin; refine wpList_append_bytes _ rfl _ _ 31 rfl w.heap.size 5 byteT _ _ _ (by rfl) H0.out _ _ _ _ _ (by rfl) H1.out _ (Nat.zero_add _) (by omega) HB.out.size ?_)
    intro A1 cap1 w2 ho ht _ hn1 hn2
    have hb : Below w.heap.size w w2 := HB.out.trans (ht.below (own_base H0.out) HB.out.size)
    go_wp2
    go_ret
    exact ⟨A1, cap1, rfl, ho, hn1, hn2, hb⟩
end Go.Proofs.YtonloefjhofeeaaGreatDoor
