/-
  The document's example, with which each statement of the stage begins.
-/
import Derived.Test.YtomahdfilnbopaaStore
namespace Go.Proofs.Ytomahdfilnbopaa
open Go.RowKit
set_option linter.unusedVariables false

attribute [local irreducible] zrow
set_option maxRecDepth 100000 in
theorem awake_any (w : World) :
    Calls Try.prog 7 #[] w fun e w' => e = .returned (.bool true) ∧ Below w.heap.size w w' := by
  have hz := zero_run
  obtain ⟨Z, hZ⟩ : ∃ Z, zrow 16384 = Z := ⟨_, rfl⟩
  rw [hZ] at hz
  obtain ⟨w1, hw1⟩ : ∃ w1, w.alloc (.cells Z 28) = w1 := ⟨_, rfl⟩
  have hs1 : Sto w1 w.heap.size (zeros 16384) := by rw [← hw1]; exact sto_new w _ rfl Z hZ
  have hb1 : Below w.heap.size w w1 := by rw [← hw1]; exact (Below.refl _ _).alloc (Nat.le_refl _) _
  have hl1 : w1.heap.size = w.heap.size + 1 := by rw [← hw1]; simp
  have b1 : ∀ (W : World) (g : Nat), g = W.heap.size → Bys (W.alloc (.cells #[.int .u8 1, .int .u8 2] 5)) (g + 1) (some ⟨g, 0, none⟩) 2 [1, 2] := fun W g hg => bys_new W _ [1, 2] 2 rfl (by decide) _ rfl g hg
  have B1 := keepHid b1
  have HS1 := keepHid hs1
  have HB1 := keepHid hb1
  have HZ := keepHid hZ
  clear b1 hs1 hb1 hZ
  go_enter Try.func7, Try.ntmps7
  go_wp2_with fail
  refine (swrite_no _ 16383 _ 2 _ _ (by omega) (by omega) (by omega)).mono ?_
  rintro e w2 ⟨rfl, rfl⟩
  go_wp2_with fail
  refine (swrite_z w.heap.size (zeros 16384) 16382 16382 rfl _ 2 _ _ [1, 2] _ ((HS1.out.alloc _).alloc _) (B1.out _ _ (by first | rfl | (simp; omega) | simp)) (by omega)).mono ?_
  rintro e w3 ⟨rfl, hs3, ht3⟩
  have hz3 := ht3.size
  have HB3 : Hid (Below w.heap.size w w3) := keepHid (((HB1.out.alloc (by omega) _).alloc (by simp; omega) _).trans (ht3.below (B := w.heap.size) (fun i hi => Nat.le_of_eq hi.symm) (by simp; omega)))
  have HS3 := keepHid hs3
  have hg3 : getL (splice (zeros 16384) 16382 [1, 2]) 16382 2 = [1, 2] := get_put' (by rw [zeros_len]; simp) rfl
  have HG3 := keepHid hg3
  clear hs3 ht3 hg3
  go_wp2_with fail
  refine (sread_z w.heap.size _ 16382 2 16382 2 rfl rfl _ HS3.out (by omega)).mono ?_
  rintro e w4 ⟨rfl, hk4, hb4⟩
  rw [HG3.out] at hk4
  have hcv := run_str (P := Try.prog) (c := 2) 23 5 9 Try.underlying23 Try.underlying5 Try.underlying9 (bys_blk hk4 (n := 2) rfl (by omega))
  have HB4 : Hid (Below w.heap.size w w4) := keepHid (HB3.out.trans (hb4.mono HB3.out.size))
  have heq : (strB [1, 2]).toList = [1, 2] := strB_toList _
  clear hk4 hb4
  go_wp2
  go_ret
  exact ⟨rfl, HB4.out⟩
end Go.Proofs.Ytomahdfilnbopaa
