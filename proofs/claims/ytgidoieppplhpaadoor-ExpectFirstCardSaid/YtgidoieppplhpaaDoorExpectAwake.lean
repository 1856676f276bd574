/-
  Stage 9's statements: their own 'awake'; what holds of each Watch.
-/
import Derived.Test.YtgidoieppplhpaaDoorExpectMake
import Derived.Test.YtgidoieppplhpaaDoorExpectPut
import Derived.Lib.QuietBelow
namespace Go.Proofs.YtgidoieppplhpaaDoor
open Go.RowKit
set_option linter.unusedVariables false

def patA9 : Re := .thn (.one (withS st0 97)) (.one (withS st0 98))
def patB9 : Re := .one (withS st0 98)
theorem parse_a9 : parseF [97, 98] = (some patA9, 2) := by decide +kernel
theorem parse_b9 : parseF [98] = (some patB9, 1) := by decide +kernel
theorem of9_ab : of9 [[97, 98], [98]] = .inl [patA9, patB9] := by
  have h1 : pat9 [97, 98] = .inl patA9 := pat9_of (by decide) parse_a9 (by decide)
  have h2 : pat9 [98] = .inl patB9 := pat9_of (by decide) parse_b9 (by decide)
  simp [of9, h1, h2]
theorem arm_a9 : armA ([patA9, patB9].map auOf) ([] ++ [97]) = none := by decide +kernel
theorem arm_b9 : armA ([patA9, patB9].map auOf) ([] ++ [97] ++ [98]) = some 0 := by decide +kernel
set_option maxHeartbeats 1000000 in
theorem awake9_any (w : World) : Calls Tryd.prog 5 #[] w fun e w' => e = .returned (.bool true) ∧ Below w.heap.size w w' := by
  obtain ⟨w1, hw1⟩ : ∃ w1, w.alloc (.cells #[.string ⟨#[97, 98]⟩, .string ⟨#[98]⟩] 9) = w1 := ⟨_, rfl⟩
  have hb1 : Below w.heap.size w w1 := by rw [← hw1]; exact (Below.refl _ _).alloc (Nat.le_refl _) _
  have hk1 : Blk w1 w.heap.size 9 (([[97, 98], [98]] : List (List UInt8)).map strV).toArray := by rw [← hw1]; exact Blk.new _ _ _
  have HO := keepHid (ofw_any (n := 2) (c := 2) [[97, 98], [98]] (Sl.of_blk hk1 rfl (by decide)))
  have HB1 := keepHid hb1
  clear hb1 hk1
  go_enter Tryd.func5, Tryd.ntmps5
  go_wp2_with fail
  with_reducible refine HO.out.mono ?_
  rintro e w2 ⟨hb2, hc⟩
  rcases hc with ⟨h, _⟩ | ⟨_, _, ⟨rs, g, A, cap, hof, rfl, hg, hw⟩ | ⟨x, v, hof, _⟩⟩
  · simp at h
  · rw [of9_ab] at hof
    injection hof with hof
    subst hof
    have HB2 := keepHid (HB1.out.trans (hb2.mono HB1.out.size))
    have HG : Hid (w.heap.size ≤ g) := keepHid (Nat.le_trans HB1.out.size hg)
    have HP1 := keepHid (put_wait (hw.wat (Nat.le_refl _) (Nat.le_refl _)) 97 (by decide))
    rw [show (((97 : UInt8).toNat : Nat) : Int) = 97 from rfl] at HP1
    clear hb2 hg hw hw1 HO
    unfold ptrV
    go_wp2_with fail
    with_reducible refine HP1.out.mono ?_
    rintro e w3 ⟨⟨i, ha, _⟩ | ⟨_, rfl, hw3⟩, ht3⟩
    · rw [arm_a9] at ha; cases ha
    have HB3 := keepHid (HB2.out.trans (ht3.below (B := w.heap.size) (fun b e => by rw [e]; exact HG.out) HB2.out.size))
    have HP2 := keepHid (put_wait hw3 98 (by decide))
    rw [show (((98 : UInt8).toNat : Nat) : Int) = 98 from rfl] at HP2
    clear hw3 ht3 HP1
    go_wp2_with fail
    with_reducible refine HP2.out.mono ?_
    rintro e w4 ⟨⟨i, ha, rfl, hw4⟩ | ⟨ha, _⟩, ht4⟩
    · rw [arm_b9] at ha
      injection ha with ha
      subst ha
      have HB4 := keepHid (HB3.out.trans (ht4.below (B := w.heap.size) (fun b e => by rw [e]; exact HG.out) HB3.out.size))
      have HSE := keepHid (seen_any hw4.cells)
      have HOV := keepHid (over_any hw4.cells)
      clear hw4 ht4 HP2
      go_wp2_with fail
      with_reducible refine HSE.out.mono ?_
      rintro e w' ⟨rfl, rfl⟩
      go_wp2_with fail
      with_reducible refine HOV.out.mono ?_
      rintro e w' ⟨rfl, rfl⟩
      go_wp2
      go_ret
      exact ⟨rfl, HB4.out⟩
    · rw [arm_b9] at ha; cases ha
  · rw [of9_ab] at hof; cases hof
end Go.Proofs.YtgidoieppplhpaaDoor
