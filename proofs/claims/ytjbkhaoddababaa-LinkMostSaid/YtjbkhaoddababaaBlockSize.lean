/-
  What 'Size' of a block answers.
-/
import Derived.Test.YtjbkhaoddababaaMake
import Derived.Test.YtjbkhaoddababaaBlockPlain
import Derived.WalkKit
import Derived.ProofKit
import Derived.WalkLawsBesides
import Derived.IntWalk
import Derived.RegionTactic
import Derived.BigRegion
import Derived.ChangeAlike
import Derived.Deep.QuietTactic
import Derived.BigQuiet
import Derived.Deep.RegionHeld3
import Derived.Deep.DrawnRows
import Derived.Outline
namespace Go.Proofs.Ytjbkhaoddababaa
open Go.RowKit
set_option linter.unusedVariables false

theorem dataSize_any (x : Nat) (hx : x < 256) (w : World) :
    Calls Try.prog 49 #[.int .u8 (x : Int)] w fun e w' => e = .returned (.int .i64 (szD x : Nat)) ∧ w = w' := by
  by_cases h1 : x = 1
  · subst h1
    go_enter Try.func49, Try.ntmps49
    go_wp2
    go_ret
    exact ⟨ret_int (by simp [szD]), rfl⟩
  · by_cases h2 : x = 2
    · subst h2
      go_enter Try.func49, Try.ntmps49
      go_wp2
      go_ret
      exact ⟨ret_int (by simp [szD]), rfl⟩
    · have e1 : ((x : Int) == 1) = false := by simp; omega
      have e2 : ((x : Int) == 2) = false := by simp; omega
      have HZ := keepHid (szD_other h1 h2)
      clear h1 h2
      go_enter Try.func49, Try.ntmps49
      go_wp2
      go_ret
      exact ⟨ret_int (by rw [HZ.out]; rfl), rfl⟩

theorem dataSize_1 (w : World) : Calls Try.prog 49 #[.int .u8 1] w fun e w' => e = .returned (.int .i64 128) ∧ w = w' := dataSize_any 1 (by omega) w
theorem dataSize_2 (w : World) : Calls Try.prog 49 #[.int .u8 2] w fun e w' => e = .returned (.int .i64 1024) ∧ w = w' := dataSize_any 2 (by omega) w

theorem size_any (x : Nat) (hx : x < 256) (crc : Bool) (w : World) :
    Calls Try.prog 48 #[.int .u8 (x : Int), .bool crc] w fun e w' => e = .returned (.int .i64 (szA x crc : Nat)) ∧ w = w' := by
  obtain ⟨n, hn⟩ : ∃ n, szD x = n := ⟨_, rfl⟩
  have HN := keepHid hn
  have hle : n ≤ 1024 := by rw [← hn]; exact szD_le x
  clear hn
  by_cases h0 : n = 0
  · subst h0
    go_enter Try.func48, Try.ntmps48
    go_wp2_with fail
    refine (dataSize_any x hx _).mono ?_
    rintro e w' ⟨rfl, rfl⟩
    rw [HN.out]
    go_wp2
    go_ret
    exact ⟨ret_int (by unfold szA; rw [HN.out]; rfl), rfl⟩
  · have e0 : ((n : Int) == 0) = false := by simp; omega
    cases crc
    all_goals
      go_enter Try.func48, Try.ntmps48
      go_wp2_with fail
      refine (dataSize_any x hx _).mono ?_
      rintro e w' ⟨rfl, rfl⟩
      rw [HN.out]
      go_wp2
      go_ret
      exact ⟨ret_int (by unfold szA szT; rw [HN.out, if_neg h0]; simp; try omega), rfl⟩
end Go.Proofs.Ytjbkhaoddababaa
