/-
  Names of files: what a letter is, what may stand in a name (header.Name).
-/
import Derived.Test.YtonloefjhofeeaaGreatDoorHeaderPlain
import Derived.Test.YtonloefjhofeeaaGreatDoorStr
import Derived.WalkKit
import Derived.ProofKit
import Derived.WalkLawsBesides
import Derived.IntWalk
import Derived.RegionTactic
import Derived.BigRegion
import Derived.ChangeAlike
import Derived.Deep.QuietTactic
import Derived.BigQuiet
import Derived.Deep.RegionHeld3
import Derived.Deep.DrawnRows
import Derived.Outline
namespace Go.Proofs.YtonloefjhofeeaaGreatDoor
open Go.RowKit
set_option linter.unusedVariables false

theorem letter_any (c : UInt8) (w : World) :
    Calls Tryz.prog 137 #[.int .u8 (c.toNat : Int)] w fun e w' => e = .returned (.bool (letterB c)) ∧ w = w' := by
  obtain ⟨n, hn⟩ : ∃ n, c.toNat = n := ⟨_, rfl⟩
  have hlt : n < 256 := by rw [← hn]; exact c.toNat_lt
  have HL : Hid (letterB c = ((decide (97 ≤ n) && decide (n ≤ 122)) || (decide (65 ≤ n) && decide (n ≤ 90)))) := keepHid (by unfold letterB; rw [hn])
  rw [hn]
  clear hn
  go_enter Tryz.func137, Tryz.ntmps137
  go_wp2
  all_goals
    go_ret
    exact ⟨ret_bool (by rw [HL.out]; rw [Bool.eq_iff_iff]; simp only [Bool.or_eq_true, Bool.and_eq_true, decide_eq_true_eq, Bool.false_eq_true, eq_self, true_iff, false_iff]; omega), rfl⟩

theorem within_any (c : UInt8) (w : World) :
    Calls Tryz.prog 138 #[.int .u8 (c.toNat : Int)] w fun e w' => e = .returned (.bool (withinB c)) ∧ w = w' := by
  have HC := keepHid (letter_any c)
  obtain ⟨b, hb⟩ : ∃ b, letterB c = b := ⟨_, rfl⟩
  rw [hb] at HC
  obtain ⟨n, hn⟩ : ∃ n, c.toNat = n := ⟨_, rfl⟩
  have hlt : n < 256 := by rw [← hn]; exact c.toNat_lt
  have HL : Hid (withinB c = (b || (decide (48 ≤ n) && decide (n ≤ 57)) || decide (n = 46) || decide (n = 45) || decide (n = 95))) := keepHid (by unfold withinB; rw [hn, hb])
  rw [hn] at HC ⊢
  clear hn hb
  cases b
  all_goals
    go_enter Tryz.func138, Tryz.ntmps138
    go_wp2_with (refine (HC.out _).mono ?_; rintro e w' ⟨rfl, rfl⟩)
    all_goals
      go_ret
      exact ⟨ret_bool (by rw [HL.out]; clear HC HL; rw [Bool.eq_iff_iff]; simp at * <;> omega), rfl⟩

theorem all_take_succ {p : UInt8 → Bool} {l : List UInt8} {k : Nat} {c : UInt8} (h : l[k]? = some c) : (l.take (k + 1)).all p = ((l.take k).all p && p c) := by
  rw [List.take_succ_of h]; simp

theorem name_any (l : List UInt8) (hl : l.length ≤ 9223372036854775807) (w : World) :
    Calls Tryz.prog 129 #[.string (strB l)] w fun e w' => e = .returned (.bool (nameB l)) ∧ w = w' := by
  have hsz : (strB l).size = l.length := strB_size l
  rcases l with _ | ⟨c, r⟩
  · go_enter Tryz.func129, Tryz.ntmps129
    go_wp2
    go_ret
    exact ⟨rfl, rfl⟩
  · obtain ⟨l, hle⟩ : ∃ l, c :: r = l := ⟨_, rfl⟩
    obtain ⟨N, hNl⟩ : ∃ N, l.length = N := ⟨_, rfl⟩
    have hpos : 1 ≤ N := by rw [← hNl, ← hle]; simp
    have h0 : l[0]? = some c := by rw [← hle]; rfl
    have HN : Hid (nameB l = (decide (1 ≤ N) && decide (N ≤ 32) && letterB c && l.all withinB)) := keepHid (by rw [← hNl, ← hle]; rfl)
    have HT : Hid (∀ k d, l[k]? = some d → (l.take (k + 1)).all withinB = ((l.take k).all withinB && withinB d)) := keepHid fun k d h => all_take_succ h
    have HE : Hid (l.take N = l) := keepHid (by rw [← hNl, List.take_length])
    have HG : Hid (∀ k, k < N → ∃ d, l[k]? = some d) := keepHid fun k hk => ⟨_, List.getElem?_eq_getElem (by rw [hNl]; exact hk)⟩
    have HM : Hid (∀ k d, l[k]? = some d → withinB d = false → l.all withinB = false) := keepHid fun k d h hd => by
      rw [Bool.eq_false_iff]
      intro ha
      rw [List.all_eq_true.1 ha d (List.mem_of_getElem? h)] at hd
      cases hd
    rw [hle] at hsz hl ⊢
    rw [hNl] at hsz hl
    clear hle hNl
    have hidx := fun w => run_idx h0 0 rfl w
    have HC := keepHid (letter_any c)
    obtain ⟨b, hb⟩ : ∃ b, letterB c = b := ⟨_, rfl⟩
    rw [hb] at HC HN
    clear hb h0
    have e0 : ((N : Int) == 0) = false := by simp; omega
    by_cases h32 : N ≤ 32
    · have e1 : ¬ (32 : Int) < (N : Int) := by omega
      cases b
      · go_enter Tryz.func129, Tryz.ntmps129
        go_wp2_with (refine (HC.out _).mono ?_; rintro e w' ⟨rfl, rfl⟩)
        go_ret
        exact ⟨ret_bool (by rw [HN.out]; simp), rfl⟩
      · go_enter Tryz.func129, Tryz.ntmps129
        go_wp2_with (refine (HC.out _).mono ?_; rintro e w' ⟨rfl, rfl⟩)
        clear hidx
        go_loop [20] (fun i => ∃ k : Nat, k ≤ N ∧ i = .int .i64 k ∧ (l.take k).all withinB = true) (fun i => N - (intOf i).toNat)
        case atStart => exact ⟨0, Nat.zero_le _, rfl, rfl⟩
        case round =>
          obtain ⟨k, hk, rfl, hall⟩ := hrel
          have HA := keepHid hall
          clear hall
          rcases Nat.lt_or_ge k N with hkN | hkN
          · obtain ⟨d, hd⟩ := HG.out k hkN
            have hidx := fun w => run_idx hd k rfl w
            have HD := keepHid (within_any d)
            have HK := keepHid hd
            obtain ⟨b, hb⟩ : ∃ b, withinB d = b := ⟨_, rfl⟩
            rw [hb] at HD
            have HB := keepHid hb
            clear hb hd
            cases b
            · go_wp2_with (refine (HD.out _).mono ?_; rintro e w' ⟨rfl, rfl⟩)
              go_ret
              exact ⟨ret_bool (by rw [HN.out, HM.out k d HK.out HB.out]; simp), rfl⟩
            · go_wp2_with (refine (HD.out _).mono ?_; rintro e w' ⟨rfl, rfl⟩)
              go_round
              case rel => exact ⟨k + 1, by omega, by go_num, by rw [HT.out k d HK.out, HA.out, HB.out]; rfl⟩
              case measure => simp [intOf]; omega
          · obtain rfl : k = N := by omega
            go_wp2
            go_ret
            exact ⟨ret_bool (by rw [HN.out]; have := HA.out; rw [HE.out] at this; rw [this]; simp; omega), rfl⟩
    · have e1 : (32 : Int) < (N : Int) := by omega
      go_enter Tryz.func129, Tryz.ntmps129
      go_wp2_with (refine (HC.out _).mono ?_; rintro e w' ⟨rfl, rfl⟩)
      go_ret
      exact ⟨ret_bool (by rw [HN.out]; simp; omega), rfl⟩

/-! ### A file that may be told -/
end Go.Proofs.YtonloefjhofeeaaGreatDoor
