/-
  The words of the ways: what package manifest makes of them; what an entry of tokens must be.
-/
import Derived.Test.YtkhhcclomjfliaaGreatDoorManifestRows
import Derived.Test.YtkhhcclomjfliaaGreatDoorErrWrap
import Derived.Deep.DeepCutAuto
import Derived.LoopTactic
namespace Go.Proofs.YtkhhcclomjfliaaGreatDoor
open Go.RowKit
set_option linter.unusedVariables false

def wayVals : Array Value := #[.string (strB wCheck), .string (strB wCrc), .string (strB wLarge), .string (strB wBatch)]
/-- The words lie in a block. -/
def WaysAt (w : World) (g : Nat) : Prop := Blk w g 9 wayVals
theorem WaysAt.at_ {w : World} {g : Nat} (h : WaysAt w g) {k : Nat} (hk : k ≤ 3) : w.cell? ⟨g, k, none⟩ = some (.string (strB (wayL k))) := by
  rw [Blk.cell h]
  rcases (by omega : k = 0 ∨ k = 1 ∨ k = 2 ∨ k = 3) with rfl | rfl | rfl | rfl <;> rfl
theorem ways_any (w : World) : Calls Tryz.prog 52 #[] w fun e w' => e = .returned (.slice (some ⟨w.heap.size, 0, none⟩) 4 4) ∧ Below w.heap.size w w' ∧ WaysAt w' w.heap.size := by
  obtain ⟨w1, hw1⟩ : ∃ w1, w.alloc (.cells wayVals 9) = w1 := ⟨_, rfl⟩
  have hB : Below w.heap.size w w1 := by rw [← hw1]; exact (Below.refl _ _).alloc (Nat.le_refl _) _
  have hW : WaysAt w1 w.heap.size := by rw [← hw1]; exact Blk.new w _ _
  have HB := keepHid hB
  have HW := keepHid hW
  have HX := keepHid hw1
  clear hB hW hw1
  go_enter Tryz.func52, Tryz.ntmps52
  go_wp2
  go_ret
  exact ⟨rfl, by first | exact (by rw [← HX.out] at HB; exact HB.out), by first | exact (by rw [← HX.out] at HW; exact HW.out)⟩
def isW (w : Int) : Bool := decide (0 ≤ w) && decide (w ≤ 3)
theorem isWay_any (z : Int) (w : World) : Calls Tryz.prog 61 #[.int .i64 z] w fun e w' => e = .returned (.bool (isW z)) ∧ w = w' := by
  go_enter Tryz.func61, Tryz.ntmps61
  go_wp2
  all_goals
    go_ret
    exact ⟨ret_bool (by unfold isW; rw [Bool.eq_iff_iff]; simp only [Bool.and_eq_true, decide_eq_true_eq, Bool.false_eq_true, false_iff]; omega), rfl⟩
theorem word_any (z : Int) (w : World) : Calls Tryz.prog 40 #[.int .i64 z] w fun e w' => e = .returned (.string (strB (wayL z))) ∧ Below w.heap.size w w' := by
  have HI := keepHid (isWay_any z)
  cases hi : isW z with
  | false =>
    have hz : wayL z = wCheck := by
      unfold isW at hi
      simp at hi
      unfold wayL
      rw [if_neg (by omega), if_neg (by omega), if_neg (by omega)]
    rw [hi] at HI
    have HZ := keepHid hz
    clear hi hz
    go_enter Tryz.func40, Tryz.ntmps40
    go_wp2_with fail
    refine (HI.out _).mono ?_
    rintro e w1 ⟨rfl, rfl⟩
    go_wp2_with fail
    refine (ways_any _).mono ?_
    rintro e w1 ⟨rfl, hb, hw⟩
    have h0 := hw.at_ (k := 0) (by omega)
    have HB := keepHid hb
    generalize w.heap.size = g at h0 hw ⊢
    clear hb hw
    go_wp2
    go_ret
    exact ⟨by rw [HZ.out]; rfl, HB.out⟩
  | true =>
    obtain ⟨k, rfl, hk⟩ : ∃ k : Nat, z = (k : Int) ∧ k ≤ 3 := by
      unfold isW at hi
      simp at hi
      exact ⟨z.toNat, by omega, by omega⟩
    rw [hi] at HI
    clear hi
    go_enter Tryz.func40, Tryz.ntmps40
    go_wp2_with fail
    refine (HI.out _).mono ?_
    rintro e w1 ⟨rfl, rfl⟩
    go_wp2_with fail
    refine (ways_any _).mono ?_
    rintro e w1 ⟨rfl, hb, hw⟩
    have h0 := hw.at_ hk
    have HB := keepHid hb
    generalize w.heap.size = g at h0 hw ⊢
    clear hb hw
    have hk4 : (k : Int) ≤ 3 := by omega
    go_wp2
    go_ret
    exact ⟨rfl, HB.out⟩
def wayV (t : List UInt8) : Value := match wayOf t with
  | some k => .tuple #[.int .i64 (k : Int), .bool true]
  | none => .tuple #[.int .i64 0, .bool false]
theorem way_step {t : List UInt8} {k : Nat} (hk : k ≤ 3) (hb : ∀ j : Nat, j < k → t ≠ wayL j) (h : t = wayL k) : wayOf t = some k := by
  subst h
  rcases (by omega : k = 0 ∨ k = 1 ∨ k = 2 ∨ k = 3) with rfl | rfl | rfl | rfl <;> decide
theorem way_no {t : List UInt8} (hb : ∀ j : Nat, j < 4 → t ≠ wayL j) : wayOf t = none := by
  have h0 : t ≠ wCheck := hb 0 (by omega)
  have h1 : t ≠ wCrc := hb 1 (by omega)
  have h2 : t ≠ wLarge := hb 2 (by omega)
  have h3 : t ≠ wBatch := hb 3 (by omega)
  unfold wayOf
  rw [if_neg h0, if_neg h1, if_neg h2, if_neg h3]
theorem way_any (t : List UInt8) (w : World) : Calls Tryz.prog 30 #[.string (strB t)] w fun e w' => e = .returned (wayV t) ∧ Below w.heap.size w w' := by
  have HY : Hid (∀ k : Nat, k ≤ 3 → (∀ j : Nat, j < k → t ≠ wayL j) → t = wayL k → wayV t = .tuple #[.int .i64 (k : Int), .bool true]) := keepHid fun k hk hb h => by unfold wayV; rw [way_step hk hb h]
  have HN : Hid ((∀ j : Nat, j < 4 → t ≠ wayL j) → wayV t = .tuple #[.int .i64 0, .bool false]) := keepHid fun hb => by unfold wayV; rw [way_no hb]
  generalize wayV t = R at *
  go_enter Tryz.func30, Tryz.ntmps30
  go_wp2_with fail
  refine (ways_any _).mono ?_
  rintro e w1 ⟨rfl, hb, hw⟩
  have HB := keepHid hb
  have HWA : Hid (∀ k : Nat, k ≤ 3 → w1.cell? ⟨w.heap.size, k, none⟩ = some (.string (strB (wayL k)))) := keepHid (fun k hk => hw.at_ hk)
  generalize hG : w.heap.size = G at *
  clear hb hw
  go_wp2_with fail
  go_loopw [8] (fun i wr => ∃ k : Nat, k ≤ 4 ∧ i = .int .i64 (k : Int) ∧ Hid (wr = w1) ∧ Hid (∀ j : Nat, j < k → t ≠ wayL j)) (fun i _ => 4 - (intOf i).toNat)
  case atStart => exact ⟨0, Nat.zero_le _, rfl, keepHid rfl, keepHid (fun j h => by omega)⟩
  case round =>
    obtain ⟨k, hk, rfl, HWR, HK⟩ := hrel
    obtain rfl := HWR.out
    by_cases hlt : k < 4
    · have hlt2 : (k : Int) < 4 := by omega
      have hc := HWA.out k (by omega)
      by_cases he : t = wayL k
      · have HE := keepHid (HY.out k (by omega) HK.out he)
        have hq : ((strB t).toList == (strB (wayL k)).toList) = true := strB_same he
        generalize strB (wayL k) = SK at *
        generalize strB t = ST at *
        clear he
        go_wp2
        go_ret2
        exact ⟨by rw [HE.out]; rfl, HB.out⟩
      · have HE := keepHid he
        have hq : ((strB t).toList == (strB (wayL k)).toList) = false := strB_diff he
        generalize strB (wayL k) = SK at *
        generalize strB t = ST at *
        clear he
        go_wp2
        go_roundw
        case rel => exact ⟨k + 1, by omega, by go_num, keepHid trivial, keepHid (fun j hj => by rcases Nat.lt_succ_iff_lt_or_eq.1 hj with h | rfl; exact HK.out j h; exact HE.out)⟩
        case measure => simp [intOf]; omega
    · obtain rfl : k = 4 := by omega
      go_wp2
      go_ret2
      exact ⟨by rw [HN.out HK.out]; rfl, HB.out⟩
end Go.Proofs.YtkhhcclomjfliaaGreatDoor
