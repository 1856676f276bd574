/-
  The names that numbers make.
-/
import Derived.Test.YtkhhcclomjfliaaGreatDoorProg
import Derived.Test.YtkhhcclomjfliaaGreatDoorHeaderPlain
import Derived.Test.YtkhhcclomjfliaaGreatDoorTurn
import Derived.WalkKit
import Derived.ProofKit
import Derived.WalkLawsBesides
import Derived.IntWalk
import Derived.RegionTactic
import Derived.BigRegion
import Derived.ChangeAlike
import Derived.Deep.QuietTactic
import Derived.BigQuiet
import Derived.Deep.RegionHeld3
import Derived.Deep.DrawnRows
import Derived.Outline
namespace Go.Proofs.YtkhhcclomjfliaaGreatDoor
open Go.RowKit
set_option linter.unusedVariables false

/-! ### Names by numbers -/
def pickL : List UInt8 := [97, 98, 99, 88, 89, 90, 48, 49, 46, 45, 95]
def pickB (n : UInt8) : UInt8 := pickL.getD (n.toNat % 11) 0
def nmL (ns : List UInt8) : List UInt8 := 102 :: (ns.take 8).map pickB
theorem pick_within (n : UInt8) : withinB (pickB n) = true := by
  have key : ∀ i : Fin 11, withinB (pickL.getD i.val 0) = true := by decide
  exact key ⟨n.toNat % 11, Nat.mod_lt _ (by omega)⟩
theorem nm_name (ns : List UInt8) : nameB (nmL ns) = true := by
  have hl : (nmL ns).length ≤ 9 := by unfold nmL; simp; omega
  unfold nameB
  have h1 : (nmL ns).all withinB = true := by
    unfold nmL
    rw [List.all_cons, List.all_map]
    have : (ns.take 8).all (withinB ∘ pickB) = true := List.all_eq_true.2 fun x _ => pick_within x
    rw [this]; rfl
  have h2 : 1 ≤ (nmL ns).length := by unfold nmL; simp
  rw [h1, decide_eq_true h2, decide_eq_true (by omega : (nmL ns).length ≤ 32)]
  rfl
theorem one_pick (d : Nat) (hd : d < 11) (w : World) : (Instr.slice 9 (.string ⟨#[97, 98, 99, 88, 89, 90, 48, 49, 46, 45, 95]⟩) (some (.int .u8 (d : Int))) (some (.int .u8 ((d : Int) + 1))) none).run Tryz.prog w = .ok (.string (strB [pickL.getD d 0])) w := by
  rcases (by omega : d = 0 ∨ d = 1 ∨ d = 2 ∨ d = 3 ∨ d = 4 ∨ d = 5 ∨ d = 6 ∨ d = 7 ∨ d = 8 ∨ d = 9 ∨ d = 10) with rfl | rfl | rfl | rfl | rfl | rfl | rfl | rfl | rfl | rfl | rfl <;> kernel_rfl
theorem nm_step {ns : List UInt8} {k : Nat} {c : UInt8} (h : ns[k]? = some c) (hk : k < 8) : 102 :: ((ns.take k).take 8).map pickB ++ [pickB c] = 102 :: ((ns.take (k + 1)).take 8).map pickB := by
  rw [List.take_succ_of h, List.take_take, Nat.min_eq_right (by omega)]
  have : (ns.take k ++ [c]).length ≤ 8 := by simp; omega
  rw [List.take_of_length_le this]
  simp
theorem nm_stay {ns : List UInt8} {k : Nat} (hk : 8 ≤ k) : ((ns.take k).take 8).map pickB = ((ns.take (k + 1)).take 8).map pickB := by
  rw [List.take_take, List.take_take, Nat.min_eq_left hk, Nat.min_eq_left (by omega)]
set_option maxRecDepth 100000 in
set_option maxHeartbeats 4000000 in
theorem nm_any (A : Option Addr) (n c B : Nat) (ns : List UInt8) (w : World) (h : Bys w B A n ns) :
    Calls Tryz.prog 41 #[.slice A n c] w fun e w' => e = .returned (.string (strB (nmL ns))) ∧ w = w' := by
  have hl := h.len
  have HE : Hid (ns.take n = ns) := keepHid (by rw [← hl, List.take_length])
  have HS : Hid (∀ (k : Nat) (c : UInt8), ns[k]? = some c → k < 8 → 102 :: ((ns.take k).take 8).map pickB ++ [pickB c] = 102 :: ((ns.take (k + 1)).take 8).map pickB) := keepHid fun k c h hk => nm_step h hk
  have HT : Hid (∀ (k : Nat), 8 ≤ k → ((ns.take k).take 8).map pickB = ((ns.take (k + 1)).take 8).map pickB) := keepHid fun k hk => nm_stay hk
  have HL : Hid (∀ k, (102 :: ((ns.take k).take 8).map pickB).length ≤ 9) := keepHid fun k => by simp; omega
  have HH := keepHid h
  have HM := h.max
  clear h hl
  go_enter Tryz.func41, Tryz.ntmps41
  go_wp2
  go_loop [8, 3] (fun i s => ∃ k : Nat, k ≤ n ∧ i = .int .i64 k ∧ s = .string (strB (102 :: ((ns.take k).take 8).map pickB))) (fun i _ => n - (intOf i).toNat)
  case atStart => exact ⟨0, Nat.zero_le _, rfl, rfl⟩
  case round =>
    obtain ⟨k, hk, rfl, rfl⟩ := hrel
    by_cases hlt : k < n
    · obtain ⟨ad, x, rfl, _, hx, hcell⟩ := HH.out.at_ hlt
      by_cases h8 : k < 8
      · have hs := HS.out k x hx h8
        have hl9 := HL.out k
        have hadd := fun w => run_strAdd (P := Tryz.prog) (102 :: ((ns.take k).take 8).map pickB) [pickB x] (by simp at hl9 ⊢; omega) w
        rw [hs] at hadd
        obtain ⟨d, hd⟩ : ∃ d, x.toNat % 11 = d := ⟨_, rfl⟩
        have hp := one_pick d (by omega)
        have hpd : pickL.getD d 0 = pickB x := by unfold pickB; rw [hd]
        rw [hpd] at hp
        have e1 : ((x.toNat : Int) % 11) = (d : Int) := by omega
        have e2 : (d : Int) + 1 ≤ 11 := by omega
        have hu := u8lt x
        have h8' : (k : Int) < 8 := by omega
        generalize 102 :: ((ns.take k).take 8).map pickB = S at *
        generalize hS1 : 102 :: ((ns.take (k + 1)).take 8).map pickB = S1 at *
        have HS1 := keepHid hS1
        clear hs hl9 hx hpd hS1
        generalize x.toNat = xn at *
        clear hd
        go_wp2
        go_round
        case rel => exact ⟨k + 1, by omega, by go_num, by rw [HS1.out]⟩
        case measure => simp [intOf]; omega
      · have ht := HT.out k (by omega)
        have h8' : ¬ (k : Int) < 8 := by omega
        generalize ((ns.take k).take 8).map pickB = S at *
        have HS1 := keepHid ht
        clear ht hx
        go_wp2
        go_round
        case rel => exact ⟨k + 1, by omega, by go_num, by rw [HS1.out]⟩
        case measure => simp [intOf]; omega
    · obtain rfl : k = n := by omega
      have hS1 : 102 :: ((ns.take k).take 8).map pickB = nmL ns := by rw [HE.out]; rfl
      generalize 102 :: ((ns.take k).take 8).map pickB = S at *
      have HS1 := keepHid hS1
      clear hS1
      go_wp2
      go_ret
      exact ⟨by rw [← HS1.out]; rfl, rfl⟩

end Go.Proofs.YtkhhcclomjfliaaGreatDoor
