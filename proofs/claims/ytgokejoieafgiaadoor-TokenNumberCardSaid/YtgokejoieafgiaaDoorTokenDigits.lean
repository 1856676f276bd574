/-
  The law's own numbers in a base.
-/
import Derived.Test.YtgokejoieafgiaaDoorTokenLow
import Derived.Test.YtgokejoieafgiaaDoorTokenDig
import Derived.Lib.QuietBelow
namespace Go.Proofs.YtgokejoieafgiaaDoor
open Go.RowKit
set_option linter.unusedVariables false

theorem hex_at {n : Nat} (h : n < 16) : hexL[n]? = some (chr n) := by
  have hl : n < hexL.length := h
  unfold chr
  rw [List.getD_eq_getElem?_getD, List.getElem?_eq_getElem hl]; rfl
set_option maxRecDepth 100000 in
set_option maxHeartbeats 4000000 in
theorem digits_any (b : Nat) (hb : Base b) : ∀ (n : Nat), n < 1152921504606846976 → ∀ w : World,
    Calls Tryd.prog 16 #[.int .u64 (n : Int), .int .u64 (b : Int)] w fun e w' => e = .returned (.string (strB (digL b n))) ∧ Below w.heap.size w w' := by
  intro n
  induction n using Nat.strongRecOn with
  | _ n ih =>
    intro hn w
    have h2 := hb.two
    have hb16 : (b : Int) ≤ 16 := by omega
    have hb2 : (2 : Int) ≤ (b : Int) := by omega
    by_cases hlt : n < b
    · have hcut : ∀ w, (Instr.slice 9 (.string ⟨#[48, 49, 50, 51, 52, 53, 54, 55, 56, 57, 97, 98, 99, 100, 101, 102]⟩) (some (.int .u64 (n : Int))) (some (.int .u64 ((n : Int) + 1))) none).run Tryd.prog w = .ok (.string (strB [chr n])) w := fun w => by
        have h := run_mid (l := hexL) (i := n) (j := n + 1) (by omega) (by show n + 1 ≤ 16; omega) .u64 .u64 (n : Int) ((n : Int) + 1) rfl (by omega) w
        have e : (hexL.drop n).take (n + 1 - n) = [chr n] := by
          have hl : n < hexL.length := by show n < 16; omega
          rw [List.drop_eq_getElem_cons hl, show n + 1 - n = 1 by omega]
          have := hex_at (n := n) (by omega)
          rw [List.getElem?_eq_getElem hl] at this
          simp [Option.some.inj this]
        rw [e] at h
        exact h
      have hlt' : (n : Int) < (b : Int) := by omega
      have HD := keepHid (digL_lt hlt)
      clear ih
      go_enter Tryd.func16, Tryd.ntmps16
      go_wp2
      go_ret
      exact ⟨by rw [HD.out]; rfl, Below.refl _ _⟩
    · have hge : ¬ (n : Int) < (b : Int) := by omega
      have H1 := keepHid (ih (n / b) (Nat.div_lt_self (by omega) (by omega)) (Nat.lt_of_le_of_lt (Nat.div_le_self _ _) hn))
      have hm : n % b < b := Nat.mod_lt _ (by omega)
      have H2 := keepHid (ih (n % b) (by omega) (by omega))
      have HL : Hid ((digL b (n / b)).length + (digL b (n % b)).length ≤ 1000) := keepHid (by
        have hp : (2 : Nat) ^ (60 + 1) ≤ b ^ (60 + 1) := Nat.pow_le_pow_left h2.1 _
        have hq : (2 : Nat) ^ (60 + 1) = 2305843009213693952 := by decide
        have h1 := digL_len h2.1 (n / b) 60 (Nat.lt_of_lt_of_le (by have : n / b ≤ n := Nat.div_le_self _ _; omega) hp)
        have h3 := digL_len h2.1 (n % b) 60 (Nat.lt_of_lt_of_le (by omega) hp)
        omega)
      have hadd : ∀ w, (Op.stringOp .add (strB (digL b (n / b))) (strB (digL b (n % b)))).run Tryd.prog w = .ok (.string (strB (digL b (n / b) ++ digL b (n % b)))) w := fun w => run_strAdd _ _ (by have := HL.out; omega) w
      have HD : Hid (digL b n = digL b (n / b) ++ digL b (n % b)) := keepHid (by rw [digL_ge (by omega) h2.1, digL_lt hm])
      have hb0 : ((b : Int) == 0) = false := by simp; omega
      go_enter Tryd.func16, Tryd.ntmps16
      have hqe : ((n / b : Nat) : Int) = (n : Int) / (b : Int) := rfl
      have hre : ((n % b : Nat) : Int) = (n : Int) % (b : Int) := rfl
      have hql : n / b ≤ n := Nat.div_le_self _ _
      have hq : IntKind.u64.wrap ((n : Int) / (b : Int)) = ((n / b : Nat) : Int) := by rw [← hqe, IntKind.wrap_u64]; generalize n / b = x at *; omega
      have hr : (n : Int) % (b : Int) = ((n % b : Nat) : Int) := hre.symm
      clear hqe hre hql
      obtain ⟨q, hqq⟩ : ∃ q, n / b = q := ⟨_, rfl⟩
      obtain ⟨r, hrr⟩ : ∃ r, n % b = r := ⟨_, rfl⟩
      rw [hqq] at hq H1 HD hadd
      rw [hrr] at hr H2 HD hadd hm
      clear hqq hrr ih HL
      go_wp2
      refine wp_region_quiet_below (by kernel_rfl) (by kernel_rfl) ?_
      repeat (go_big_quiet_step (first | (with_reducible exact Calls.regrown_of (H1.out _)) | (with_reducible exact Calls.regrown_of (H2.out _))))
      refine wpQuiet_nil ?_
      intro _ hw'
      obtain ⟨⟨dq, osq⟩, hw''⟩ := hw'
      subst hw''
      have hbr := below_regrown w dq osq
      go_wp2
      go_ret
      exact ⟨by rw [HD.out]; rfl, hbr⟩
end Go.Proofs.YtgokejoieafgiaaDoor
