/-
  'lifelinelaw03.MeterShare' answers true for every input, and leaves its arguments as they were.
  Conditions: none but what the row itself says of its arguments (how much memory each may take).
-/
import Derived.Test.YthfkkolnjcbhjaaRows
import Derived.Test.YthfkkolnjcbhjaaMeter
import Derived.Test.YthfkkolnjcbhjaaFrame
import Derived.WalkKit
import Derived.ProofKit
import Derived.OpenShut
import Derived.ShutString
import Derived.ChangeOld
import Derived.Below
namespace Go.Proofs.Ythfkkolnjcbhjaa.meterShare
open Go.ChangeShapes Go.WideShapes Go.ChangeAt Go.RowKit
open Go.ChangeMaps (open_string shut_string)
set_option linter.unusedVariables false

theorem own : ownKnob Try.prog.godebug = none := by kernel_rfl
theorem laidOut : laidOutB Try.prog = true := by kernel_rfl

theorem share_fits (a b : Nat) (h : 0 < a + b) : (share a b : Int) * ((a : Int) + (b : Int)) ≤ 100 * (a : Int) ∧ 100 * (a : Int) < ((share a b : Int) + 1) * ((a : Int) + (b : Int)) := by
  unfold share
  rw [if_neg (by omega)]
  have h1 := Nat.div_mul_le_self (100 * a) (a + b)
  have h2 := Nat.lt_mul_div_succ (100 * a) h
  rw [Nat.mul_comm (a + b)] at h2
  constructor
  · have := Int.ofNat_le.2 h1
    simpa using this
  · have := Int.ofNat_lt.2 h2
    simpa using this

theorem walk (x0 : Int) (x1 : Int) (w : World) (h0 : 0 ≤ x0 ∧ x0 ≤ 65535) (h1 : 0 ≤ x1 ∧ x1 ≤ 65535) :
    Calls Try.prog 4 #[.int .u16 x0, .int .u16 x1] w fun e w' => e = .returned (.bool true) ∧ Below w.heap.size w w' := by
  obtain ⟨a, rfl⟩ : ∃ a : Nat, x0 = (a : Int) := ⟨x0.toNat, by omega⟩
  obtain ⟨b, rfl⟩ : ∃ b : Nat, x1 = (b : Int) := ⟨x1.toNat, by omega⟩
  have ha : a ≤ 65535 := by omega
  have hb : b ≤ 65535 := by omega
  have K1 := fun W => make_any a b ha hb W
  have K2 := fun W => share_any a b (by omega) (by omega) W
  have hs := share_le a b
  by_cases h00 : a = 0 ∧ b = 0
  · obtain ⟨rfl, rfl⟩ := h00
    rw [show share 0 0 = 100 from rfl, show ((100 : Nat) : Int) = 100 from rfl] at K2
    rw [show ((0 : Nat) : Int) = 0 from rfl] at K1 ⊢
    have HK1 := keepHid K1
    have HK2 := keepHid K2
    clear K1 K2 hs h0 h1
    go_enter Try.func4, Try.ntmps4
    go_wp2_with (first | ((with_reducible refine (awake_any _).mono ?_); rintro e w' ⟨rfl, rfl⟩) | ((with_reducible refine (HK1.out _).mono ?_); rintro e w' ⟨rfl, rfl⟩) | ((with_reducible refine (HK2.out _).mono ?_); rintro e w' ⟨rfl, rfl⟩))
    go_ret
    exact ⟨rfl, Below.refl _ _⟩
  · obtain ⟨f1, f2⟩ := share_fits a b (by omega)
    have hp : 0 < (a : Int) + (b : Int) := by omega
    have hz : ¬ (a : Int) = 0 ∨ ((a : Int) = 0 ∧ ¬ (b : Int) = 0) := by omega
    have hS : 0 ≤ (share a b : Int) ∧ (share a b : Int) ≤ 100 := by omega
    generalize (share a b : Int) = S at *
    generalize mtr a b = m at *
    generalize (a : Int) = x at *
    generalize (b : Int) = y at *
    clear ha hb hs h00
    have e1 : S * (x + y) = S * (x + y) := rfl
    have n1 : 0 ≤ S * (x + y) := Int.mul_nonneg hS.1 (by omega)
    have n2 : 0 ≤ (S + 1) * (x + y) := Int.mul_nonneg (by omega) (by omega)
    have n3 : (S + 1) * (x + y) = S * (x + y) + (x + y) := by rw [Int.add_mul, Int.one_mul]
    have n4 : S * (x + y) ≤ 6553500 := by omega
    have HK1 := keepHid K1
    have HK2 := keepHid K2
    obtain ⟨P, hP⟩ : ∃ P, P = S * (x + y) := ⟨_, rfl⟩
    obtain ⟨Q, hQ⟩ : ∃ Q, Q = (S + 1) * (x + y) := ⟨_, rfl⟩
    rw [← hP] at f1 n1 n3 n4
    rw [← hQ] at f2 n2 n3
    have hP' := hP.symm
    have hQ' := hQ.symm
    have t1 : P ≤ 100 * x := f1
    have t2 : 100 * x < Q := f2
    have n5 : Q ≤ 6684570 := by omega
    clear K1 K2 e1 n3 hP hQ f1 f2
    rcases hz with hz | ⟨hz, hz2⟩
    · have z1 : (x == 0) = false := by simp [hz]
      clear hz
      go_enter Try.func4, Try.ntmps4
      go_wp2_with (first | ((with_reducible refine (awake_any _).mono ?_); rintro e w' ⟨rfl, rfl⟩) | ((with_reducible refine (HK1.out _).mono ?_); rintro e w' ⟨rfl, rfl⟩) | ((with_reducible refine (HK2.out _).mono ?_); rintro e w' ⟨rfl, rfl⟩))
      go_ret
      exact ⟨rfl, Below.refl _ _⟩
    · have z1 : (x == 0) = true := by simp [hz]
      have z2 : (y == 0) = false := by simp [hz2]
      clear hz hz2
      go_enter Try.func4, Try.ntmps4
      go_wp2_with (first | ((with_reducible refine (awake_any _).mono ?_); rintro e w' ⟨rfl, rfl⟩) | ((with_reducible refine (HK1.out _).mono ?_); rintro e w' ⟨rfl, rfl⟩) | ((with_reducible refine (HK2.out _).mono ?_); rintro e w' ⟨rfl, rfl⟩))
      go_ret
      exact ⟨rfl, Below.refl _ _⟩

set_option maxRecDepth 100000 in
theorem lifted (os : Os) (started : os.Started) (H : Type) (enc : TypeId × Value → H) :
    ReturnsInHanded {} Try.checked os 4 .any (Rows.meterShareSpec.pre6 enc Try.prog Try.f4 Rows.meterShareRow.domain false) (Rows.meterShareSpec.post enc Try.prog Try.f4 false true false false) := by
  refine returnsInHanded_of_change_sized (C := Try.checked) own started (by kernel_rfl) Try.func4
    (ChangeSpec.witness6 (enc := enc) (C := Try.checked) false ⟨#[], #[.int .u16 0, .int .u16 0], []⟩ 8 (by kernel_rfl) (by kernel_rfl) (by kernel_rfl) (by kernel_rfl)) ?_
  intro W base args ds gs before hval0 hW hcnd hsz0 _
  have hsz : (DataW.weightsEach Try.prog (Try.f4.params.toList ++ Rows.meterShareSpec.plain.varTypes Try.prog) (ds ++ gs)).all (· ≤ reachBytes) = true := hsz0
  clear hsz0
  have hval : ∀ (j : Nat) t v, Try.f4.params[j]? = some t → args[j]? = some v → Value.okWide Try.prog W .any base t v := hval0
  have hW' := hW
  obtain ⟨p, q, hA0, hV, rfl, hfz, hnd⟩ := hW
  have hA : DataW.TrodAll enc Try.prog W 0 (fun _ => true) true Try.f4.params.toList args.toList ds p := hA0
  rw [Try.params4] at hA hval hsz
  obtain ⟨v0, vs0, d0, ds0, p0, q0, hargs, rfl, rfl, h0, r0⟩ := trodAll_cons hA
  obtain ⟨v1, vs1, d1, ds1, p1, q1, rfl, rfl, rfl, h1, r1⟩ := trodAll_cons r0
  obtain ⟨rfl, rfl, rfl⟩ := trodAll_nil r1
  obtain rfl : args = #[v0, v1] := by cases args; simp_all
  obtain ⟨rfl, rfl⟩ := trodVars_none hV
  have k0 := h0
  have lt0 : ∀ x ∈ p0, x.block < W.heap.size := by obtain ⟨m, hm⟩ := k0; exact DataW.trod_lt m _ _ _ hm
  have k1 := h1
  have lt1 : ∀ x ∈ p1, x.block < W.heap.size := by obtain ⟨m, hm⟩ := k1; exact DataW.trod_lt m _ _ _ hm
  obtain ⟨x0, rfl, rfl, rfl, w0⟩ := open_int Try.underlying22 (hval 0 22 v0 rfl rfl) h0
  obtain ⟨x1, rfl, rfl, rfl, w1⟩ := open_int Try.underlying22 (hval 1 22 v1 rfl rfl) h1
  clear hA0 hval0
  refine (walk x0 x1 W (wf_u16 w0) (wf_u16 w1)).mono fun e W' ⟨he, bel⟩ => ?_
  subst he
  exact ⟨_, rfl, _, _, _, [], _, [], hW', trodAll_mk1 (shut_bool Try.underlying4 _), (trodAll_cons_mk (Below.trod laidOut (by kernel_rfl) (of_decide_eq_true (by kernel_rfl)) k0 bel lt0) (trodAll_cons_mk (Below.trod laidOut (by kernel_rfl) (of_decide_eq_true (by kernel_rfl)) k1 bel lt1) trodAll_mk0)), rfl, bel.frame _, fun h => by cases h⟩

theorem over : Rows.meterShareRow.holds Try.pinned (OpenSpec.ofChange Rows.meterShareSpec) :=
  OpenClaim.holds_of_wide 4 Try.f4 rfl rfl rfl rfl rfl rfl rfl ⟨rfl, rfl, rfl, rfl, rfl⟩ rfl rfl rfl rfl rfl (by kernel_rfl) Try.func4 (by kernel_rfl)
    (of_decide_eq_true (by kernel_rfl)) (by unfold Func.isWrapper; first | (rw [if_pos (by decide +kernel)]; kernel_rfl) | (rw [if_neg (by decide +kernel)]; exact ⟨rfl, rfl⟩))
    (fun os started H enc _ => lifted os started H enc)

theorem proved : Rows.MeterShareSaid := over
end Go.Proofs.Ythfkkolnjcbhjaa.meterShare
