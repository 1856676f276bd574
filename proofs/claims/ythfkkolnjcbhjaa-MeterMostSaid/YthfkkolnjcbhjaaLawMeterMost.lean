/-
  'lifelinelaw03.MeterMost' answers true for every input, and leaves its arguments as they were.
  Conditions: none but what the row itself says of its arguments (how much memory each may take).
-/
import Derived.Test.YthfkkolnjcbhjaaRows
import Derived.Test.YthfkkolnjcbhjaaMeter
import Derived.Test.YthfkkolnjcbhjaaFrame
import Derived.WalkKit
import Derived.ProofKit
import Derived.OpenShut
import Derived.ShutString
import Derived.ChangeOld
import Derived.Below
namespace Go.Proofs.Ythfkkolnjcbhjaa.meterMost
open Go.ChangeShapes Go.WideShapes Go.ChangeAt Go.RowKit
open Go.ChangeMaps (open_string shut_string)
set_option linter.unusedVariables false

theorem own : ownKnob Try.prog.godebug = none := by kernel_rfl
theorem laidOut : laidOutB Try.prog = true := by kernel_rfl

theorem walk (x0 : Int) (x1 : Int) (w : World) (h0 : 0 ≤ x0 ∧ x0 ≤ 65535) (h1 : 0 ≤ x1 ∧ x1 ≤ 255) :
    Calls Try.prog 7 #[.int .u16 x0, .int .u8 x1] w fun e w' => e = .returned (.bool true) ∧ Below w.heap.size w w' := by
  obtain ⟨a, rfl⟩ : ∃ a : Nat, x0 = (a : Int) := ⟨x0.toNat, by omega⟩
  have K1 := fun W => make_any a a (by omega) (by omega) W
  have K2 := fun W => add_any a a 4611686018427387904 4611686018427387904 (by omega) (by omega) W
  have e1 : plus a 4611686018427387904 = 1099511627776 := by unfold plus fit; omega
  rw [e1] at K2
  have K3 : ∀ (k : Int) (W : World), 0 ≤ k → Calls Try.prog 10 #[mtr 1099511627776 1099511627776, .int .i64 1099511627776, .int .i64 (-k)] W fun e w' => e = .returned (mtr 1099511627776 1099511627776) ∧ W = w' := fun k W hk => by
    have h := add_any 1099511627776 1099511627776 1099511627776 (-k) (by omega) (by omega) W
    rw [show plus 1099511627776 1099511627776 = 1099511627776 by unfold plus fit; omega, show plus 1099511627776 (-k) = 1099511627776 by unfold plus fit; omega] at h
    exact h
  have K4 := fun W => well_any 1099511627776 1099511627776 (by omega) W
  have K5 := fun W => ill_any 1099511627776 1099511627776 (by omega) W
  have K6 := fun W => share_any 1099511627776 1099511627776 (by omega) (by omega) W
  rw [show share 1099511627776 1099511627776 = 50 by decide +kernel, show ((50 : Nat) : Int) = 50 from rfl] at K6
  rw [show ((1099511627776 : Nat) : Int) = 1099511627776 from rfl] at K4 K5
  generalize mtr 1099511627776 1099511627776 = m at *
  generalize mtr a a = n at *
  generalize (a : Int) = x at *
  have HK1 := keepHid K1
  have HK2 := keepHid K2
  have HK3 := keepHid K3
  have HK4 := keepHid K4
  have HK5 := keepHid K5
  have HK6 := keepHid K6
  clear e1 K1 K2 K3 K4 K5 K6
  go_enter Try.func7, Try.ntmps7
  go_wp2_with (first | ((with_reducible refine (awake_any _).mono ?_); rintro e w' ⟨rfl, rfl⟩) | ((with_reducible refine (HK1.out _).mono ?_); rintro e w' ⟨rfl, rfl⟩) | ((with_reducible refine (HK2.out _).mono ?_); rintro e w' ⟨rfl, rfl⟩))
  go_loop [5, 6] (fun t k => t = m ∧ ∃ j : Nat, (j : Int) ≤ x1 ∧ k = .int .i64 (j : Int)) (fun _ k => x1.toNat - (intOf k).toNat)
  case atStart => exact ⟨rfl, 0, by omega, rfl⟩
  case round =>
    obtain ⟨rfl, j, hj, rfl⟩ := hrel
    by_cases hlt : (j : Int) < x1
    · have HJ := keepHid (HK3.out (j : Int))
      go_wp2_with ((with_reducible refine (HJ.out _ (by omega)).mono ?_); rintro e w' ⟨rfl, rfl⟩)
      go_round
      case rel => exact ⟨rfl, j + 1, by omega, by go_num⟩
      case measure => simp [intOf]; omega
    · go_wp2_with (first | ((with_reducible refine (HK4.out _).mono ?_); rintro e w' ⟨rfl, rfl⟩) | ((with_reducible refine (HK5.out _).mono ?_); rintro e w' ⟨rfl, rfl⟩) | ((with_reducible refine (HK6.out _).mono ?_); rintro e w' ⟨rfl, rfl⟩))
      go_ret
      exact ⟨rfl, Below.refl _ _⟩

set_option maxRecDepth 100000 in
theorem lifted (os : Os) (started : os.Started) (H : Type) (enc : TypeId × Value → H) :
    ReturnsInHanded {} Try.checked os 7 .any (Rows.meterMostSpec.pre6 enc Try.prog Try.f7 Rows.meterMostRow.domain false) (Rows.meterMostSpec.post enc Try.prog Try.f7 false true false false) := by
  refine returnsInHanded_of_change_sized (C := Try.checked) own started (by kernel_rfl) Try.func7
    (ChangeSpec.witness6 (enc := enc) (C := Try.checked) false ⟨#[], #[.int .u16 0, .int .u8 0], []⟩ 8 (by kernel_rfl) (by kernel_rfl) (by kernel_rfl) (by kernel_rfl)) ?_
  intro W base args ds gs before hval0 hW hcnd hsz0 _
  have hsz : (DataW.weightsEach Try.prog (Try.f7.params.toList ++ Rows.meterMostSpec.plain.varTypes Try.prog) (ds ++ gs)).all (· ≤ reachBytes) = true := hsz0
  clear hsz0
  have hval : ∀ (j : Nat) t v, Try.f7.params[j]? = some t → args[j]? = some v → Value.okWide Try.prog W .any base t v := hval0
  have hW' := hW
  obtain ⟨p, q, hA0, hV, rfl, hfz, hnd⟩ := hW
  have hA : DataW.TrodAll enc Try.prog W 0 (fun _ => true) true Try.f7.params.toList args.toList ds p := hA0
  rw [Try.params7] at hA hval hsz
  obtain ⟨v0, vs0, d0, ds0, p0, q0, hargs, rfl, rfl, h0, r0⟩ := trodAll_cons hA
  obtain ⟨v1, vs1, d1, ds1, p1, q1, rfl, rfl, rfl, h1, r1⟩ := trodAll_cons r0
  obtain ⟨rfl, rfl, rfl⟩ := trodAll_nil r1
  obtain rfl : args = #[v0, v1] := by cases args; simp_all
  obtain ⟨rfl, rfl⟩ := trodVars_none hV
  have k0 := h0
  have lt0 : ∀ x ∈ p0, x.block < W.heap.size := by obtain ⟨m, hm⟩ := k0; exact DataW.trod_lt m _ _ _ hm
  have k1 := h1
  have lt1 : ∀ x ∈ p1, x.block < W.heap.size := by obtain ⟨m, hm⟩ := k1; exact DataW.trod_lt m _ _ _ hm
  obtain ⟨x0, rfl, rfl, rfl, w0⟩ := open_int Try.underlying22 (hval 0 22 v0 rfl rfl) h0
  obtain ⟨x1, rfl, rfl, rfl, w1⟩ := open_int Try.underlying5 (hval 1 5 v1 rfl rfl) h1
  clear hA0 hval0
  refine (walk x0 x1 W (wf_u16 w0) (wf_u8 w1)).mono fun e W' ⟨he, bel⟩ => ?_
  subst he
  exact ⟨_, rfl, _, _, _, [], _, [], hW', trodAll_mk1 (shut_bool Try.underlying4 _), (trodAll_cons_mk (Below.trod laidOut (by kernel_rfl) (of_decide_eq_true (by kernel_rfl)) k0 bel lt0) (trodAll_cons_mk (Below.trod laidOut (by kernel_rfl) (of_decide_eq_true (by kernel_rfl)) k1 bel lt1) trodAll_mk0)), rfl, bel.frame _, fun h => by cases h⟩

theorem over : Rows.meterMostRow.holds Try.pinned (OpenSpec.ofChange Rows.meterMostSpec) :=
  OpenClaim.holds_of_wide 7 Try.f7 rfl rfl rfl rfl rfl rfl rfl ⟨rfl, rfl, rfl, rfl, rfl⟩ rfl rfl rfl rfl rfl (by kernel_rfl) Try.func7 (by kernel_rfl)
    (of_decide_eq_true (by kernel_rfl)) (by unfold Func.isWrapper; first | (rw [if_pos (by decide +kernel)]; kernel_rfl) | (rw [if_neg (by decide +kernel)]; exact ⟨rfl, rfl⟩))
    (fun os started H enc _ => lifted os started H enc)

theorem proved : Rows.MeterMostSaid := over
end Go.Proofs.Ythfkkolnjcbhjaa.meterMost
