/-
  'lifelinelaw03.MeterWorse' answers true for every input, and leaves its arguments as they were.
  Conditions: none but what the row itself says of its arguments (how much memory each may take).
-/
import Derived.Test.YthfkkolnjcbhjaaRows
import Derived.Test.YthfkkolnjcbhjaaMeter
import Derived.Test.YthfkkolnjcbhjaaFrame
import Derived.WalkKit
import Derived.ProofKit
import Derived.OpenShut
import Derived.ShutString
import Derived.ChangeOld
import Derived.Below
namespace Go.Proofs.Ythfkkolnjcbhjaa.meterWorse
open Go.ChangeShapes Go.WideShapes Go.ChangeAt Go.RowKit
open Go.ChangeMaps (open_string shut_string)
set_option linter.unusedVariables false

theorem own : ownKnob Try.prog.godebug = none := by kernel_rfl
theorem laidOut : laidOutB Try.prog = true := by kernel_rfl

theorem walk (x0 : Int) (x1 : Int) (x2 : Int) (x3 : Int) (w : World) (h0 : 0 ≤ x0 ∧ x0 ≤ 65535) (h1 : 0 ≤ x1 ∧ x1 ≤ 65535) (h2 : 0 ≤ x2 ∧ x2 ≤ 65535) (h3 : 0 ≤ x3 ∧ x3 ≤ 65535) :
    Calls Try.prog 5 #[.int .u16 x0, .int .u16 x1, .int .u16 x2, .int .u16 x3] w fun e w' => e = .returned (.bool true) ∧ Below w.heap.size w w' := by
  obtain ⟨a, rfl⟩ : ∃ a : Nat, x0 = (a : Int) := ⟨x0.toNat, by omega⟩
  obtain ⟨b, rfl⟩ : ∃ b : Nat, x1 = (b : Int) := ⟨x1.toNat, by omega⟩
  obtain ⟨c, rfl⟩ : ∃ c : Nat, x2 = (c : Int) := ⟨x2.toNat, by omega⟩
  obtain ⟨d, rfl⟩ : ∃ d : Nat, x3 = (d : Int) := ⟨x3.toNat, by omega⟩
  have K1 := fun W => make_any a b (by omega) (by omega) W
  have K2 := fun W => make_any c d (by omega) (by omega) W
  have K3 := fun W => share_any a b (by omega) (by omega) W
  have K4 := fun W => share_any c d (by omega) (by omega) W
  have K5 := fun W => worse_any a b c d (by omega) (by omega) (by omega) (by omega) W
  have K6 := fun W => worse_any a b a b (by omega) (by omega) (by omega) (by omega) W
  rw [show wrs a b a b = false by unfold wrs; simp] at K6
  have hw : (wrs a b c d = decide ((share a b : Int) < (share c d : Int) ∨ (share a b : Int) = (share c d : Int) ∧ (d : Int) < (b : Int))) := rfl
  generalize wrs a b c d = r at *
  generalize (share a b : Int) = S at *
  generalize (share c d : Int) = T at *
  generalize mtr a b = m at *
  generalize mtr c d = n at *
  generalize (a : Int) = x at *
  generalize (b : Int) = y at *
  generalize (c : Int) = z at *
  generalize (d : Int) = v at *
  have four : (r = true ∧ decide (S < T) = true) ∨ (r = true ∧ decide (S < T) = false ∧ (S == T) = true ∧ decide (v < y) = true) ∨ (r = false ∧ decide (S < T) = false ∧ (S == T) = true ∧ decide (v < y) = false) ∨ (r = false ∧ decide (S < T) = false ∧ (S == T) = false) := by
    rw [hw]
    simp only [decide_eq_true_eq, decide_eq_false_iff_not, beq_iff_eq, beq_eq_false_iff_ne, ne_eq]
    omega
  clear hw
  have H0 := keepHid h0
  have H1 := keepHid h1
  have H2 := keepHid h2
  have H3 := keepHid h3
  clear h0 h1 h2 h3
  have HK1 := keepHid K1
  have HK2 := keepHid K2
  have HK3 := keepHid K3
  have HK4 := keepHid K4
  have HK6 := keepHid K6
  rcases four with ⟨rfl, t1⟩ | ⟨rfl, t1, t2, t3⟩ | ⟨rfl, t1, t2, t3⟩ | ⟨rfl, t1, t2⟩
  all_goals
    have HK5 := keepHid K5
    clear K1 K2 K3 K4 K5 K6
    go_enter Try.func5, Try.ntmps5
    go_wp2_with (first | ((with_reducible refine (awake_any _).mono ?_); rintro e w' ⟨rfl, rfl⟩) | ((with_reducible refine (HK1.out _).mono ?_); rintro e w' ⟨rfl, rfl⟩) | ((with_reducible refine (HK2.out _).mono ?_); rintro e w' ⟨rfl, rfl⟩) | ((with_reducible refine (HK3.out _).mono ?_); rintro e w' ⟨rfl, rfl⟩) | ((with_reducible refine (HK4.out _).mono ?_); rintro e w' ⟨rfl, rfl⟩) | ((with_reducible refine (HK5.out _).mono ?_); rintro e w' ⟨rfl, rfl⟩) | ((with_reducible refine (HK6.out _).mono ?_); rintro e w' ⟨rfl, rfl⟩))
    go_ret
    exact ⟨rfl, Below.refl _ _⟩

set_option maxRecDepth 100000 in
theorem lifted (os : Os) (started : os.Started) (H : Type) (enc : TypeId × Value → H) :
    ReturnsInHanded {} Try.checked os 5 .any (Rows.meterWorseSpec.pre6 enc Try.prog Try.f5 Rows.meterWorseRow.domain false) (Rows.meterWorseSpec.post enc Try.prog Try.f5 false true false false) := by
  refine returnsInHanded_of_change_sized (C := Try.checked) own started (by kernel_rfl) Try.func5
    (ChangeSpec.witness6 (enc := enc) (C := Try.checked) false ⟨#[], #[.int .u16 0, .int .u16 0, .int .u16 0, .int .u16 0], []⟩ 8 (by kernel_rfl) (by kernel_rfl) (by kernel_rfl) (by kernel_rfl)) ?_
  intro W base args ds gs before hval0 hW hcnd hsz0 _
  have hsz : (DataW.weightsEach Try.prog (Try.f5.params.toList ++ Rows.meterWorseSpec.plain.varTypes Try.prog) (ds ++ gs)).all (· ≤ reachBytes) = true := hsz0
  clear hsz0
  have hval : ∀ (j : Nat) t v, Try.f5.params[j]? = some t → args[j]? = some v → Value.okWide Try.prog W .any base t v := hval0
  have hW' := hW
  obtain ⟨p, q, hA0, hV, rfl, hfz, hnd⟩ := hW
  have hA : DataW.TrodAll enc Try.prog W 0 (fun _ => true) true Try.f5.params.toList args.toList ds p := hA0
  rw [Try.params5] at hA hval hsz
  obtain ⟨v0, vs0, d0, ds0, p0, q0, hargs, rfl, rfl, h0, r0⟩ := trodAll_cons hA
  obtain ⟨v1, vs1, d1, ds1, p1, q1, rfl, rfl, rfl, h1, r1⟩ := trodAll_cons r0
  obtain ⟨v2, vs2, d2, ds2, p2, q2, rfl, rfl, rfl, h2, r2⟩ := trodAll_cons r1
  obtain ⟨v3, vs3, d3, ds3, p3, q3, rfl, rfl, rfl, h3, r3⟩ := trodAll_cons r2
  obtain ⟨rfl, rfl, rfl⟩ := trodAll_nil r3
  obtain rfl : args = #[v0, v1, v2, v3] := by cases args; simp_all
  obtain ⟨rfl, rfl⟩ := trodVars_none hV
  have k0 := h0
  have lt0 : ∀ x ∈ p0, x.block < W.heap.size := by obtain ⟨m, hm⟩ := k0; exact DataW.trod_lt m _ _ _ hm
  have k1 := h1
  have lt1 : ∀ x ∈ p1, x.block < W.heap.size := by obtain ⟨m, hm⟩ := k1; exact DataW.trod_lt m _ _ _ hm
  have k2 := h2
  have lt2 : ∀ x ∈ p2, x.block < W.heap.size := by obtain ⟨m, hm⟩ := k2; exact DataW.trod_lt m _ _ _ hm
  have k3 := h3
  have lt3 : ∀ x ∈ p3, x.block < W.heap.size := by obtain ⟨m, hm⟩ := k3; exact DataW.trod_lt m _ _ _ hm
  obtain ⟨x0, rfl, rfl, rfl, w0⟩ := open_int Try.underlying22 (hval 0 22 v0 rfl rfl) h0
  obtain ⟨x1, rfl, rfl, rfl, w1⟩ := open_int Try.underlying22 (hval 1 22 v1 rfl rfl) h1
  obtain ⟨x2, rfl, rfl, rfl, w2⟩ := open_int Try.underlying22 (hval 2 22 v2 rfl rfl) h2
  obtain ⟨x3, rfl, rfl, rfl, w3⟩ := open_int Try.underlying22 (hval 3 22 v3 rfl rfl) h3
  clear hA0 hval0
  refine (walk x0 x1 x2 x3 W (wf_u16 w0) (wf_u16 w1) (wf_u16 w2) (wf_u16 w3)).mono fun e W' ⟨he, bel⟩ => ?_
  subst he
  exact ⟨_, rfl, _, _, _, [], _, [], hW', trodAll_mk1 (shut_bool Try.underlying4 _), (trodAll_cons_mk (Below.trod laidOut (by kernel_rfl) (of_decide_eq_true (by kernel_rfl)) k0 bel lt0) (trodAll_cons_mk (Below.trod laidOut (by kernel_rfl) (of_decide_eq_true (by kernel_rfl)) k1 bel lt1) (trodAll_cons_mk (Below.trod laidOut (by kernel_rfl) (of_decide_eq_true (by kernel_rfl)) k2 bel lt2) (trodAll_cons_mk (Below.trod laidOut (by kernel_rfl) (of_decide_eq_true (by kernel_rfl)) k3 bel lt3) trodAll_mk0)))), rfl, bel.frame _, fun h => by cases h⟩

theorem over : Rows.meterWorseRow.holds Try.pinned (OpenSpec.ofChange Rows.meterWorseSpec) :=
  OpenClaim.holds_of_wide 5 Try.f5 rfl rfl rfl rfl rfl rfl rfl ⟨rfl, rfl, rfl, rfl, rfl⟩ rfl rfl rfl rfl rfl (by kernel_rfl) Try.func5 (by kernel_rfl)
    (of_decide_eq_true (by kernel_rfl)) (by unfold Func.isWrapper; first | (rw [if_pos (by decide +kernel)]; kernel_rfl) | (rw [if_neg (by decide +kernel)]; exact ⟨rfl, rfl⟩))
    (fun os started H enc _ => lifted os started H enc)

theorem proved : Rows.MeterWorseSaid := over
end Go.Proofs.Ythfkkolnjcbhjaa.meterWorse
