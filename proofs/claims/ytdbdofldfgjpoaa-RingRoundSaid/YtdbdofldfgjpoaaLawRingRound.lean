/-
  'lifelinelaw02.RingRound' answers true for every input, and leaves its arguments as they were.
  Conditions: none but what the row itself says of its arguments (how much memory each may take).
-/
import Derived.Test.YtdbdofldfgjpoaaRows
import Derived.Test.YtdbdofldfgjpoaaRingUse
import Derived.Test.YtdbdofldfgjpoaaFrame
import Derived.WalkKit
import Derived.ProofKit
import Derived.OpenShut
import Derived.ShutString
import Derived.ChangeOld
import Derived.Below
namespace Go.Proofs.Ytdbdofldfgjpoaa.ringRound
open Go.ChangeShapes Go.WideShapes Go.ChangeAt Go.RowKit
open Go.ChangeMaps (open_string shut_string)
set_option linter.unusedVariables false

theorem own : ownKnob Try.prog.godebug = none := by kernel_rfl
theorem laidOut : laidOutB Try.prog = true := by kernel_rfl

theorem walk (x0 : Int) (x1 : Int) (w : World) (h0 : 0 ≤ x0 ∧ x0 ≤ 255) (h1 : 0 ≤ x1 ∧ x1 ≤ 65535) :
    Calls Try.prog 7 #[.int .u8 x0, .int .u16 x1] w fun e w' => e = .returned (.bool true) ∧ Below w.heap.size w w' := by
  obtain ⟨r, hr⟩ : ∃ r : Nat, x1 % 2000 = (r : Int) := ⟨(x1 % 2000).toNat, by omega⟩
  obtain ⟨N, hN⟩ : ∃ N : Nat, x0 % 20 + 2 = (N : Int) := ⟨(x0 % 20 + 2).toNat, by omega⟩
  have hN2 : 2 ≤ N := by omega
  have hN22 : N ≤ 22 := by omega
  have hof : OfN (x0 % 20 + 2) N := .inr (.inl ⟨by omega, by omega, hN⟩)
  have hr2 : r < 2000 := by omega
  have HOF := keepHid hof
  clear hof hN
  have b1 : ∀ (W : World) (g : Nat) (X Y : Int), (0 ≤ X ∧ X < 256) → (0 ≤ Y ∧ Y < 256) → g = W.heap.size → Bys (W.alloc (.cells #[.int .u8 X, .int .u8 Y] 5)) (g + 1) (some ⟨g, 0, none⟩) 2 [UInt8.ofNat X.toNat, UInt8.ofNat Y.toNat] := fun W g X Y hX hY hg =>
    bys_new W _ _ 2 rfl (by decide) _ (by simp [byteVals]; omega) g hg
  have B1 := keepHid b1
  clear b1
  go_enter Try.func7, Try.ntmps7
  go_wp2_with fail
  refine (awake_any _).mono ?_
  rintro e w1 ⟨rfl, hb⟩
  have HB1 := keepHid hb
  clear hb
  go_wp2_with fail
  refine (of_ring _ _ HOF.out _).mono ?_
  rintro e w2 ⟨g, c, rfl, hrg, hg, hc, hb⟩
  have HR := keepHid hrg
  have hgw : w.heap.size ≤ g := Nat.le_trans HB1.out.size hg
  have hcw : w.heap.size ≤ c := Nat.le_trans HB1.out.size hc
  have HB2 := keepHid (HB1.out.trans (hb.mono HB1.out.size))
  clear hrg hb hg hc
  go_wp2
  go_loopw [6] (fun i wr => ∃ k : Nat, k ≤ r ∧ i = .int .i64 k ∧ Ring wr g c N [] 0 ∧ Below w.heap.size w wr) (fun i _ => r - (intOf i).toNat)
  case atStart => exact ⟨0, Nat.zero_le _, rfl, HR.out, HB2.out⟩
  case round =>
    obtain ⟨k, hk, rfl, hrg, hbw⟩ := hrel
    have HR' := keepHid hrg
    have HW' := keepHid hbw
    clear hrg hbw
    by_cases hlt : k < r
    · have hX : 0 ≤ (k : Int) % 256 ∧ (k : Int) % 256 < 256 := by omega
      have hY : 0 ≤ ((k : Int) + 1) % 256 ∧ ((k : Int) + 1) % 256 < 256 := by omega
      go_wp2_with fail
      refine (put_ring g c N [] 0 _ 2 2 _ 2 _ _ (HR'.out.alloc _) (B1.out _ _ _ _ hX hY rfl) (by simp) (by omega) (by omega) (by intro _ ad e; obtain rfl := Option.some.inj e; have := HR'.out.ltg; have := HR'.out.lth; simp [Own]; omega) (by simp; omega)).mono ?_
      rintro e w3 ⟨rfl, hr3, ht3⟩
      have e3 : lostBy 0 (((2 : Nat) : Int) - ((2 : Nat) : Int)) = 0 := lostBy_in (by omega) (by omega)
      rw [e3] at hr3
      have HR3 := keepHid hr3
      have HW3 := keepHid (((HW'.out.alloc HW'.out.size _).trans (ht3.below (B := w.heap.size) (by intro i hi; rcases hi with rfl | rfl <;> assumption) (by have := HW'.out.size; simp; omega))))
      clear hr3 ht3 e3
      go_wp2_with fail
      refine (take_ring g c N _ 0 _ 2 _ HR3.out (by simp)).mono ?_
      rintro e w4 ⟨t, rfl, hr4, hk4, ht, ht4⟩
      have HR4 := keepHid hr4
      have HW4 := keepHid ((HW3.out.trans (ht4.below (B := w.heap.size) (by intro i hi; rcases hi with rfl | rfl <;> assumption) HW3.out.size)))
      have hc0 : w4.cell? ⟨t, 0, none⟩ = some (.int .u8 ((k : Int) % 256)) := (hk4.cell 0).trans (by simp [byteVals]; omega)
      have hc1 : w4.cell? ⟨t, 1, none⟩ = some (.int .u8 (((k : Int) + 1) % 256)) := (hk4.cell 1).trans (by simp [byteVals]; omega)
      clear hr4 hk4 ht4
      go_wp2
      go_roundw
      case rel => exact ⟨k + 1, by omega, by go_num, HR4.out, HW4.out⟩
      case measure => simp [intOf]; omega
    · obtain rfl : k = r := by omega
      go_wp2_with fail
      refine (len_ring g c _ _ _ _ HR'.out).mono ?_
      rintro e w' ⟨rfl, rfl⟩
      go_wp2_with fail
      refine (lost_ring g c _ _ _ _ HR'.out).mono ?_
      rintro e w' ⟨rfl, rfl⟩
      go_wp2
      go_ret
      exact ⟨rfl, HW'.out⟩

set_option maxRecDepth 100000 in
theorem lifted (os : Os) (started : os.Started) (H : Type) (enc : TypeId × Value → H) :
    ReturnsInHanded {} Try.checked os 7 .any (Rows.ringRoundSpec.pre6 enc Try.prog Try.f7 Rows.ringRoundRow.domain false) (Rows.ringRoundSpec.post enc Try.prog Try.f7 false true false false) := by
  refine returnsInHanded_of_change_sized (C := Try.checked) own started (by kernel_rfl) Try.func7
    (ChangeSpec.witness6 (enc := enc) (C := Try.checked) false ⟨#[], #[.int .u8 0, .int .u16 0], []⟩ 8 (by kernel_rfl) (by kernel_rfl) (by kernel_rfl) (by kernel_rfl)) ?_
  intro W base args ds gs before hval0 hW hcnd hsz0 _
  have hsz : (DataW.weightsEach Try.prog (Try.f7.params.toList ++ Rows.ringRoundSpec.plain.varTypes Try.prog) (ds ++ gs)).all (· ≤ reachBytes) = true := hsz0
  clear hsz0
  have hval : ∀ (j : Nat) t v, Try.f7.params[j]? = some t → args[j]? = some v → Value.okWide Try.prog W .any base t v := hval0
  have hW' := hW
  obtain ⟨p, q, hA0, hV, rfl, hfz, hnd⟩ := hW
  have hA : DataW.TrodAll enc Try.prog W 0 (fun _ => true) true Try.f7.params.toList args.toList ds p := hA0
  rw [Try.params7] at hA hval hsz
  obtain ⟨v0, vs0, d0, ds0, p0, q0, hargs, rfl, rfl, h0, r0⟩ := trodAll_cons hA
  obtain ⟨v1, vs1, d1, ds1, p1, q1, rfl, rfl, rfl, h1, r1⟩ := trodAll_cons r0
  obtain ⟨rfl, rfl, rfl⟩ := trodAll_nil r1
  obtain rfl : args = #[v0, v1] := by cases args; simp_all
  obtain ⟨rfl, rfl⟩ := trodVars_none hV
  have k0 := h0
  have lt0 : ∀ x ∈ p0, x.block < W.heap.size := by obtain ⟨m, hm⟩ := k0; exact DataW.trod_lt m _ _ _ hm
  have k1 := h1
  have lt1 : ∀ x ∈ p1, x.block < W.heap.size := by obtain ⟨m, hm⟩ := k1; exact DataW.trod_lt m _ _ _ hm
  obtain ⟨x0, rfl, rfl, rfl, w0⟩ := open_int Try.underlying5 (hval 0 5 v0 rfl rfl) h0
  obtain ⟨x1, rfl, rfl, rfl, w1⟩ := open_int Try.underlying39 (hval 1 39 v1 rfl rfl) h1
  clear hA0 hval0
  refine (walk x0 x1 W (wf_u8 w0) (wf_u16 w1)).mono fun e W' ⟨he, bel⟩ => ?_
  subst he
  exact ⟨_, rfl, _, _, _, [], _, [], hW', trodAll_mk1 (shut_bool Try.underlying4 _), (trodAll_cons_mk (Below.trod laidOut (by kernel_rfl) (of_decide_eq_true (by kernel_rfl)) k0 bel lt0) (trodAll_cons_mk (Below.trod laidOut (by kernel_rfl) (of_decide_eq_true (by kernel_rfl)) k1 bel lt1) trodAll_mk0)), rfl, bel.frame _, fun h => by cases h⟩

theorem over : Rows.ringRoundRow.holds Try.pinned (OpenSpec.ofChange Rows.ringRoundSpec) :=
  OpenClaim.holds_of_wide 7 Try.f7 rfl rfl rfl rfl rfl rfl rfl ⟨rfl, rfl, rfl, rfl, rfl⟩ rfl rfl rfl rfl rfl (by kernel_rfl) Try.func7 (by kernel_rfl)
    (of_decide_eq_true (by kernel_rfl)) (by unfold Func.isWrapper; first | (rw [if_pos (by decide +kernel)]; kernel_rfl) | (rw [if_neg (by decide +kernel)]; exact ⟨rfl, rfl⟩))
    (fun os started H enc _ => lifted os started H enc)

theorem proved : Rows.RingRoundSaid := over
end Go.Proofs.Ytdbdofldfgjpoaa.ringRound
