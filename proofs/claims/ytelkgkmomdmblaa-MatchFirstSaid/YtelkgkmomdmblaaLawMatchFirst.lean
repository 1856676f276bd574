/-
  'lifelinelaw08.MatchFirst' answers true for every input, and leaves its arguments as they were.
  Conditions: none but what the row itself says of its arguments (how much memory each may take).
-/
import Derived.Test.YtelkgkmomdmblaaRows
import Derived.Test.YtelkgkmomdmblaaMatchKit
import Derived.Test.YtelkgkmomdmblaaNfaCov
import Derived.Test.YtelkgkmomdmblaaRegexMakes
import Derived.LoopTactic
import Derived.Deep.DeepCutAuto
import Derived.Lib.QuietBelow
import Derived.Test.YtelkgkmomdmblaaFrame
import Derived.WalkKit
import Derived.ProofKit
import Derived.OpenShut
import Derived.ShutString
import Derived.ChangeOld
import Derived.Below
namespace Go.Proofs.Ytelkgkmomdmblaa.matchFirst
open Go.ChangeShapes Go.WideShapes Go.ChangeAt Go.RowKit
open Go.ChangeMaps (open_string shut_string)
set_option linter.unusedVariables false

theorem own : ownKnob Try.prog.godebug = none := by kernel_rfl
theorem laidOut : laidOutB Try.prog = true := by kernel_rfl

theorem hit_all {r : Re} {s : List UInt8} {k : Nat} (h : ∀ i, i < k + 1 → mtB r (mid s i k) = false) : hitB r s k = false := by
  rw [Bool.eq_false_iff]
  intro e
  obtain ⟨i, hi, hm⟩ := hit_iff.1 e
  have := h i (by omega)
  rw [(mtB_iff _ _).2 hm] at this
  cases this
theorem hit_one {r : Re} {s : List UInt8} {i k : Nat} (hi : i ≤ k) (h : mtB r (mid s i k) = true) : hitB r s k = true := hit_iff.2 ⟨i, hi, (mtB_iff _ _).1 h⟩
set_option maxRecDepth 100000 in
set_option maxHeartbeats 4000000 in
theorem walk (a0 : Option Addr) (n0 c0 : Nat) (b0 : List UInt8) (a1 : Option Addr) (n1 c1 : Nat) (b1 : List UInt8) (w : World) (h0 : Bys w w.heap.size a0 n0 b0) (l0 : n0 ≤ c0) (s0 : c0 ≤ 140737488351232) (h1 : Bys w w.heap.size a1 n1 b1) (l1 : n1 ≤ c1) (s1 : c1 ≤ 140737488351232) :
    Calls Try.prog 4 #[.slice a0 n0 c0, .slice a1 n1 c1] w fun e w' => e = .returned (.bool true) ∧ Below w.heap.size w w' := by
  have HAW := keepHid (awake8_any w)
  have HY0 := keepHid h0
  have HY1 := keepHid h1
  have HLC : Hid (n0 ≤ c0 ∧ c0 ≤ 9223372036854775807) := keepHid ⟨l0, by omega⟩
  clear h0 h1
  go_enter Try.func4, Try.ntmps4
  go_wp2_with fail
  with_reducible refine HAW.out.mono ?_
  rintro e w1 ⟨rfl, hb1⟩
  have HB1 := keepHid hb1
  have HMK : Hid (Calls Try.prog 10 #[.slice a0 n0 c0, .int .i64 3] w1 (MakePostD 3 b0 w1)) := keepHid (makes_d (d := 3) (build_all 3 (by decide)) a0 n0 c0 b0 w1 ((HY0.out.below hb1).more hb1.size) HLC.out.1 HLC.out.2)
  clear hb1
  go_wp2_with fail
  with_reducible refine HMK.out.mono ?_
  rintro e w2 ⟨h, rfl, hi2, hb2⟩
  obtain ⟨w3, hw3⟩ : ∃ w3, w2.alloc (.cells (hdC h) 31) = w3 := ⟨_, rfl⟩
  obtain ⟨hi3, hb3, hk3⟩ := node_var hi2 hw3
  have HB3 := keepHid (HB1.out.trans ((hb2.trans (hb3.mono hb2.size)).mono HB1.out.size))
  have HT1 := keepHid (text_any (k := c1) b1 (HY1.out.below HB3.out))
  have HO := keepHid (of_any hi3 (sm_bld (d := 3) (by decide) b0))
  have WF := keepHid (auOf_wf (sm_bld (d := 3) (by decide) b0))
  have HW3 := keepHid hw3
  unfold hdC at hk3 HW3
  have HK3 := keepHid hk3
  have HI3 := keepHid hi3
  obtain ⟨m0, m1, m2, m3, m4, m5, mf⟩ := blk6 hk3
  clear hi2 hb2 hw3 hi3 hb3 hk3 HMK HAW
  generalize (bldL 3 b0).2.1 = r at *
  generalize hS : txt b1 = s at *
  have hs14 : s.length ≤ 14 := by rw [← hS]; exact txt_len _
  clear hS
  obtain ⟨m, hm⟩ : ∃ m, s.length = m := ⟨_, rfl⟩
  have hsz : (strB s).size = m := by rw [strB_size, hm]
  have HM := keepHid hm
  rw [hm] at hs14
  clear hm
  unfold hdV at *
  go_upto_region 4 with fail
  rw [HW3.out]
  generalize w2.heap.size = V at *
  go_wp2_with fail
  with_reducible refine HT1.out.mono ?_
  rintro e w' ⟨rfl, rfl⟩
  go_wp2_with fail
  with_reducible refine HO.out.mono ?_
  rintro e w4 ⟨g, rfl, hA, hb4⟩
  have HA := keepHid hA
  have HB4 := keepHid hb4
  have HFT : Hid (∀ w', Below w4.heap.size w4 w' → ∀ bs : List UInt8, bs.length ≤ 14 → Calls Try.prog 13 #[.pointer (some ⟨g, 0, none⟩), .string (strB bs)] w' fun e w'' => e = .returned (.bool (mtB r bs)) ∧ Below w'.heap.size w' w'') := keepHid (fun w' hb bs hl => fits_any bs (HA.out.keep hb) WF.out (by omega))
  clear hA hb4 m0 m1 m2 m3 m4 m5 mf HT1 HO HW3
  go_wp2_with fail
  go_loopw [9, 10, 11] (fun v b i wr => ∃ k : Nat, k ≤ m + 1 ∧ i = .int .i64 k ∧ Hid (Below w4.heap.size w4 wr) ∧
    ((v = .int .i64 0 ∧ b = .bool false ∧ Hid (∀ j, j < k → hitB r s j = false)) ∨ (∃ k0 : Nat, v = .int .i64 k0 ∧ b = .bool true ∧ Hid (firstL r s = (k0, true))))) (fun _ _ i _ => m + 1 - (intOf i).toNat)
  case atStart => exact ⟨0, Nat.zero_le _, rfl, keepHid (Below.refl _ _), .inl ⟨rfl, rfl, keepHid (fun j hj => by omega)⟩⟩
  case round =>
    obtain ⟨k, hk, rfl, HBR, hst⟩ := hrel
    have HBX := keepHid (HB4.out.trans (HBR.out.mono HB4.out.size))
    have HFI := keepHid (first_any s (HI3.out.below HBX.out) (by rw [HM.out]; omega))
    unfold FirstPost at HFI
    unfold hdV at HFI
    obtain ⟨v0, v1, v2, v3, v4, v5, vf⟩ := blk6 (HK3.out.below HBX.out HK3.out.lt)
    have HBW := keepHid (HB3.out.trans (HBX.out.mono HB3.out.size))
    generalize wr = wq at *
    rcases hst with ⟨rfl, rfl, HNO⟩ | ⟨k0, rfl, rfl, HFF⟩
    · rcases Nat.lt_or_ge m k with hgt | hle
      · have hki : ¬ (k : Int) ≤ (m : Int) := by omega
        have HFF : Hid (firstL r s = (0, false)) := keepHid (first_none (fun i hi => HNO.out i (by rw [HM.out] at hi; omega)))
        rw [HFF.out] at HFI
        go_wp2_with fail
        with_reducible refine HFI.out.mono ?_
        rintro e w5 ⟨rfl, hb5⟩
        have HB5 := keepHid (HBW.out.trans (hb5.mono HBW.out.size))
        clear hb5 v0 v1 v2 v3 v4 v5 vf
        go_wp2
        go_ret
        exact ⟨rfl, HB5.out⟩
      · have hki : (k : Int) ≤ (m : Int) := by omega
        clear HFI v0 v1 v2 v3 v4 v5 vf
        go_wp2_with fail
        go_loopw [9, 10, 12] (fun v b i wr => ∃ j : Nat, j ≤ k + 1 ∧ i = .int .i64 j ∧ Hid (Below w4.heap.size w4 wr) ∧
          ((v = .int .i64 0 ∧ b = .bool false ∧ Hid (∀ i, i < j → mtB r (mid s i k) = false)) ∨ (v = .int .i64 k ∧ b = .bool true ∧ Hid (hitB r s k = true)))) (fun _ _ i _ => k + 1 - (intOf i).toNat)
        case atStart => exact ⟨0, Nat.zero_le _, rfl, HBR, .inl ⟨rfl, rfl, keepHid (fun j hj => by omega)⟩⟩
        case round =>
          obtain ⟨j, hj, rfl, HBR2, hst2⟩ := hrel
          rcases hst2 with ⟨rfl, rfl, HNO2⟩ | ⟨rfl, rfl, HHIT⟩
          · rcases Nat.lt_or_ge k j with hgt2 | hle2
            · have hji : ¬ (j : Int) ≤ (k : Int) := by omega
              have HN : Hid (hitB r s k = false) := keepHid (hit_all (fun i hi => HNO2.out i (by omega)))
              go_wp2
              go_roundw
              case rel => exact ⟨k + 1, by omega, by go_num, HBR2, .inl ⟨rfl, rfl, keepHid (fun i hi => by
                rcases Nat.lt_or_ge i k with h | h
                · exact HNO.out i h
                · have e : i = k := by omega
                  rw [e]; exact HN.out)⟩⟩
              case measure => simp [intOf]; omega
            · have hji : (j : Int) ≤ (k : Int) := by omega
              have hsl := fun W => run_mid (l := s) hle2 (by rw [HM.out]; exact hle) (j : Int) (k : Int) rfl rfl W
              have HFC := keepHid (HFT.out wr HBR2.out (mid s j k) (by rw [mid_len (by rw [HM.out]; exact hle)]; omega))
              have HR : Hid (mtB r (mid s j k) = true → hitB r s k = true) := keepHid (fun e => hit_one hle2 e)
              have HR2 : Hid (mtB r (mid s j k) = false → ∀ i, i < j + 1 → mtB r (mid s i k) = false) := keepHid (fun e i hi => by
                rcases Nat.lt_or_ge i j with h | h
                · exact HNO2.out i h
                · have e2 : i = j := by omega
                  rw [e2]; exact e)
              generalize hR : mtB r (mid s j k) = R at *
              clear hR
              cases R
              all_goals
                go_wp2_with fail
                with_reducible refine HFC.out.mono ?_
                rintro e w5 ⟨rfl, hb5⟩
                have HBR5 := keepHid (HBR2.out.trans (hb5.mono HBR2.out.size))
                clear hb5
                go_wp2
                go_roundw
                case rel => exact ⟨j + 1, by omega, by go_num, HBR5, by first | exact .inl ⟨rfl, rfl, keepHid (HR2.out (by simp))⟩ | exact .inr ⟨rfl, rfl, keepHid (HR.out (by simp))⟩⟩
                case measure => simp [intOf]; omega
          · have HFF : Hid (firstL r s = (k, true)) := keepHid (first_hit (by rw [HM.out]; exact hle) HHIT.out (fun i hi => HNO.out i hi))
            rcases Nat.lt_or_ge k j with hgt2 | hle2
            · have hji : ¬ (j : Int) ≤ (k : Int) := by omega
              go_wp2
              go_roundw
              case rel => exact ⟨k + 1, by omega, by go_num, HBR2, .inr ⟨k, rfl, rfl, HFF⟩⟩
              case measure => simp [intOf]; omega
            · have hji : (j : Int) ≤ (k : Int) := by omega
              go_wp2
              go_roundw
              case rel => exact ⟨k + 1, by omega, by go_num, HBR2, .inr ⟨k, rfl, rfl, HFF⟩⟩
              case measure => simp [intOf]; omega
    · rw [HFF.out] at HFI
      rcases Nat.lt_or_ge m k with hgt | hle
      · have hki : ¬ (k : Int) ≤ (m : Int) := by omega
        go_wp2_with fail
        with_reducible refine HFI.out.mono ?_
        rintro e w5 ⟨rfl, hb5⟩
        have HB5 := keepHid (HBW.out.trans (hb5.mono HBW.out.size))
        clear hb5 v0 v1 v2 v3 v4 v5 vf
        go_wp2
        go_ret
        exact ⟨rfl, HB5.out⟩
      · have hki : (k : Int) ≤ (m : Int) := by omega
        go_wp2_with fail
        with_reducible refine HFI.out.mono ?_
        rintro e w5 ⟨rfl, hb5⟩
        have HB5 := keepHid (HBW.out.trans (hb5.mono HBW.out.size))
        clear hb5 v0 v1 v2 v3 v4 v5 vf
        go_wp2
        go_ret
        exact ⟨rfl, HB5.out⟩

set_option maxRecDepth 100000 in
theorem lifted (os : Os) (started : os.Started) (H : Type) (enc : TypeId × Value → H) :
    ReturnsInHanded {} Try.checked os 4 .any (Rows.matchFirstSpec.pre6 enc Try.prog Try.f4 Rows.matchFirstRow.domain false) (Rows.matchFirstSpec.post enc Try.prog Try.f4 false true false false) := by
  refine returnsInHanded_of_change_sized (C := Try.checked) own started (by kernel_rfl) Try.func4
    (ChangeSpec.witness6 (enc := enc) (C := Try.checked) false ⟨#[], #[.slice none 0 0, .slice none 0 0], []⟩ 8 (by kernel_rfl) (by kernel_rfl) (by kernel_rfl) (by kernel_rfl)) ?_
  intro W base args ds gs before hval0 hW hcnd hsz0 _
  have hsz : (DataW.weightsEach Try.prog (Try.f4.params.toList ++ Rows.matchFirstSpec.plain.varTypes Try.prog) (ds ++ gs)).all (· ≤ reachBytes) = true := hsz0
  clear hsz0
  have hval : ∀ (j : Nat) t v, Try.f4.params[j]? = some t → args[j]? = some v → Value.okWide Try.prog W .any base t v := hval0
  have hW' := hW
  obtain ⟨p, q, hA0, hV, rfl, hfz, hnd⟩ := hW
  have hA : DataW.TrodAll enc Try.prog W 0 (fun _ => true) true Try.f4.params.toList args.toList ds p := hA0
  rw [Try.params4] at hA hval hsz
  obtain ⟨v0, vs0, d0, ds0, p0, q0, hargs, rfl, rfl, h0, r0⟩ := trodAll_cons hA
  obtain ⟨v1, vs1, d1, ds1, p1, q1, rfl, rfl, rfl, h1, r1⟩ := trodAll_cons r0
  obtain ⟨rfl, rfl, rfl⟩ := trodAll_nil r1
  obtain rfl : args = #[v0, v1] := by cases args; simp_all
  obtain ⟨rfl, rfl⟩ := trodVars_none hV
  have k0 := h0
  have lt0 : ∀ x ∈ p0, x.block < W.heap.size := by obtain ⟨m, hm⟩ := k0; exact DataW.trod_lt m _ _ _ hm
  have k1 := h1
  have lt1 : ∀ x ∈ p1, x.block < W.heap.size := by obtain ⟨m, hm⟩ := k1; exact DataW.trod_lt m _ _ _ hm
  obtain ⟨a0, n0, c0, b0, rfl, w0, l0, s0⟩ := open_bys Try.underlying22 Try.underlying5 (by kernel_rfl) (by kernel_rfl) (hval 0 22 v0 rfl rfl) (fun _ => rfl) h0 (fun el sp hd => sized_slice hsz (j := 0) (t := 22) (e := 5) rfl (by rw [hd]; rfl) Try.underlying22)
  obtain ⟨a1, n1, c1, b1, rfl, w1, l1, s1⟩ := open_bys Try.underlying22 Try.underlying5 (by kernel_rfl) (by kernel_rfl) (hval 1 22 v1 rfl rfl) (fun _ => rfl) h1 (fun el sp hd => sized_slice hsz (j := 1) (t := 22) (e := 5) rfl (by rw [hd]; rfl) Try.underlying22)
  clear hA0 hval0
  refine (walk a0 n0 c0 b0 a1 n1 c1 b1 W w0 l0 s0 w1 l1 s1).mono fun e W' ⟨he, bel⟩ => ?_
  subst he
  exact ⟨_, rfl, _, _, _, [], _, [], hW', trodAll_mk1 (shut_bool Try.underlying4 _), (trodAll_cons_mk (Below.trod laidOut (by kernel_rfl) (of_decide_eq_true (by kernel_rfl)) k0 bel lt0) (trodAll_cons_mk (Below.trod laidOut (by kernel_rfl) (of_decide_eq_true (by kernel_rfl)) k1 bel lt1) trodAll_mk0)), rfl, bel.frame _, fun h => by cases h⟩

theorem over : Rows.matchFirstRow.holds Try.pinned (OpenSpec.ofChange Rows.matchFirstSpec) :=
  OpenClaim.holds_of_wide 4 Try.f4 rfl rfl rfl rfl rfl rfl rfl ⟨rfl, rfl, rfl, rfl, rfl⟩ rfl rfl rfl rfl rfl (by kernel_rfl) Try.func4 (by kernel_rfl)
    (of_decide_eq_true (by kernel_rfl)) (by unfold Func.isWrapper; first | (rw [if_pos (by decide +kernel)]; kernel_rfl) | (rw [if_neg (by decide +kernel)]; exact ⟨rfl, rfl⟩))
    (fun os started H enc _ => lifted os started H enc)

theorem proved : Rows.MatchFirstSaid := over
end Go.Proofs.Ytelkgkmomdmblaa.matchFirst
