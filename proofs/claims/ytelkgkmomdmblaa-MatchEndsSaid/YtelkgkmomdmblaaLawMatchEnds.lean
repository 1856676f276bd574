/-
  'lifelinelaw08.MatchEnds' answers true for every input, and leaves its arguments as they were.
  Conditions: none but what the row itself says of its arguments (how much memory each may take).
-/
import Derived.Test.YtelkgkmomdmblaaRows
import Derived.Test.YtelkgkmomdmblaaMatchKit
import Derived.Test.YtelkgkmomdmblaaNfaCov
import Derived.Test.YtelkgkmomdmblaaRegexMakes
import Derived.LoopTactic
import Derived.Deep.DeepCutAuto
import Derived.Lib.QuietBelow
import Derived.Test.YtelkgkmomdmblaaFrame
import Derived.WalkKit
import Derived.ProofKit
import Derived.OpenShut
import Derived.ShutString
import Derived.ChangeOld
import Derived.Below
namespace Go.Proofs.Ytelkgkmomdmblaa.matchEnds
open Go.ChangeShapes Go.WideShapes Go.ChangeAt Go.RowKit
open Go.ChangeMaps (open_string shut_string)
set_option linter.unusedVariables false

theorem own : ownKnob Try.prog.godebug = none := by kernel_rfl
theorem laidOut : laidOutB Try.prog = true := by kernel_rfl

def wantTo (r : Re) (s : List UInt8) (f j : Nat) : List Nat := (List.range' f (j - f)).filter fun i => mtB r (mid s f i)
theorem want_zero (r : Re) (s : List UInt8) (f : Nat) : wantTo r s f f = [] := by simp [wantTo]
theorem want_succ (r : Re) (s : List UInt8) {f j : Nat} (hf : f ≤ j) : wantTo r s f (j + 1) = wantTo r s f j ++ (if mtB r (mid s f j) then [j] else []) := by
  unfold wantTo
  rw [show j + 1 - f = (j - f) + 1 by omega, List.range'_1_concat, List.filter_append]
  congr 1
  rw [show f + (j - f) = j by omega]
  simp only [List.filter_cons, List.filter_nil]
theorem want_all (r : Re) (s : List UInt8) (f : Nat) : wantTo r s f (s.length + 1) = endsL r s f := rfl
theorem want_len (r : Re) (s : List UInt8) (f j : Nat) : (wantTo r s f j).length ≤ j := by
  unfold wantTo
  refine Nat.le_trans (List.length_filter_le _ _) ?_
  simp
set_option maxRecDepth 100000 in
set_option maxHeartbeats 4000000 in
theorem walk (a0 : Option Addr) (n0 c0 : Nat) (b0 : List UInt8) (a1 : Option Addr) (n1 c1 : Nat) (b1 : List UInt8) (x2 : Int) (w : World) (h0 : Bys w w.heap.size a0 n0 b0) (l0 : n0 ≤ c0) (s0 : c0 ≤ 140737488351232) (h1 : Bys w w.heap.size a1 n1 b1) (l1 : n1 ≤ c1) (s1 : c1 ≤ 140737488351232) (h2 : -128 ≤ x2 ∧ x2 ≤ 127) :
    Calls Try.prog 3 #[.slice a0 n0 c0, .slice a1 n1 c1, .int .i8 x2] w fun e w' => e = .returned (.bool true) ∧ Below w.heap.size w w' := by
  have HAW := keepHid (awake8_any w)
  have HY0 := keepHid h0
  have HY1 := keepHid h1
  have HLC : Hid (n0 ≤ c0 ∧ c0 ≤ 9223372036854775807) := keepHid ⟨l0, by omega⟩
  have hx1 : -128 ≤ x2 := h2.1
  have hx2 : x2 ≤ 127 := h2.2
  clear h0 h1 h2
  go_enter Try.func3, Try.ntmps3
  go_wp2_with fail
  with_reducible refine HAW.out.mono ?_
  rintro e w1 ⟨rfl, hb1⟩
  have HB1 := keepHid hb1
  have HMK : Hid (Calls Try.prog 10 #[.slice a0 n0 c0, .int .i64 3] w1 (MakePostD 3 b0 w1)) := keepHid (makes_d (d := 3) (build_all 3 (by decide)) a0 n0 c0 b0 w1 ((HY0.out.below hb1).more hb1.size) HLC.out.1 HLC.out.2)
  clear hb1
  go_wp2_with fail
  with_reducible refine HMK.out.mono ?_
  rintro e w2 ⟨h, rfl, hi2, hb2⟩
  obtain ⟨w3, hw3⟩ : ∃ w3, w2.alloc (.cells (hdC h) 31) = w3 := ⟨_, rfl⟩
  obtain ⟨hi3, hb3, hk3⟩ := node_var hi2 hw3
  have HB3 := keepHid (HB1.out.trans ((hb2.trans (hb3.mono hb2.size)).mono HB1.out.size))
  have HT1 := keepHid (text_any (k := c1) b1 (HY1.out.below HB3.out))
  have HO := keepHid (of_any hi3 (sm_bld (d := 3) (by decide) b0))
  have WF := keepHid (auOf_wf (sm_bld (d := 3) (by decide) b0))
  have HW3 := keepHid hw3
  unfold hdC at hk3 HW3
  have HK3 := keepHid hk3
  have HI3 := keepHid hi3
  obtain ⟨m0, m1, m2, m3, m4, m5, mf⟩ := blk6 hk3
  clear hi2 hb2 hw3 hi3 hb3 hk3 HMK HAW
  generalize (bldL 3 b0).2.1 = r at *
  generalize hS : txt b1 = s at *
  have hs14 : s.length ≤ 14 := by rw [← hS]; exact txt_len _
  clear hS
  obtain ⟨m, hm⟩ : ∃ m, s.length = m := ⟨_, rfl⟩
  have hsz : (strB s).size = m := by rw [strB_size, hm]
  have HM := keepHid hm
  rw [hm] at hs14
  clear hm
  unfold hdV at *
  go_upto_region 4 with fail
  rw [HW3.out]
  generalize w2.heap.size = V at *
  go_wp2_with fail
  with_reducible refine HT1.out.mono ?_
  rintro e w' ⟨rfl, rfl⟩
  go_wp2_with fail
  with_reducible refine HO.out.mono ?_
  rintro e w4 ⟨g, rfl, hA, hb4⟩
  have HA := keepHid hA
  have HB4 := keepHid hb4
  have HFT : Hid (∀ w', Below w4.heap.size w4 w' → ∀ bs : List UInt8, bs.length ≤ 14 → Calls Try.prog 13 #[.pointer (some ⟨g, 0, none⟩), .string (strB bs)] w' fun e w'' => e = .returned (.bool (mtB r bs)) ∧ Below w'.heap.size w' w'') := keepHid (fun w' hb bs hl => fits_any bs (HA.out.keep hb) WF.out (by omega))
  clear hA hb4 m0 m1 m2 m3 m4 m5 mf HT1 HO HW3
  obtain ⟨rng, hrng⟩ : ∃ rng, decide (0 ≤ x2 ∧ x2 ≤ (m : Int)) = rng := ⟨_, rfl⟩
  have HRNG := keepHid hrng
  clear hrng
  go_upto_region 8 with fail
  go_cut [36] (fun b wx => b = .bool rng ∧ wx = w4)
  case first =>
    rcases Classical.em (0 ≤ x2) with hx0 | hx0
    · rcases Classical.em (x2 ≤ (m : Int)) with hxm | hxm
      · have HE : Hid (rng = true) := keepHid (by rw [← HRNG.out]; exact decide_eq_true ⟨hx0, hxm⟩)
        go_wp2_with fail
        go_meet
        case rel => exact ⟨by rw [HE.out], rfl⟩
      · have HE : Hid (rng = false) := keepHid (by rw [← HRNG.out]; exact decide_eq_false (fun hh => hxm hh.2))
        go_wp2_with fail
        go_meet
        case rel => exact ⟨by rw [HE.out], rfl⟩
    · have HE : Hid (rng = false) := keepHid (by rw [← HRNG.out]; exact decide_eq_false (fun hh => hx0 hh.1))
      go_wp2_with fail
      go_meet
      case rel => exact ⟨by rw [HE.out], rfl⟩
  case rest =>
  obtain ⟨rfl, hwc⟩ := hcut
  rw [hwc]
  clear hwc
  go_upto_if 36 with fail
  go_cut [11] (fun v wx => ∃ A q c, v = .slice A q c ∧ Hid (OwnI wx w4.heap.size (.slice A q c) q (endsI r s x2)) ∧ Hid (Below w4.heap.size w4 wx))
  case first =>
    cases rng
    · have HEQ : Hid (endsI r s x2 = []) := keepHid (by
        have := of_decide_eq_false HRNG.out
        unfold endsI; rw [if_neg (by rw [HM.out]; exact this)])
      go_wp2_with fail
      go_meet
      case rel => exact ⟨none, 0, 0, rfl, by rw [HEQ.out]; exact keepHid (World.ownsRow_nil _ _ _ _), keepHid (Below.refl _ _)⟩
    · obtain ⟨hx0, hxm⟩ := of_decide_eq_true HRNG.out
      · obtain ⟨f, rfl⟩ : ∃ f : Nat, x2 = (f : Int) := ⟨x2.toNat, by omega⟩
        have HEQ : Hid (endsI r s (f : Int) = wantTo r s f (m + 1)) := keepHid (by
          unfold endsI
          rw [if_pos (by rw [HM.out]; omega), show ((f : Int)).toNat = f by omega, ← want_all, HM.out])
        have HFM : Hid (f ≤ m) := keepHid (by omega)
        go_wp2_with fail
        go_loopw [11, 13] (fun v i wr => ∃ (j : Nat) (A : Option Addr) (q c : Nat), f ≤ j ∧ j ≤ m + 1 ∧ i = .int .i64 j ∧ v = .slice A q c ∧ Hid (OwnI wr w4.heap.size (.slice A q c) q (wantTo r s f j)) ∧ Hid (Below w4.heap.size w4 wr)) (fun _ i _ => m + 1 - (intOf i).toNat)
        case atStart => exact ⟨f, none, 0, 0, Nat.le_refl _, by have := HFM.out; omega, rfl, rfl, by rw [want_zero]; exact keepHid (World.ownsRow_nil _ _ _ _), keepHid (Below.refl _ _)⟩
        case round =>
          obtain ⟨j, A, q, c, hfj, hj, rfl, rfl, HOW, HBR⟩ := hrel
          rcases Nat.lt_or_ge m j with hgt | hle
          · have hji : ¬ (j : Int) ≤ (m : Int) := by omega
            have HJ : Hid (j = m + 1) := keepHid (by omega)
            go_wp2_with fail
            go_meet
            case rel => exact ⟨A, q, c, rfl, by rw [HEQ.out, ← HJ.out]; exact HOW, HBR⟩
          · have hji : (j : Int) ≤ (m : Int) := by omega
            have hfi : (f : Int) ≤ (j : Int) := by omega
            have hsl := fun W => run_mid (l := s) hfj (by rw [HM.out]; exact hle) (f : Int) (j : Int) rfl rfl W
            have HFC := keepHid (HFT.out wr HBR.out (mid s f j) (by rw [mid_len (by rw [HM.out]; exact hle)]; omega))
            have HWS : Hid (wantTo r s f (j + 1) = wantTo r s f j ++ (if mtB r (mid s f j) then [j] else [])) := keepHid (want_succ r s hfj)
            have HQL : Hid (q ≤ 20) := keepHid (by have := own_len HOW.out; have := want_len r s f j; omega)
            have HFJ := keepHid hfj
            generalize mtB r (mid s f j) = R at *
            cases R
            · go_wp2_with fail
              with_reducible refine HFC.out.mono ?_
              rintro e w5 ⟨rfl, hb5⟩
              have HBR5 := keepHid (HBR.out.trans (hb5.mono HBR.out.size))
              have HOW5 := keepHid (HOW.out.below hb5)
              clear hb5
              go_wp2_with fail
              go_roundw
              case rel => exact ⟨j + 1, A, q, c, by have := HFJ.out; omega, by omega, by go_num, rfl, by rw [HWS.out]; simpa using HOW5, HBR5⟩
              case measure => simp [intOf]; omega
            · go_wp2_with fail
              with_reducible refine HFC.out.mono ?_
              rintro e w5 ⟨rfl, hb5⟩
              obtain ⟨w6, hw6⟩ : ∃ w6, w5.alloc (.cells #[.int .i64 (j : Int)] 3) = w6 := ⟨_, rfl⟩
              have hb56 : Below w5.heap.size w5 w6 := by rw [← hw6]; exact (Below.refl _ _).alloc (Nat.le_refl _) _
              have HSL : Hid (Sl natV w6 (some ⟨w5.heap.size, 0, none⟩) 1 [j]) := keepHid (by rw [← hw6]; exact sl_one rfl)
              have HW6 := keepHid hw6
              have HBR6 := keepHid ((HBR.out.trans (hb5.mono HBR.out.size)).trans (hb56.mono (HBR.out.trans (hb5.mono HBR.out.size)).size))
              have HOW6 := keepHid ((HOW.out.below hb5).below hb56)
              clear hb5 hb56 hw6
              go_wp2_with (first | (at_builtin; rw [HW6.out]; refine wpList_append_ints _ rfl _ _ rfl w4.heap.size (.slice A q c) q (wantTo r s f j) rfl HOW6.out (some ⟨w5.heap.size, 0, none⟩) 1 1 [j] rfl HSL.out (by have := HQL.out; omega) HBR6.out.size ?_; intro v7 w7 ho7 hg7 hv7))
              obtain ⟨A7, c7, rfl, -, -⟩ := own_val ho7
              have hb67 : Below w4.heap.size w6 w7 := below_grown hg7 (fun i hi => (HOW6.out.lt i hi).1) HBR6.out.size
              have HBR7 := keepHid (HBR6.out.trans hb67)
              have HO7 := keepHid ho7
              clear ho7 hg7 hv7 hb67
              go_wp2_with fail
              go_roundw
              case rel => exact ⟨j + 1, A7, _, c7, by have := HFJ.out; omega, by omega, by go_num, rfl, by rw [HWS.out]; exact HO7, HBR7⟩
              case measure => simp [intOf]; omega
  case rest =>
  obtain ⟨A2, q2, d2, rfl, HO2, HBX⟩ := hcut
  have HBY := keepHid (HB4.out.trans (HBX.out.mono HB4.out.size))
  have HE := keepHid (mends_any s x2 (HI3.out.below HBY.out) (by rw [HM.out]; omega))
  unfold hdV at HE
  obtain ⟨v0, v1, v2, v3, v4, v5, vf⟩ := blk6 (HK3.out.below HBY.out HK3.out.lt)
  go_wp2_with fail
  with_reducible refine HE.out.mono ?_
  rintro e wG ⟨A1, q1, d1, rfl, ho1, hb1⟩
  have ho2 := HO2.out.below hb1
  have hl1 := own_len ho1
  have hl2 := own_len ho2
  obtain rfl : q1 = q2 := by omega
  have hqm : q1 ≤ 9223372036854775807 := by obtain ⟨_, _, _, e1, e2⟩ := own_val ho1; unfold maxLen at e2; omega
  have HLN : Hid ((endsI r s x2).length = q1) := keepHid hl1
  have HS1 := keepHid (Sl.of_own ho1 (by unfold maxLen; omega))
  have HS2 := keepHid (Sl.of_own ho2 (by unfold maxLen; omega))
  have HBW := keepHid (HB3.out.trans ((HBY.out.trans (hb1.mono HBY.out.size)).mono HB3.out.size))
  clear hl1 hl2 ho1 ho2 hb1 HE v0 v1 v2 v3 v4 v5 vf
  generalize endsI r s x2 = xs at *
  go_wp2_with fail
  go_loopw [66] (fun i wr => ∃ j : Nat, j ≤ q1 ∧ i = .int .i64 j ∧ Hid (Below wG.heap.size wG wr)) (fun i _ => q1 - (intOf i).toNat)
  case atStart => exact ⟨0, Nat.zero_le _, rfl, keepHid (Below.refl _ _)⟩
  case round =>
    obtain ⟨j, hj, rfl, HBR⟩ := hrel
    rcases Nat.lt_or_ge j q1 with hlt | hge
    · obtain ⟨e, he⟩ : ∃ e, xs[j]? = some e := ⟨_, List.getElem?_eq_getElem (by rw [HLN.out]; exact hlt)⟩
      obtain ⟨ad1, rfl, hb1, hcell1⟩ := (HS1.out.below HBR.out).2.2 j e he
      obtain ⟨ad2, rfl, hb2, hcell2⟩ := (HS2.out.below HBR.out).2.2 j e he
      unfold natV at hcell1 hcell2
      have y1 := fun d os => cell_regrown hcell1 d os
      have y2 := fun d os => cell_regrown hcell2 d os
      have hji : (j : Int) < (q1 : Int) := by omega
      have hj0 : (0 : Int) ≤ (j : Int) := by omega
      clear he hb1 hb2 hcell1 hcell2
      go_wp2_with fail
      refine wp_region_quiet_below (by kernel_rfl) (by kernel_rfl) ?_
      repeat (go_big_quiet_step (fail))
      refine wpQuiet_nil ?_
      intro _ hw'
      obtain ⟨⟨dq, osq⟩, hw''⟩ := hw'
      subst hw''
      have HBR' := keepHid (HBR.out.trans ((below_regrown wr dq osq).mono HBR.out.size))
      go_wp2
      go_roundw
      case rel => exact ⟨j + 1, by omega, by go_num, HBR'⟩
      case measure => simp [intOf]; omega
    · go_wp2
      go_ret
      exact ⟨rfl, HBW.out.trans (HBR.out.mono HBW.out.size)⟩

set_option maxRecDepth 100000 in
theorem lifted (os : Os) (started : os.Started) (H : Type) (enc : TypeId × Value → H) :
    ReturnsInHanded {} Try.checked os 3 .any (Rows.matchEndsSpec.pre6 enc Try.prog Try.f3 Rows.matchEndsRow.domain false) (Rows.matchEndsSpec.post enc Try.prog Try.f3 false true false false) := by
  refine returnsInHanded_of_change_sized (C := Try.checked) own started (by kernel_rfl) Try.func3
    (ChangeSpec.witness6 (enc := enc) (C := Try.checked) false ⟨#[], #[.slice none 0 0, .slice none 0 0, .int .i8 0], []⟩ 8 (by kernel_rfl) (by kernel_rfl) (by kernel_rfl) (by kernel_rfl)) ?_
  intro W base args ds gs before hval0 hW hcnd hsz0 _
  have hsz : (DataW.weightsEach Try.prog (Try.f3.params.toList ++ Rows.matchEndsSpec.plain.varTypes Try.prog) (ds ++ gs)).all (· ≤ reachBytes) = true := hsz0
  clear hsz0
  have hval : ∀ (j : Nat) t v, Try.f3.params[j]? = some t → args[j]? = some v → Value.okWide Try.prog W .any base t v := hval0
  have hW' := hW
  obtain ⟨p, q, hA0, hV, rfl, hfz, hnd⟩ := hW
  have hA : DataW.TrodAll enc Try.prog W 0 (fun _ => true) true Try.f3.params.toList args.toList ds p := hA0
  rw [Try.params3] at hA hval hsz
  obtain ⟨v0, vs0, d0, ds0, p0, q0, hargs, rfl, rfl, h0, r0⟩ := trodAll_cons hA
  obtain ⟨v1, vs1, d1, ds1, p1, q1, rfl, rfl, rfl, h1, r1⟩ := trodAll_cons r0
  obtain ⟨v2, vs2, d2, ds2, p2, q2, rfl, rfl, rfl, h2, r2⟩ := trodAll_cons r1
  obtain ⟨rfl, rfl, rfl⟩ := trodAll_nil r2
  obtain rfl : args = #[v0, v1, v2] := by cases args; simp_all
  obtain ⟨rfl, rfl⟩ := trodVars_none hV
  have k0 := h0
  have lt0 : ∀ x ∈ p0, x.block < W.heap.size := by obtain ⟨m, hm⟩ := k0; exact DataW.trod_lt m _ _ _ hm
  have k1 := h1
  have lt1 : ∀ x ∈ p1, x.block < W.heap.size := by obtain ⟨m, hm⟩ := k1; exact DataW.trod_lt m _ _ _ hm
  have k2 := h2
  have lt2 : ∀ x ∈ p2, x.block < W.heap.size := by obtain ⟨m, hm⟩ := k2; exact DataW.trod_lt m _ _ _ hm
  obtain ⟨a0, n0, c0, b0, rfl, w0, l0, s0⟩ := open_bys Try.underlying22 Try.underlying5 (by kernel_rfl) (by kernel_rfl) (hval 0 22 v0 rfl rfl) (fun _ => rfl) h0 (fun el sp hd => sized_slice hsz (j := 0) (t := 22) (e := 5) rfl (by rw [hd]; rfl) Try.underlying22)
  obtain ⟨a1, n1, c1, b1, rfl, w1, l1, s1⟩ := open_bys Try.underlying22 Try.underlying5 (by kernel_rfl) (by kernel_rfl) (hval 1 22 v1 rfl rfl) (fun _ => rfl) h1 (fun el sp hd => sized_slice hsz (j := 1) (t := 22) (e := 5) rfl (by rw [hd]; rfl) Try.underlying22)
  obtain ⟨x2, rfl, rfl, rfl, w2⟩ := open_int Try.underlying23 (hval 2 23 v2 rfl rfl) h2
  clear hA0 hval0
  refine (walk a0 n0 c0 b0 a1 n1 c1 b1 x2 W w0 l0 s0 w1 l1 s1 (wf_i8 w2)).mono fun e W' ⟨he, bel⟩ => ?_
  subst he
  exact ⟨_, rfl, _, _, _, [], _, [], hW', trodAll_mk1 (shut_bool Try.underlying4 _), (trodAll_cons_mk (Below.trod laidOut (by kernel_rfl) (of_decide_eq_true (by kernel_rfl)) k0 bel lt0) (trodAll_cons_mk (Below.trod laidOut (by kernel_rfl) (of_decide_eq_true (by kernel_rfl)) k1 bel lt1) (trodAll_cons_mk (Below.trod laidOut (by kernel_rfl) (of_decide_eq_true (by kernel_rfl)) k2 bel lt2) trodAll_mk0))), rfl, bel.frame _, fun h => by cases h⟩

theorem over : Rows.matchEndsRow.holds Try.pinned (OpenSpec.ofChange Rows.matchEndsSpec) :=
  OpenClaim.holds_of_wide 3 Try.f3 rfl rfl rfl rfl rfl rfl rfl ⟨rfl, rfl, rfl, rfl, rfl⟩ rfl rfl rfl rfl rfl (by kernel_rfl) Try.func3 (by kernel_rfl)
    (of_decide_eq_true (by kernel_rfl)) (by unfold Func.isWrapper; first | (rw [if_pos (by decide +kernel)]; kernel_rfl) | (rw [if_neg (by decide +kernel)]; exact ⟨rfl, rfl⟩))
    (fun os started H enc _ => lifted os started H enc)

theorem proved : Rows.MatchEndsSaid := over
end Go.Proofs.Ytelkgkmomdmblaa.matchEnds
