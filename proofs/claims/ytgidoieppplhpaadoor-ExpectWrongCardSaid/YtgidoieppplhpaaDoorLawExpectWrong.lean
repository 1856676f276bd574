/-
  'lifelinelaw09.ExpectWrong' answers true for every input of the row, and leaves its arguments as they were.
  Conditions: the package-level variables that the row lists lie as the program's own text lays them (the card ties them to it; what is pinned is a constant of the library's).
-/
import Derived.Test.YtgidoieppplhpaaDoorRows
import Derived.Test.YtgidoieppplhpaaDoorExpectAwake
import Derived.Test.YtgidoieppplhpaaDoorErrNo
import Derived.Test.YtgidoieppplhpaaDoorFrameStrs
import Derived.LoopTactic
import Derived.Deep.DeepCutAuto
import Derived.Test.YtgidoieppplhpaaDoorFrame
import Derived.Test.YtgidoieppplhpaaDoorFrameRegex
import Derived.Test.YtgidoieppplhpaaDoorFrame
import Derived.Test.YtgidoieppplhpaaDoorFrameRegex
import Derived.Test.YtgidoieppplhpaaDoorCards
import Derived.WalkKit
import Derived.ProofKit
import Derived.OpenShut
import Derived.ShutString
import Derived.ChangeOld
import Derived.Below
namespace Go.Proofs.YtgidoieppplhpaaDoor.expectWrong
open Go.ChangeShapes Go.WideShapes Go.ChangeAt Go.RowKit
open Go.ChangeMaps (open_string shut_string)
set_option linter.unusedVariables false

theorem own : ownKnob Tryd.prog.godebug = none := by kernel_rfl
theorem laidOut : laidOutB Tryd.prog = true := by kernel_rfl

theorem of9_at {ss : List (List UInt8)} {j : Nat} {s : List UInt8} {rs : List Re} {v : Value} (hs : ss[j]? = some s) (h : of9 (ss.take j) = .inl rs) (hp : pat9 s = .inr v) : of9 ss = .inr v := by
  have hlt : j < ss.length := by
    rcases Nat.lt_or_ge j ss.length with h | h
    · exact h
    · rw [List.getElem?_eq_none h] at hs; cases hs
  have e : ss = ss.take j ++ s :: ss.drop (j + 1) := by
    have := List.take_append_drop j ss
    rw [List.drop_eq_getElem_cons hlt] at this
    have e2 : ss[j]'hlt = s := by
      rw [List.getElem?_eq_getElem hlt] at hs
      exact Option.some.inj hs
    rw [e2] at this
    exact this.symm
  rw [e]
  exact of9_bad _ _ _ _ _ h hp
set_option maxRecDepth 100000 in
set_option maxHeartbeats 4000000 in
theorem walk (a0 : Option Addr) (n0 c0 : Nat) (y0 : List (List UInt8)) (w : World) (hT : ErrT w) (h0 : Sl strV w a0 n0 y0) (l0 : n0 ≤ c0) (s0 : c0 ≤ 9223372036854775807) :
    Calls Tryd.prog 4 #[.slice a0 n0 c0] w fun e w' => e = .returned (.bool true) ∧ Below w.heap.size w w' := by
  have HSS := keepHid h0
  have HL := keepHid h0.len
  have HT := keepHid hT
  have HAW := keepHid (awake9_any w)
  clear h0 hT
  go_enter Tryd.func4, Tryd.ntmps4
  go_wp2_with fail
  with_reducible refine HAW.out.mono ?_
  rintro e w0 ⟨rfl, hb0⟩
  have HB0 := keepHid hb0
  have HOF := keepHid (ofw_any (c := c0) y0 (HSS.out.below hb0))
  clear hb0 HAW
  go_wp2_with fail
  with_reducible refine HOF.out.mono ?_
  rintro e w1 ⟨hb1, hc⟩
  have HB1 := keepHid (HB0.out.trans (hb1.mono HB0.out.size))
  have HT1 := keepHid (HT.out.below HB1.out HT.out.pos)
  rw [HL.out] at hc
  clear hb1 HOF
  rcases hc with ⟨hn, rfl⟩ | ⟨hn1, hn8, ⟨rs, g, A, cap, hof, rfl, hg, hw⟩ | ⟨x, v, hof, rfl⟩⟩
  · have HN := keepHid (number_e 7 w1 HT1.out)
    unfold errnoV
    rcases hn with hn | hn
    · subst hn
      go_wp2_with fail
      with_reducible refine HN.out.mono ?_
      rintro e w2 ⟨rfl, hb2⟩
      have HB2 := keepHid (HB1.out.trans (hb2.mono HB1.out.size))
      clear hb2
      go_wp2
      go_ret
      exact ⟨rfl, HB2.out⟩
    · have hz : ((n0 : Int) == 0) = false := by simp only [beq_eq_false_iff_ne, ne_eq]; omega
      have hg : (8 : Int) < (n0 : Int) := by omega
      go_wp2_with fail
      with_reducible refine HN.out.mono ?_
      rintro e w2 ⟨rfl, hb2⟩
      have HB2 := keepHid (HB1.out.trans (hb2.mono HB1.out.size))
      clear hb2
      go_wp2
      go_ret
      exact ⟨rfl, HB2.out⟩
  · have hz : ((n0 : Int) == 0) = false := by simp only [beq_eq_false_iff_ne, ne_eq]; omega
    have hg8 : ¬ (8 : Int) < (n0 : Int) := by omega
    have HWW := keepHid hw
    have HOFF := keepHid hof
    clear hg hw hof
    unfold ptrV
    go_wp2_with fail
    clear hz hg8
    go_loopw [33] (fun i wr => ∃ (j : Nat) (rs' : List Re), j ≤ n0 ∧ i = .int .i64 j ∧ Hid (of9 (y0.take j) = .inl rs') ∧ Hid (Below w.heap.size w wr ∧ Below w1.heap.size w1 wr)) (fun i _ => n0 - (intOf i).toNat)
    case atStart => exact ⟨0, [], Nat.zero_le _, rfl, keepHid rfl, keepHid ⟨HB1.out, Below.refl _ _⟩⟩
    case round =>
      obtain ⟨j, rs', hj, rfl, HOF', HBB⟩ := hrel
      have HB := keepHid HBB.out.1
      rcases Nat.lt_or_ge j n0 with hlt | hge
      · obtain ⟨s, hsj⟩ : ∃ s, y0[j]? = some s := ⟨_, List.getElem?_eq_getElem (by rw [HL.out]; exact hlt)⟩
        obtain ⟨ad, rfl, hbl, hcell⟩ := (HSS.out.below HB.out).2.2 j s hsj
        have HSJ := keepHid hsj
        have HP := keepHid (parse_any s wr)
        have hji : (j : Int) < (n0 : Int) := by omega
        have HBAD : Hid (∀ v, pat9 s = .inr v → of9 y0 = .inr v) := keepHid (fun v hv => of9_at hsj HOF'.out hv)
        have HNX : Hid (∀ r, pat9 s = .inl r → of9 (y0.take (j + 1)) = .inl (rs' ++ [r])) := keepHid (fun r hr => by rw [List.take_succ_of hsj]; exact of9_snoc _ _ _ _ HOF'.out hr)
        clear hsj hbl
        unfold strV at hcell
        go_wp2_with fail
        with_reducible refine HP.out.mono ?_
        rintro e w2 ⟨hb2, hc⟩
        have HB2 := keepHid (HB.out.trans (hb2.mono HB.out.size))
        have HBB2 := keepHid (HBB.out.2.trans (hb2.mono HBB.out.2.size))
        clear hb2 HP
        rcases hc with ⟨h64, rfl⟩ | ⟨h64, ⟨r, h, hf, rfl, hir⟩ | ⟨p, hf, rfl⟩⟩
        · have hp : pat9 s = .inr (faultV 7 64) := by unfold pat9; rw [if_pos h64]
          have := HBAD.out _ hp
          rw [HOFF.out] at this
          cases this
        · obtain ⟨w3, hw3⟩ : ∃ w3, w2.alloc (.cells (hdC h) 32) = w3 := ⟨_, rfl⟩
          obtain ⟨hi3, hb3, hk3⟩ := node_var hir hw3
          have hsm : Sm (addF r tb0).2 := sm_small (parse_nds h64 hf)
          have HO3 := keepHid (of_any hi3 hsm)
          have HB3 := keepHid (HB2.out.trans (hb3.mono HB2.out.size))
          have HBB3 := keepHid (HBB2.out.trans (hb3.mono HBB2.out.size))
          have HW3 := keepHid hw3
          unfold hdC at hk3 HW3
          obtain ⟨m0, m1, m2, m3, m4, m5, mf⟩ := blk6 hk3
          have HPP : Hid (pat9 s = if emp r then .inr (errnoV 8) else .inl r) := keepHid (by unfold pat9; rw [if_neg (by omega), hf])
          clear hi3 hb3 hk3 hw3 hir hf h64 hsm
          unfold hdV at *
          go_upto_region 12 with fail
          rw [HW3.out]
          generalize w2.heap.size = V at *
          go_wp2_with fail
          with_reducible refine HO3.out.mono ?_
          rintro e w4 ⟨g4, rfl, hA, hb4⟩
          have HE := keepHid (tabA_empty hA)
          rw [show (auOf r).e = emp r from (auOf_ok r).e] at HE
          have HB4 := keepHid (HB3.out.trans (hb4.mono HB3.out.size))
          have HBB4 := keepHid (HBB3.out.trans (hb4.mono HBB3.out.size))
          obtain ⟨E, hE⟩ : ∃ E, emp r = E := ⟨_, rfl⟩
          rw [hE] at HE HPP
          clear hA hb4 hE m0 m1 m2 m3 m4 m5 mf HW3 HO3
          go_wp2_with fail
          with_reducible refine HE.out.mono ?_
          rintro e w' ⟨rfl, rfl⟩
          cases E
          · have HNN := keepHid (HNX.out r (by rw [HPP.out]; rfl))
            go_wp2
            go_roundw
            case rel => exact ⟨j + 1, rs' ++ [r], by omega, by go_num, HNN, keepHid ⟨HB4.out, HBB4.out⟩⟩
            case measure => simp [intOf]; omega
          · have := HBAD.out _ (by rw [HPP.out]; rfl)
            rw [HOFF.out] at this
            cases this
        · have hp : pat9 s = .inr (faultV 8 (p : Int)) := by unfold pat9; rw [if_neg (by omega), hf]
          have := HBAD.out _ hp
          rw [HOFF.out] at this
          cases this
      · have hji : ¬ (j : Int) < (n0 : Int) := by omega
        have hcs := (((HWW.out.below HBB.out.2).wat (B := w1.heap.size) (Nat.le_refl _) HBB.out.2.size)).cells
        have HSE := keepHid (seen_any hcs)
        have HOV := keepHid (over_any hcs)
        clear hcs
        go_wp2_with fail
        with_reducible refine HSE.out.mono ?_
        rintro e w' ⟨rfl, rfl⟩
        go_wp2_with fail
        with_reducible refine HOV.out.mono ?_
        rintro e w' ⟨rfl, rfl⟩
        go_wp2
        go_ret
        exact ⟨rfl, HBB.out.1⟩
  · have hz : ((n0 : Int) == 0) = false := by simp only [beq_eq_false_iff_ne, ne_eq]; omega
    have hg8 : ¬ (8 : Int) < (n0 : Int) := by omega
    have HOFF := keepHid hof
    clear hof
    go_wp2_with fail
    clear hz hg8
    go_loopw [33] (fun i wr => ∃ (j : Nat) (rs' : List Re), j ≤ n0 ∧ i = .int .i64 j ∧ Hid (of9 (y0.take j) = .inl rs') ∧ Hid (Below w.heap.size w wr)) (fun i _ => n0 - (intOf i).toNat)
    case atStart => exact ⟨0, [], Nat.zero_le _, rfl, keepHid rfl, HB1⟩
    case round =>
      obtain ⟨j, rs', hj, rfl, HOF', HB⟩ := hrel
      rcases Nat.lt_or_ge j n0 with hlt | hge
      · obtain ⟨s, hsj⟩ : ∃ s, y0[j]? = some s := ⟨_, List.getElem?_eq_getElem (by rw [HL.out]; exact hlt)⟩
        obtain ⟨ad, rfl, hbl, hcell⟩ := (HSS.out.below HB.out).2.2 j s hsj
        have HSJ := keepHid hsj
        have HP := keepHid (parse_any s wr)
        have hji : (j : Int) < (n0 : Int) := by omega
        have HBAD : Hid (∀ v, pat9 s = .inr v → of9 y0 = .inr v) := keepHid (fun v hv => of9_at hsj HOF'.out hv)
        have HNX : Hid (∀ r, pat9 s = .inl r → of9 (y0.take (j + 1)) = .inl (rs' ++ [r])) := keepHid (fun r hr => by rw [List.take_succ_of hsj]; exact of9_snoc _ _ _ _ HOF'.out hr)
        clear hsj hbl
        unfold strV at hcell
        go_wp2_with fail
        with_reducible refine HP.out.mono ?_
        rintro e w2 ⟨hb2, hc⟩
        have HB2 := keepHid (HB.out.trans (hb2.mono HB.out.size))
        clear hb2 HP
        rcases hc with ⟨h64, rfl⟩ | ⟨h64, ⟨r, h, hf, rfl, hir⟩ | ⟨p, hf, rfl⟩⟩
        · have hp : pat9 s = .inr (faultV 7 64) := by unfold pat9; rw [if_pos h64]
          have hh := (HBAD.out _ hp).symm.trans HOFF.out
          unfold faultV at hh
          injection hh with hh
          injection hh with hx hv
          subst hx hv
          clear hp h64 HBAD HNX HOFF
          have HT2 := keepHid (HT.out.below HB2.out HT.out.pos)
          obtain ⟨w3, hw3⟩ : ∃ w3, w2.alloc (.cells #[.int .i64 0, .int .u64 0, .int .u64 0, .int .u64 0, .int .u64 0, .slice none 0 0] 32) = w3 := ⟨_, rfl⟩
          have HW3 := keepHid hw3
          have hb23 : Below w2.heap.size w2 w3 := by rw [← hw3]; exact (Below.refl _ _).alloc (Nat.le_refl _) _
          have HB3 := keepHid (HB2.out.trans (hb23.mono HB2.out.size))
          have HT3 := keepHid (HT2.out.below hb23 HT2.out.pos)
          clear hw3 hb23
          rw [hdV_hd0]
          unfold faultV at *
          go_upto_region 11 with fail
          rw [HW3.out]
          have HN1 := keepHid (number_any 7 64 w3 HT3.out)
          unfold faultV at HN1
          go_wp2_with fail
          with_reducible refine HN1.out.mono ?_
          rintro e w4 ⟨rfl, hb4⟩
          have HB4 := keepHid (HB3.out.trans (hb4.mono HB3.out.size))
          have HT4 := keepHid (HT3.out.below hb4 HT3.out.pos)
          have HN2 := keepHid (number_any 7 64 w4 HT4.out)
          unfold faultV at HN2
          clear hb4
          go_wp2_with fail
          with_reducible refine HN2.out.mono ?_
          rintro e w5 ⟨rfl, hb5⟩
          have HB5 := keepHid (HB4.out.trans (hb5.mono HB4.out.size))
          have HT5 := keepHid (HT4.out.below hb5 HT4.out.pos)
          have HQ1 := keepHid (place_any 7 64 w5 HT5.out)
          unfold faultV at HQ1
          clear hb5
          go_wp2_with fail
          with_reducible refine HQ1.out.mono ?_
          rintro e w6 ⟨rfl, hb6⟩
          have HB6 := keepHid (HB5.out.trans (hb6.mono HB5.out.size))
          have HT6 := keepHid (HT5.out.below hb6 HT5.out.pos)
          have HQ2 := keepHid (place_any 7 64 w6 HT6.out)
          unfold faultV at HQ2
          clear hb6
          go_wp2_with fail
          with_reducible refine HQ2.out.mono ?_
          rintro e w7 ⟨rfl, hb7⟩
          have HB7 := keepHid (HB6.out.trans (hb7.mono HB6.out.size))
          clear hb7
          go_wp2
          go_ret
          exact ⟨rfl, HB7.out⟩
        · obtain ⟨w3, hw3⟩ : ∃ w3, w2.alloc (.cells (hdC h) 32) = w3 := ⟨_, rfl⟩
          obtain ⟨hi3, hb3, hk3⟩ := node_var hir hw3
          have hsm : Sm (addF r tb0).2 := sm_small (parse_nds h64 hf)
          have HO3 := keepHid (of_any hi3 hsm)
          have HB3 := keepHid (HB2.out.trans (hb3.mono HB2.out.size))
          have HW3 := keepHid hw3
          unfold hdC at hk3 HW3
          obtain ⟨m0, m1, m2, m3, m4, m5, mf⟩ := blk6 hk3
          have HPP : Hid (pat9 s = if emp r then .inr (errnoV 8) else .inl r) := keepHid (by unfold pat9; rw [if_neg (by omega), hf])
          clear hi3 hb3 hk3 hw3 hir hf h64 hsm
          unfold hdV at *
          go_upto_region 12 with fail
          rw [HW3.out]
          generalize w2.heap.size = V at *
          go_wp2_with fail
          with_reducible refine HO3.out.mono ?_
          rintro e w4 ⟨g4, rfl, hA, hb4⟩
          have HE := keepHid (tabA_empty hA)
          rw [show (auOf r).e = emp r from (auOf_ok r).e] at HE
          have HB4 := keepHid (HB3.out.trans (hb4.mono HB3.out.size))
          obtain ⟨E, hE⟩ : ∃ E, emp r = E := ⟨_, rfl⟩
          rw [hE] at HE HPP
          clear hA hb4 hE m0 m1 m2 m3 m4 m5 mf HW3 HO3
          go_wp2_with fail
          with_reducible refine HE.out.mono ?_
          rintro e w' ⟨rfl, rfl⟩
          cases E
          · have HNN := keepHid (HNX.out r (by rw [HPP.out]; rfl))
            go_wp2
            go_roundw
            case rel => exact ⟨j + 1, rs' ++ [r], by omega, by go_num, HNN, HB4⟩
            case measure => simp [intOf]; omega
          · have hh := (HBAD.out _ (by rw [HPP.out]; rfl)).symm.trans HOFF.out
            unfold errnoV at hh
            injection hh with hh
            injection hh with hx hv
            subst hx hv
            have HT4 := keepHid (HT.out.below HB4.out HT.out.pos)
            have HN := keepHid (number_e 8 w4 HT4.out)
            clear HBAD HNX HOFF HPP
            go_wp2_with fail
            with_reducible refine HN.out.mono ?_
            rintro e w5 ⟨rfl, hb5⟩
            have HB5 := keepHid (HB4.out.trans (hb5.mono HB4.out.size))
            have HT5 := keepHid (HT4.out.below hb5 HT4.out.pos)
            have HQ := keepHid (place_e 8 w5 HT5.out)
            clear hb5
            go_wp2_with fail
            with_reducible refine HQ.out.mono ?_
            rintro e w6 ⟨rfl, hb6⟩
            have HB6 := keepHid (HB5.out.trans (hb6.mono HB5.out.size))
            clear hb6
            go_wp2
            go_ret
            exact ⟨rfl, HB6.out⟩
        · have hp : pat9 s = .inr (faultV 8 (p : Int)) := by unfold pat9; rw [if_neg (by omega), hf]
          have hh := (HBAD.out _ hp).symm.trans HOFF.out
          unfold faultV at hh
          injection hh with hh
          injection hh with hx hv
          subst hx hv
          clear hp hf h64 HBAD HNX HOFF
          have HT2 := keepHid (HT.out.below HB2.out HT.out.pos)
          obtain ⟨w3, hw3⟩ : ∃ w3, w2.alloc (.cells #[.int .i64 0, .int .u64 0, .int .u64 0, .int .u64 0, .int .u64 0, .slice none 0 0] 32) = w3 := ⟨_, rfl⟩
          have HW3 := keepHid hw3
          have hb23 : Below w2.heap.size w2 w3 := by rw [← hw3]; exact (Below.refl _ _).alloc (Nat.le_refl _) _
          have HB3 := keepHid (HB2.out.trans (hb23.mono HB2.out.size))
          have HT3 := keepHid (HT2.out.below hb23 HT2.out.pos)
          clear hw3 hb23
          rw [hdV_hd0]
          unfold faultV at *
          go_upto_region 11 with fail
          rw [HW3.out]
          have HN1 := keepHid (number_any 8 (p : Int) w3 HT3.out)
          unfold faultV at HN1
          go_wp2_with fail
          with_reducible refine HN1.out.mono ?_
          rintro e w4 ⟨rfl, hb4⟩
          have HB4 := keepHid (HB3.out.trans (hb4.mono HB3.out.size))
          have HT4 := keepHid (HT3.out.below hb4 HT3.out.pos)
          have HN2 := keepHid (number_any 8 (p : Int) w4 HT4.out)
          unfold faultV at HN2
          clear hb4
          go_wp2_with fail
          with_reducible refine HN2.out.mono ?_
          rintro e w5 ⟨rfl, hb5⟩
          have HB5 := keepHid (HB4.out.trans (hb5.mono HB4.out.size))
          have HT5 := keepHid (HT4.out.below hb5 HT4.out.pos)
          have HQ1 := keepHid (place_any 8 (p : Int) w5 HT5.out)
          unfold faultV at HQ1
          clear hb5
          go_wp2_with fail
          with_reducible refine HQ1.out.mono ?_
          rintro e w6 ⟨rfl, hb6⟩
          have HB6 := keepHid (HB5.out.trans (hb6.mono HB5.out.size))
          have HT6 := keepHid (HT5.out.below hb6 HT5.out.pos)
          have HQ2 := keepHid (place_any 8 (p : Int) w6 HT6.out)
          unfold faultV at HQ2
          clear hb6
          go_wp2_with fail
          with_reducible refine HQ2.out.mono ?_
          rintro e w7 ⟨rfl, hb7⟩
          have HB7 := keepHid (HB6.out.trans (hb7.mono HB6.out.size))
          clear hb7
          go_wp2
          go_ret
          exact ⟨rfl, HB7.out⟩
      · have := HOF'.out
        rw [List.take_of_length_le (by rw [HL.out]; exact hge), HOFF.out] at this
        cases this

set_option maxRecDepth 100000 in
theorem lifted (os : Os) (started : os.Started) (H : Type) (enc : TypeId × Value → H) :
    ReturnsInHanded {} Tryd.checked os 4 .any (fun w args => (Rows.expectWrongSpec.pre enc Tryd.prog Tryd.f4 [] false w args ∧ laidMetH Tryd.prog laidR w) ∧ sizedMet enc Tryd.prog Tryd.f4 (OpenSpec.ofChange Rows.expectWrongSpec) false w args) (Rows.expectWrongSpec.post enc Tryd.prog Tryd.f4 false true false false) := by
  refine returnsInHanded_of_change_and (C := Tryd.checked) (X := fun w _ => laidMetH Tryd.prog laidR w) (fun _ _ _ hh h => h.of_heap hh) own started (by kernel_rfl) Tryd.func4
    (ChangeSpec.witness_shaped (enc := enc) (C := Tryd.checked) (os := os) (X := fun w _ => laidMetH Tryd.prog laidR w) false (World.doorLaid Tryd.prog 400 os) #[.slice none 0 0] 8 rfl (World.shaped_of_RefB (by kernel_rfl) (by kernel_rfl)) (by kernel_rfl) (by kernel_rfl) (by kernel_rfl) (doorR os _)) ?_
  intro W base args ds gs before hval0 hW hcnd hsz0 hL _
  have hsz : (DataW.weightsEach Tryd.prog (Tryd.f4.params.toList ++ Rows.expectWrongSpec.plain.varTypes Tryd.prog) (ds ++ gs)).all (· ≤ reachBytes) = true := hsz0
  clear hsz0
  have hval : ∀ (j : Nat) t v, Tryd.f4.params[j]? = some t → args[j]? = some v → Value.okWide Tryd.prog W .any base t v := hval0
  have hW' := hW
  obtain ⟨p, q, hA0, hV, rfl, hfz, hnd⟩ := hW
  have hA : DataW.TrodAll enc Tryd.prog W 0 (fun _ => true) true Tryd.f4.params.toList args.toList ds p := hA0
  rw [Tryd.params4] at hA hval hsz
  obtain ⟨v0, vs0, d0, ds0, p0, q0, hargs, rfl, rfl, h0, r0⟩ := trodAll_cons hA
  obtain ⟨rfl, rfl, rfl⟩ := trodAll_nil r0
  obtain rfl : args = #[v0] := by cases args; simp_all
  obtain ⟨rfl, rfl⟩ := trodVars_none hV
  have k0 := h0
  have lt0 : ∀ x ∈ p0, x.block < W.heap.size := by obtain ⟨m, hm⟩ := k0; exact DataW.trod_lt m _ _ _ hm
  obtain ⟨a0, n0, c0, y0, rfl, w0, l0, s0⟩ := open_strs Tryd.underlying25 Tryd.underlying9 (by kernel_rfl) (hval 0 25 v0 rfl rfl) h0
  clear hA0 hval0
  refine (walk a0 n0 c0 y0 W (tabsR hL) w0 l0 s0).mono fun e W' ⟨he, bel⟩ => ?_
  subst he
  exact ⟨_, rfl, _, _, _, [], _, [], hW', trodAll_mk1 (shut_bool Tryd.underlying4 _), (trodAll_cons_mk (Below.trod laidOut (by kernel_rfl) (of_decide_eq_true (by kernel_rfl)) k0 bel lt0) trodAll_mk0), rfl, bel.frame _, fun h => by cases h⟩

theorem over : Rows.expectWrongRow.holds Tryd.pinned (OpenSpec.ofChange Rows.expectWrongSpec) :=
  OpenClaim.holds_of_wide 4 Tryd.f4 rfl rfl rfl rfl rfl rfl rfl ⟨rfl, rfl, rfl, rfl, rfl⟩ rfl rfl rfl rfl rfl (by kernel_rfl) Tryd.func4 (by kernel_rfl)
    (of_decide_eq_true (by kernel_rfl)) (by unfold Func.isWrapper; first | (rw [if_pos (by decide +kernel)]; kernel_rfl) | (rw [if_neg (by decide +kernel)]; exact ⟨rfl, rfl⟩))
    (fun os started H enc _ => lifted os started H enc)

/-- The card: what the row lists is tied to the program's own text. -/
theorem proved : Rows.ExpectWrongCardSaid :=
  Claim7.holds_tied_plain_at .later [] [.handle] true Rows.expectWrongCard.stood.harness true
    over (fun _ h => by cases h) (by kernel_rfl) (fun _ h => by cases h) expectWrong_row_tie rfl ⟨rfl, rfl⟩ (by kernel_rfl) rfl
    (fun f fn hf hfn => by
      obtain rfl : f = 4 := Option.some.inj ((show Tryd.prog.funcNamed "lifeline/lifelinelaw09.ExpectWrong" = some 4 by kernel_rfl).symm.trans hf) |>.symm
      obtain rfl : fn = Tryd.f4 := (Option.some.inj (Tryd.func4.symm.trans hfn)).symm
      exact ⟨by kernel_rfl, fun j t ht => by
        rw [Tryd.params4] at ht
        have hm : t ∈ [25] := by simpa using Array.mem_of_getElem? ht
        have hall : ([25].all fun u => !Tryd.prog.wantsStandIn u) = true := by kernel_rfl
        exact (show Tryd.prog.wantsStandIn t = false by simpa using List.all_eq_true.1 hall t hm)⟩)
    (by kernel_rfl)
end Go.Proofs.YtgidoieppplhpaaDoor.expectWrong
