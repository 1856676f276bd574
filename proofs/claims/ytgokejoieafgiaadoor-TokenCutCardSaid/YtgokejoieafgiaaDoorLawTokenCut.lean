/-
  'lifelinelaw15.TokenCut' answers true for every input of the row, and leaves its arguments as they were.
  Conditions: the package-level variables that the row lists lie as the program's own text lays them (the card ties them to it; what is pinned is a constant of the library's).
-/
import Derived.Test.YtgokejoieafgiaaDoorRows
import Derived.Test.YtgokejoieafgiaaDoorTokenCutL
import Derived.Test.YtgokejoieafgiaaDoorFrame
import Derived.Test.YtgokejoieafgiaaDoorFrameEight
import Derived.Test.YtgokejoieafgiaaDoorCards
import Derived.Test.YtgokejoieafgiaaDoorTokenSame
import Derived.Test.YtgokejoieafgiaaDoorTokenAwake
import Derived.Test.YtgokejoieafgiaaDoorErrUse
import Derived.Test.YtgokejoieafgiaaDoorTokenMore
import Derived.Lib.QuietBelow
import Derived.Deep.DeepCutAuto
import Derived.OwnWalk
import Derived.WalkKit
import Derived.ProofKit
import Derived.OpenShut
import Derived.ShutString
import Derived.ChangeOld
import Derived.Below
namespace Go.Proofs.YtgokejoieafgiaaDoor.tokenCut
open Go.ChangeShapes Go.WideShapes Go.ChangeAt Go.RowKit
open Go.ChangeMaps (open_string shut_string)
set_option linter.unusedVariables false

theorem own : ownKnob Tryd.prog.godebug = none := by kernel_rfl
theorem laidOut : laidOutB Tryd.prog = true := by kernel_rfl

theorem cut_long (l : List UInt8) (hl : 4096 < l.length) (hl2 : l.length ≤ 140737488351232) (w : World) :
    Calls Tryd.prog 9 #[.string (strB l)] w fun e w' => e = .returned (.tuple #[.slice none 0 0, faultV 7 0]) ∧ w' = w := by
  have hlen : (strB l).size = l.length := strB_size l
  have HW := keepHid (wrap_any 7 0)
  have h1 : (4096 : Int) < (l.length : Int) := by omega
  go_enter Tryd.func9, Tryd.ntmps9
  go_wp2
  go_step3
  go_wp2_with (refine (HW.out _).mono ?_; rintro e w' ⟨rfl, rfl⟩)
  rw [Exit.noGoto_ret]
  go_ret2
  exact ⟨rfl, rfl⟩
set_option maxRecDepth 100000 in
set_option maxHeartbeats 4000000 in
theorem walkL (l : List UInt8) (w : World) (hE : Errs w) (hR : ErrT w) (hl : l.length ≤ 140737488351232) :
    Calls Tryd.prog 3 #[.string (strB l)] w fun e w' => e = .returned (.bool true) ∧ Below w.heap.size w w' := by
  have hlen : (strB l).size = l.length := strB_size l
  have HA := keepHid (awake_any w hE)
  have HE := keepHid hE
  have HR := keepHid hR
  clear hE hR
  by_cases hbig : 4096 < l.length
  · have hI : (4096 : Int) < (l.length : Int) := by omega
    have HC := keepHid (cut_long l hbig hl)
    go_enter Tryd.func3, Tryd.ntmps3
    go_wp2_with fail
    refine HA.out.mono ?_
    rintro e w1 ⟨rfl, hb1⟩
    have HB1 := keepHid hb1
    have HT1 := keepHid (HR.out.below hb1 HR.out.pos)
    clear hb1 HA
    go_wp2_with fail
    refine (HC.out _).mono ?_
    rintro e w2 ⟨rfl, rfl⟩
    clear HC
    go_wp2_with fail
    refine (number_any 7 0 _ HT1.out).mono ?_
    rintro e w3 ⟨rfl, hb3⟩
    have HB3 := keepHid (HB1.out.trans (hb3.mono HB1.out.size))
    have HT3 := keepHid (HT1.out.below hb3 HT1.out.pos)
    clear hb3
    go_wp2_with fail
    refine (place_any 7 0 _ HT3.out).mono ?_
    rintro e w4 ⟨rfl, hb4⟩
    have HB4 := keepHid (HB3.out.trans (hb4.mono HB3.out.size))
    clear hb4
    go_wp2
    go_ret
    exact ⟨rfl, HB4.out⟩
  · have hI : ¬ (4096 : Int) < (l.length : Int) := by omega
    have HC := keepHid (cut_any l (by omega))
    have HL := keepHid (cutl_any l (by omega))
    generalize l.length = N at *
    go_enter Tryd.func3, Tryd.ntmps3
    go_wp2_with fail
    refine HA.out.mono ?_
    rintro e w1 ⟨rfl, hb1⟩
    have HB1 := keepHid hb1
    have HT1 := keepHid (HR.out.below hb1 HR.out.pos)
    have HE1 := keepHid (HE.out.below hb1 (Nat.le_refl _))
    clear hb1 HA
    go_wp2_with fail
    refine (HC.out _ HE1.out).mono ?_
    rintro e w2 ⟨⟨p, hp, rfl⟩ | ⟨ts, A, n, c, hts, rfl, hown⟩, hb2⟩
    · have HB2 := keepHid (HB1.out.trans (hb2.mono HB1.out.size))
      have HT2 := keepHid (HT1.out.below hb2 HT1.out.pos)
      have HP := keepHid hp
      clear hb2 hp HC
      go_wp2_with fail
      refine (HL.out _).mono ?_
      rintro e w3 ⟨⟨p', _, hp', rfl⟩ | ⟨ts, A, n, c, hts, rfl, hown⟩, hb3⟩
      · obtain rfl : p = p' := by rw [HP.out] at hp'; injection hp'
        have HB3 := keepHid (HB2.out.trans (hb3.mono HB2.out.size))
        have HT3 := keepHid (HT2.out.below hb3 HT2.out.pos)
        clear hb3 hp'
        go_wp2_with fail
        refine (number_any 1 (p : Int) _ HT3.out).mono ?_
        rintro e w4 ⟨rfl, hb4⟩
        have HB4 := keepHid (HB3.out.trans (hb4.mono HB3.out.size))
        have HT4 := keepHid (HT3.out.below hb4 HT3.out.pos)
        clear hb4
        go_wp2_with fail
        refine (place_any 1 (p : Int) _ HT4.out).mono ?_
        rintro e w5 ⟨rfl, hb5⟩
        have HB5 := keepHid (HB4.out.trans (hb5.mono HB4.out.size))
        clear hb5
        go_wp2
        go_ret
        exact ⟨rfl, HB5.out⟩
      · rw [HP.out] at hts; cases hts
    · have HB2 := keepHid (HB1.out.trans (hb2.mono HB1.out.size))
      have HTS := keepHid hts
      have HO := keepHid hown
      obtain ⟨A', c', e0, hnc, hc63, _⟩ := hown.form
      obtain ⟨rfl, rfl⟩ : A = A' ∧ c = c' := by injection e0 with e1 e2 e3; exact ⟨e1, e3⟩
      have hn63 : n ≤ 9223372036854775807 := by omega
      clear hb2 hts HC hown e0
      go_wp2_with fail
      refine (HL.out _).mono ?_
      rintro e w3 ⟨⟨p', _, hp', rfl⟩ | ⟨ts', A', n', c', hts', rfl, hown'⟩, hb3⟩
      · rw [HTS.out] at hp'; cases hp'
      · obtain rfl : ts = ts' := by rw [HTS.out] at hts'; injection hts'
        have HB3 := keepHid (HB2.out.trans (hb3.mono HB2.out.size))
        obtain ⟨A2, c2, e0, hnc', hc63', _⟩ := hown'.form
        obtain ⟨rfl, rfl⟩ : A' = A2 ∧ c' = c2 := by injection e0 with e1 e2 e3; exact ⟨e1, e3⟩
        have hln := HO.out.len
        have hln' := hown'.len
        obtain rfl : n = n' := by omega
        have HA3 := keepHid ((HO.out.below hb3).tkr)
        have HA3' := keepHid hown'.tkr
        have HLN := keepHid hln
        have HS := keepHid (same_any ts ts A A' n n c c' hln hln' ⟨hn63, hn63⟩ w3 HA3.out HA3'.out)
        clear hb3 hts' HL hown' hln hln' e0
        go_wp2_with fail
        refine HS.out.mono ?_
        rintro e w4 ⟨rfl, hb4⟩
        have HB4 := keepHid (HB3.out.trans (hb4.mono HB3.out.size))
        have HA4 := keepHid (HA3.out.below hb4 (Nat.le_refl _))
        have HA4' := keepHid (HA3'.out.below hb4 (Nat.le_refl _))
        have hself : decide (ts.map strip = ts.map strip) = true := decide_eq_true rfl
        clear hb4 HS
        go_wp2_with fail
        go_loopw [64] (fun kv wr => ∃ k : Nat, kv = .int .i64 (k : Int) ∧ k ≤ n ∧ Hid (Below w4.heap.size w4 wr)) (fun kv _ => n - (intOf kv).toNat)
        case atStart => exact ⟨0, rfl, Nat.zero_le _, keepHid (Below.refl _ _)⟩
        case round =>
          obtain ⟨k, rfl, hk, HBW⟩ := hrel
          generalize wr = wq at *
          by_cases hkN : k < n
          · obtain ⟨t, ht⟩ : ∃ t, ts[k]? = some t := ⟨_, List.getElem?_eq_getElem (by rw [HLN.out]; exact hkN)⟩
            obtain ⟨ga, rfl, gla, a0, a1, a2, a3⟩ := (HA4.out.below HBW.out (Nat.le_refl _)).at_ ht
            obtain ⟨gb, rfl, glb, b0, b1, b2, b3⟩ := (HA4'.out.below HBW.out (Nat.le_refl _)).at_ ht
            have f3 := fun q os => cell_regrown a3 q os
            have e3 := fun q os => cell_regrown b3 q os
            have hkI : (k : Int) < (n : Int) := by omega
            clear a0 a1 a2 a3 b0 b1 b2 b3 ht
            go_upto_region 15 with fail
            refine wp_region_quiet_below (by kernel_rfl) (by kernel_rfl) ?_
            repeat (go_big_quiet_step (fail))
            refine wpQuiet_nil ?_
            intro wz hw'
            obtain ⟨⟨dq, osq⟩, hw''⟩ := hw'
            subst hw''
            have HBZ := keepHid (HBW.out.trans ((below_regrown wq dq osq).mono HBW.out.size))
            clear f3 e3
            go_wp2
            go_roundw
            case rel => exact ⟨k + 1, by go_num, by omega, HBZ⟩
            case measure => simp [intOf]; omega
          · obtain rfl : k = n := by omega
            have HB5 := keepHid (HB4.out.trans (HBW.out.mono HB4.out.size))
            go_wp2
            go_ret
            exact ⟨rfl, HB5.out⟩
theorem walk (x0 : ByteArray) (w : World) (hE : Errs w) (hR : ErrT w) (h0 : x0.size ≤ 140737488351232) :
    Calls Tryd.prog 3 #[.string x0] w fun e w' => e = .returned (.bool true) ∧ Below w.heap.size w w' := by
  exact walkL x0.data.toList w hE hR h0

set_option maxRecDepth 100000 in
theorem lifted (os : Os) (started : os.Started) (H : Type) (enc : TypeId × Value → H) :
    ReturnsInHanded {} Tryd.checked os 3 .any (fun w args => (Rows.tokenCutSpec.pre enc Tryd.prog Tryd.f3 [] false w args ∧ laidMetH Tryd.prog laid8 w) ∧ sizedMet enc Tryd.prog Tryd.f3 (OpenSpec.ofChange Rows.tokenCutSpec) false w args) (Rows.tokenCutSpec.post enc Tryd.prog Tryd.f3 false true false false) := by
  refine returnsInHanded_of_change_and (C := Tryd.checked) (X := fun w _ => laidMetH Tryd.prog laid8 w) (fun _ _ _ hh h => h.of_heap hh) own started (by kernel_rfl) Tryd.func3
    (ChangeSpec.witness_shaped (enc := enc) (C := Tryd.checked) (os := os) (X := fun w _ => laidMetH Tryd.prog laid8 w) false (worldF os) #[.string ⟨#[]⟩] 8 (worldF_os os) (World.shaped_of_RefB (by kernel_rfl) (by kernel_rfl)) (by kernel_rfl) (by kernel_rfl) (by kernel_rfl) (door8 os _)) ?_
  intro W base args ds gs before hval0 hW hcnd hsz0 hL _
  have hsz : (DataW.weightsEach Tryd.prog (Tryd.f3.params.toList ++ Rows.tokenCutSpec.plain.varTypes Tryd.prog) (ds ++ gs)).all (· ≤ reachBytes) = true := hsz0
  clear hsz0
  have hval : ∀ (j : Nat) t v, Tryd.f3.params[j]? = some t → args[j]? = some v → Value.okWide Tryd.prog W .any base t v := hval0
  have hW' := hW
  obtain ⟨p, q, hA0, hV, rfl, hfz, hnd⟩ := hW
  have hA : DataW.TrodAll enc Tryd.prog W 0 (fun _ => true) true Tryd.f3.params.toList args.toList ds p := hA0
  rw [Tryd.params3] at hA hval hsz
  obtain ⟨v0, vs0, d0, ds0, p0, q0, hargs, rfl, rfl, h0, r0⟩ := trodAll_cons hA
  obtain ⟨rfl, rfl, rfl⟩ := trodAll_nil r0
  obtain rfl : args = #[v0] := by cases args; simp_all
  obtain ⟨rfl, rfl⟩ := trodVars_none hV
  have k0 := h0
  have lt0 : ∀ x ∈ p0, x.block < W.heap.size := by obtain ⟨m, hm⟩ := k0; exact DataW.trod_lt m _ _ _ hm
  obtain ⟨x0, rfl, rfl, rfl, _⟩ := open_string Tryd.underlying9 (hval 0 9 v0 rfl rfl) h0
  have w0 : x0.size ≤ 140737488351232 := by have := sized_string hsz (j := 0) (t := 9) rfl rfl; simpa [reachBytes] using this
  clear hA0 hval0
  refine (walk x0 W (errs8 hL) (errT8 hL) w0).mono fun e W' ⟨he, bel⟩ => ?_
  subst he
  exact ⟨_, rfl, _, _, _, [], _, [], hW', trodAll_mk1 (shut_bool Tryd.underlying4 _), (trodAll_cons_mk (Below.trod laidOut (by kernel_rfl) (of_decide_eq_true (by kernel_rfl)) k0 bel lt0) trodAll_mk0), rfl, bel.frame _, fun h => by cases h⟩

theorem over : Rows.tokenCutRow.holds Tryd.pinned (OpenSpec.ofChange Rows.tokenCutSpec) :=
  OpenClaim.holds_of_wide 3 Tryd.f3 rfl rfl rfl rfl rfl rfl rfl ⟨rfl, rfl, rfl, rfl, rfl⟩ rfl rfl rfl rfl rfl (by kernel_rfl) Tryd.func3 (by kernel_rfl)
    (of_decide_eq_true (by kernel_rfl)) (by unfold Func.isWrapper; first | (rw [if_pos (by decide +kernel)]; kernel_rfl) | (rw [if_neg (by decide +kernel)]; exact ⟨rfl, rfl⟩))
    (fun os started H enc _ => lifted os started H enc)

/-- The card: what the row lists is tied to the program's own text. -/
theorem proved : Rows.TokenCutCardSaid :=
  Claim7.holds_tied_plain_at .later [] [.data, .data, .data, .data, .handle, .sentinel, .sentinel, .pinned] true Rows.tokenCutCard.stood.harness true
    over (fun _ h => by cases h) (by kernel_rfl) (fun _ h => by cases h) tokenCut_row_tie rfl ⟨rfl, rfl⟩ (by kernel_rfl) rfl
    (fun f fn hf hfn => by
      obtain rfl : f = 3 := Option.some.inj ((show Tryd.prog.funcNamed "lifeline/lifelinelaw15.TokenCut" = some 3 by kernel_rfl).symm.trans hf) |>.symm
      obtain rfl : fn = Tryd.f3 := (Option.some.inj (Tryd.func3.symm.trans hfn)).symm
      exact ⟨by kernel_rfl, fun j t ht => by
        rw [Tryd.params3] at ht
        have hm : t ∈ [9] := by simpa using Array.mem_of_getElem? ht
        have hall : ([9].all fun u => !Tryd.prog.wantsStandIn u) = true := by kernel_rfl
        exact (show Tryd.prog.wantsStandIn t = false by simpa using List.all_eq_true.1 hall t hm)⟩)
    (by kernel_rfl)
end Go.Proofs.YtgokejoieafgiaaDoor.tokenCut
