/-
  'lifelinelaw15.TokenPlaces' answers true for every input of the row, and leaves its arguments as they were.
  Conditions: the package-level variables that the row lists lie as the program's own text lays them (the card ties them to it; what is pinned is a constant of the library's).
-/
import Derived.Test.YtgokejoieafgiaaDoorRows
import Derived.Test.YtgokejoieafgiaaDoorTokenCut
import Derived.Test.YtgokejoieafgiaaDoorFrame
import Derived.Test.YtgokejoieafgiaaDoorFrameEight
import Derived.Test.YtgokejoieafgiaaDoorCards
import Derived.Test.YtgokejoieafgiaaDoorTokenSame
import Derived.Test.YtgokejoieafgiaaDoorTokenAwake
import Derived.Test.YtgokejoieafgiaaDoorErrUse
import Derived.Test.YtgokejoieafgiaaDoorTokenMore
import Derived.Lib.QuietBelow
import Derived.Deep.DeepCutAuto
import Derived.OwnWalk
import Derived.WalkKit
import Derived.ProofKit
import Derived.OpenShut
import Derived.ShutString
import Derived.ChangeOld
import Derived.Below
namespace Go.Proofs.YtgokejoieafgiaaDoor.tokenPlaces
open Go.ChangeShapes Go.WideShapes Go.ChangeAt Go.RowKit
open Go.ChangeMaps (open_string shut_string)
set_option linter.unusedVariables false

theorem own : ownKnob Tryd.prog.godebug = none := by kernel_rfl
theorem laidOut : laidOutB Tryd.prog = true := by kernel_rfl

theorem cut_long (l : List UInt8) (hl : 4096 < l.length) (hl2 : l.length ≤ 140737488351232) (w : World) :
    Calls Tryd.prog 9 #[.string (strB l)] w fun e w' => e = .returned (.tuple #[.slice none 0 0, faultV 7 0]) ∧ w' = w := by
  have hlen : (strB l).size = l.length := strB_size l
  have HW := keepHid (wrap_any 7 0)
  have h1 : (4096 : Int) < (l.length : Int) := by omega
  go_enter Tryd.func9, Tryd.ntmps9
  go_wp2
  go_step3
  go_wp2_with (refine (HW.out _).mono ?_; rintro e w' ⟨rfl, rfl⟩)
  rw [Exit.noGoto_ret]
  go_ret2
  exact ⟨rfl, rfl⟩
/-- Either the text has an error at a place within, or its tokens are placed. -/
theorem cut_either (l : List UInt8) (hl : l.length ≤ 140737488351232) (w : World) (hE : Errs w) :
    Calls Tryd.prog 9 #[.string (strB l)] w fun e w' =>
      ((∃ n p : Nat, p ≤ l.length ∧ e = .returned (.tuple #[.slice none 0 0, faultV (n : Int) (p : Int)])) ∨ (∃ ts A n c, Placed l 0 ts ∧ l.length ≤ 4096 ∧ e = .returned (.tuple #[.slice A n c, .nilIface]) ∧ OwnT w' w.heap.size (.slice A n c) n ts)) ∧ Below w.heap.size w w' := by
  by_cases h : l.length ≤ 4096
  · refine (cut_any l h w hE).mono ?_
    rintro e w' ⟨⟨p, hp, rfl⟩ | ⟨ts, A, n, c, hts, rfl, hown⟩, hb⟩
    · have := cut_err l 0 p hp
      exact ⟨.inl ⟨1, p, by omega, rfl⟩, hb⟩
    · exact ⟨.inr ⟨ts, A, n, c, cut_placed l 0 ts hts, h, rfl, hown⟩, hb⟩
  · refine (cut_long l (by omega) hl w).mono ?_
    rintro e w' ⟨rfl, rfl⟩
    exact ⟨.inl ⟨7, 0, Nat.zero_le _, rfl⟩, Below.refl _ _⟩
set_option maxRecDepth 100000 in
set_option maxHeartbeats 4000000 in
theorem walkL (l : List UInt8) (w : World) (hE : Errs w) (hR : ErrT w) (hl : l.length ≤ 140737488351232) :
    Calls Tryd.prog 7 #[.string (strB l)] w fun e w' => e = .returned (.bool true) ∧ Below w.heap.size w w' := by
  have hlen : (strB l).size = l.length := strB_size l
  have HA := keepHid (awake_any w hE)
  have HE := keepHid hE
  have HR := keepHid hR
  have HC := keepHid (cut_either l hl)
  obtain ⟨N, hN⟩ : ∃ N, l.length = N := ⟨_, rfl⟩
  have HN := keepHid hN
  rw [hN] at hlen hl HC
  clear hE hR hN
  go_enter Tryd.func7, Tryd.ntmps7
  go_wp2_with fail
  refine HA.out.mono ?_
  rintro e w1 ⟨rfl, hb1⟩
  have HB1 := keepHid hb1
  have HT1 := keepHid (HR.out.below hb1 HR.out.pos)
  have HE1 := keepHid (HE.out.below hb1 (Nat.le_refl _))
  clear hb1 HA
  go_wp2_with fail
  refine (HC.out _ HE1.out).mono ?_
  rintro e w2 ⟨⟨no, p, hp, rfl⟩ | ⟨ts, A, n, c, hpl, hN4, rfl, hown⟩, hb2⟩
  · have HB2 := keepHid (HB1.out.trans (hb2.mono HB1.out.size))
    have HT2 := keepHid (HT1.out.below hb2 HT1.out.pos)
    have hf : faultV (no : Int) (p : Int) = .iface 53 (.agg #[.int .i64 (no : Int), .int .i64 (p : Int)]) := rfl
    have HPL := keepHid (fun w hT => place_any (no : Int) (p : Int) w hT)
    rw [hf] at HPL ⊢
    have hp0 : (0 : Int) ≤ (p : Int) := by omega
    have hpN : (p : Int) ≤ (N : Int) := by omega
    generalize (p : Int) = pI at *
    generalize (no : Int) = nI at *
    clear hb2 hf hp
    go_wp2_with fail
    refine (HPL.out _ HT2.out).mono ?_
    rintro e w3 ⟨rfl, hb3⟩
    have HB3 := keepHid (HB2.out.trans (hb3.mono HB2.out.size))
    have HT3 := keepHid (HT2.out.below hb3 HT2.out.pos)
    clear hb3
    go_wp2_with fail
    refine (HPL.out _ HT3.out).mono ?_
    rintro e w4 ⟨rfl, hb4⟩
    have HB4 := keepHid (HB3.out.trans (hb4.mono HB3.out.size))
    clear hb4
    go_wp2
    go_ret
    exact ⟨rfl, HB4.out⟩
  · have HB2 := keepHid (HB1.out.trans (hb2.mono HB1.out.size))
    have HP := keepHid hpl
    have HLN := keepHid hown.len
    have HO := keepHid hown.tkr
    obtain ⟨A', c', e0, hnc, hc63, _⟩ := hown.form
    obtain ⟨rfl, rfl⟩ : A = A' ∧ c = c' := by injection e0 with e1 e2 e3; exact ⟨e1, e3⟩
    have hn1 : 1 ≤ n := by
      obtain ⟨us, hus⟩ := hpl.last
      have := hown.len
      rw [hus] at this
      simp at this
      omega
    have HWB := keepHid hb2.size
    clear hb2 hown e0 hpl HC
    go_wp2_with fail
    go_loopw [5, 34] (fun av kv wr => ∃ (k : Nat) (a : Int), av = .int .i64 a ∧ kv = .int .i64 (k : Int) ∧ k ≤ n ∧ Hid ((k = 0 ∧ a = -1) ∨ ∃ j t, k = j + 1 ∧ ts[j]? = some t ∧ a = (t.pos : Int)) ∧ -1 ≤ a ∧ a ≤ 4096 ∧ Hid (Below w2.heap.size w2 wr)) (fun _ kv _ => n - (intOf kv).toNat)
    case atStart => exact ⟨0, -1, rfl, rfl, Nat.zero_le _, keepHid (.inl ⟨rfl, rfl⟩), by omega, by omega, keepHid (Below.refl _ _)⟩
    case round =>
      obtain ⟨k, a, rfl, rfl, hk, HAT, ha1, ha2, HBW⟩ := hrel
      generalize wr = wq at *
      by_cases hkN : k < n
      · obtain ⟨t, ht⟩ : ∃ t, ts[k]? = some t := ⟨_, List.getElem?_eq_getElem (by rw [HLN.out]; exact hkN)⟩
        obtain ⟨g, rfl, gl, a0, a1, a2, a3⟩ := (HO.out.below HBW.out (Nat.le_refl _)).at_ ht
        obtain ⟨i1, i2, i3⟩ := HP.out.in_ t (List.mem_of_getElem? ht)
        have hlt : a < (t.pos : Int) := by
          rcases HAT.out with ⟨rfl, rfl⟩ | ⟨j, s, rfl, hs, rfl⟩
          · omega
          · have := HP.out.up j s t hs ht; omega
        rw [HN.out] at i2 i3
        have HNX : Hid ((k + 1 = 0 ∧ (t.pos : Int) = -1) ∨ ∃ j s, k + 1 = j + 1 ∧ ts[j]? = some s ∧ (t.pos : Int) = (s.pos : Int)) := keepHid (.inr ⟨k, t, rfl, ht, rfl⟩)
        have hkI : (k : Int) < (n : Int) := by omega
        have h1 : ¬ (t.pos : Int) ≤ a := by omega
        have h2 : ¬ (t.pos : Int) < a := by omega
        have h3 : ¬ (N : Int) < (t.pos : Int) := by omega
        have hp4 : (t.pos : Int) ≤ 4096 := by omega
        obtain ⟨w3, hw3⟩ : ∃ w3, wq.alloc (.cells #[.int .i64 (t.kind : Int), .string (strB t.text), .int .i64 (t.val : Int), .int .i64 (t.pos : Int)] 36) = w3 := ⟨_, rfl⟩
        have HK3 : Hid (Blk w3 wq.heap.size 36 #[.int .i64 (t.kind : Int), .string (strB t.text), .int .i64 (t.val : Int), .int .i64 (t.pos : Int)]) := keepHid (by rw [← hw3]; exact Blk.new _ _ _)
        have HB3 : Hid (Below w2.heap.size w2 w3) := keepHid (by rw [← hw3]; exact HBW.out.alloc HBW.out.size _)
        have HW3 := keepHid hw3
        have HT := keepHid i3
        have htl : (strB t.text).size = t.text.length := strB_size _
        clear hw3 ht hlt i1 HAT i3
        go_upto_region 10 with (fail)
        rw [HW3.out]
        clear a0 a1 a2 a3
        obtain ⟨b0, b1, b2, b3, bf⟩ := blk4 HK3.out
        generalize wq.heap.size = gq at *
        have z0 := fun q os => cell_regrown b0 q os
        have z1 := fun q os => cell_regrown b1 q os
        have z3 := fun q os => cell_regrown b3 q os
        by_cases hk3 : t.kind = 3
        · have k3 : ((t.kind : Int) != 3) = false := by simp [hk3]
          generalize (t.kind : Int) = KD at *
          clear hk3 HT
          go_upto_region 12 with (fail)
          refine wp_region_quiet_below (by kernel_rfl) (by kernel_rfl) ?_
          repeat (go_big_quiet_step (fail))
          refine wpQuiet_nil ?_
          intro wz hw'
          obtain ⟨⟨dq, osq⟩, hw''⟩ := hw'
          subst hw''
          have y3 := z3 dq osq
          have HBZ := keepHid (HB3.out.trans ((below_regrown w3 dq osq).mono HB3.out.size))
          clear z0 z1 z3 b0 b1 b2 b3 bf
          go_wp2
          go_roundw
          case rel => exact ⟨k + 1, _, rfl, by go_num, by omega, HNX, by omega, by omega, HBZ⟩
          case measure => simp [intOf]; omega
        · have k3 : ((t.kind : Int) != 3) = true := by simp; omega
          obtain ⟨q1, q2⟩ := HT.out hk3
          rw [Nat.sub_zero] at q1 q2
          obtain ⟨L, hL⟩ : ∃ L, t.text.length = L := ⟨_, rfl⟩
          rw [hL] at q1 q2 htl
          have hmid : ∀ w, (Instr.slice 9 (.string (strB l)) (some (.int .i64 (t.pos : Int))) (some (.int .i64 ((t.pos : Int) + (L : Int)))) none).run Tryd.prog w = .ok (.string (strB t.text)) w := fun w => by
            rw [run_mid (l := l) (i := t.pos) (j := t.pos + L) (by omega) (by rw [HN.out]; exact q1) .i64 .i64 (t.pos : Int) ((t.pos : Int) + (L : Int)) rfl (by omega) w, show t.pos + L - t.pos = L by omega, q2]
          have h4 : ¬ (N : Int) < (t.pos : Int) + (L : Int) := by omega
          have hse : ((strB t.text).toList == (strB t.text).toList) = true := strB_same rfl
          have hse2 : ((strB t.text).toList != (strB t.text).toList) = false := by rw [bne, hse]; rfl
          generalize (t.kind : Int) = KD at *
          generalize (t.pos : Int) = PS at *
          generalize strB t.text = S at *
          have hLb : (L : Int) ≤ 4096 := by omega
          clear hk3 HT q1 q2 hL
          go_upto_region 12 with (fail)
          have h4' : ¬ (N : Int) < PS + (L : Int) := by omega
          refine wp_region_quiet_below (by kernel_rfl) (by kernel_rfl) ?_
          repeat (go_big_quiet_step (fail))
          refine wpQuiet_nil ?_
          intro wz hw'
          obtain ⟨⟨dq, osq⟩, hw''⟩ := hw'
          subst hw''
          have y3 := z3 dq osq
          have HBZ := keepHid (HB3.out.trans ((below_regrown w3 dq osq).mono HB3.out.size))
          clear z0 z1 z3 b0 b1 b2 b3 bf
          go_wp2
          go_roundw
          case rel => exact ⟨k + 1, _, rfl, by go_num, by omega, HNX, by omega, by omega, HBZ⟩
          case measure => simp [intOf]; omega
      · obtain rfl : k = n := by omega
        have HB5 := keepHid (HB2.out.trans (HBW.out.mono HB2.out.size))
        obtain ⟨us, hus⟩ := HP.out.last
        have hul : us.length = k - 1 := by have := HLN.out; rw [hus] at this; simp at this; omega
        have hlast : ts[k - 1]? = some ⟨0, [], 0, 0 + l.length⟩ := by rw [hus, List.getElem?_append_right (by omega), hul, Nat.sub_self]; rfl
        obtain ⟨g, rfl, gl, a0, a1, a2, a3⟩ := (HO.out.below HBW.out (Nat.le_refl _)).at_ hlast
        rw [HN.out] at a3
        have b0 : wq.cell? ⟨g, (k - 1) * 4, none⟩ = some (.int .i64 0) := a0
        have b3 : wq.cell? ⟨g, (k - 1) * 4 + 3, none⟩ = some (.int .i64 (N : Int)) := by rw [a3]; simp
        have hmI : ((k : Int) - 1) = ((k - 1 : Nat) : Int) := (Int.ofNat_sub hn1).symm
        obtain ⟨m, hm⟩ : ∃ m, k - 1 = m := ⟨_, rfl⟩
        rw [hm] at b0 b3 hmI
        clear hm
        have hk0 : (0 : Int) < (k : Int) := by omega
        clear a0 a1 a2 a3 hlast hus hul
        go_wp2
        go_ret
        exact ⟨rfl, HB5.out⟩
theorem walk (x0 : ByteArray) (w : World) (hE : Errs w) (hR : ErrT w) (h0 : x0.size ≤ 140737488351232) :
    Calls Tryd.prog 7 #[.string x0] w fun e w' => e = .returned (.bool true) ∧ Below w.heap.size w w' := by
  exact walkL x0.data.toList w hE hR h0

set_option maxRecDepth 100000 in
theorem lifted (os : Os) (started : os.Started) (H : Type) (enc : TypeId × Value → H) :
    ReturnsInHanded {} Tryd.checked os 7 .any (fun w args => (Rows.tokenPlacesSpec.pre enc Tryd.prog Tryd.f7 [] false w args ∧ laidMetH Tryd.prog laid8 w) ∧ sizedMet enc Tryd.prog Tryd.f7 (OpenSpec.ofChange Rows.tokenPlacesSpec) false w args) (Rows.tokenPlacesSpec.post enc Tryd.prog Tryd.f7 false true false false) := by
  refine returnsInHanded_of_change_and (C := Tryd.checked) (X := fun w _ => laidMetH Tryd.prog laid8 w) (fun _ _ _ hh h => h.of_heap hh) own started (by kernel_rfl) Tryd.func7
    (ChangeSpec.witness_shaped (enc := enc) (C := Tryd.checked) (os := os) (X := fun w _ => laidMetH Tryd.prog laid8 w) false (worldF os) #[.string ⟨#[]⟩] 8 (worldF_os os) (World.shaped_of_RefB (by kernel_rfl) (by kernel_rfl)) (by kernel_rfl) (by kernel_rfl) (by kernel_rfl) (door8 os _)) ?_
  intro W base args ds gs before hval0 hW hcnd hsz0 hL _
  have hsz : (DataW.weightsEach Tryd.prog (Tryd.f7.params.toList ++ Rows.tokenPlacesSpec.plain.varTypes Tryd.prog) (ds ++ gs)).all (· ≤ reachBytes) = true := hsz0
  clear hsz0
  have hval : ∀ (j : Nat) t v, Tryd.f7.params[j]? = some t → args[j]? = some v → Value.okWide Tryd.prog W .any base t v := hval0
  have hW' := hW
  obtain ⟨p, q, hA0, hV, rfl, hfz, hnd⟩ := hW
  have hA : DataW.TrodAll enc Tryd.prog W 0 (fun _ => true) true Tryd.f7.params.toList args.toList ds p := hA0
  rw [Tryd.params7] at hA hval hsz
  obtain ⟨v0, vs0, d0, ds0, p0, q0, hargs, rfl, rfl, h0, r0⟩ := trodAll_cons hA
  obtain ⟨rfl, rfl, rfl⟩ := trodAll_nil r0
  obtain rfl : args = #[v0] := by cases args; simp_all
  obtain ⟨rfl, rfl⟩ := trodVars_none hV
  have k0 := h0
  have lt0 : ∀ x ∈ p0, x.block < W.heap.size := by obtain ⟨m, hm⟩ := k0; exact DataW.trod_lt m _ _ _ hm
  obtain ⟨x0, rfl, rfl, rfl, _⟩ := open_string Tryd.underlying9 (hval 0 9 v0 rfl rfl) h0
  have w0 : x0.size ≤ 140737488351232 := by have := sized_string hsz (j := 0) (t := 9) rfl rfl; simpa [reachBytes] using this
  clear hA0 hval0
  refine (walk x0 W (errs8 hL) (errT8 hL) w0).mono fun e W' ⟨he, bel⟩ => ?_
  subst he
  exact ⟨_, rfl, _, _, _, [], _, [], hW', trodAll_mk1 (shut_bool Tryd.underlying4 _), (trodAll_cons_mk (Below.trod laidOut (by kernel_rfl) (of_decide_eq_true (by kernel_rfl)) k0 bel lt0) trodAll_mk0), rfl, bel.frame _, fun h => by cases h⟩

theorem over : Rows.tokenPlacesRow.holds Tryd.pinned (OpenSpec.ofChange Rows.tokenPlacesSpec) :=
  OpenClaim.holds_of_wide 7 Tryd.f7 rfl rfl rfl rfl rfl rfl rfl ⟨rfl, rfl, rfl, rfl, rfl⟩ rfl rfl rfl rfl rfl (by kernel_rfl) Tryd.func7 (by kernel_rfl)
    (of_decide_eq_true (by kernel_rfl)) (by unfold Func.isWrapper; first | (rw [if_pos (by decide +kernel)]; kernel_rfl) | (rw [if_neg (by decide +kernel)]; exact ⟨rfl, rfl⟩))
    (fun os started H enc _ => lifted os started H enc)

/-- The card: what the row lists is tied to the program's own text. -/
theorem proved : Rows.TokenPlacesCardSaid :=
  Claim7.holds_tied_plain_at .later [] [.data, .data, .data, .data, .handle, .sentinel, .sentinel, .pinned] true Rows.tokenPlacesCard.stood.harness true
    over (fun _ h => by cases h) (by kernel_rfl) (fun _ h => by cases h) tokenPlaces_row_tie rfl ⟨rfl, rfl⟩ (by kernel_rfl) rfl
    (fun f fn hf hfn => by
      obtain rfl : f = 7 := Option.some.inj ((show Tryd.prog.funcNamed "lifeline/lifelinelaw15.TokenPlaces" = some 7 by kernel_rfl).symm.trans hf) |>.symm
      obtain rfl : fn = Tryd.f7 := (Option.some.inj (Tryd.func7.symm.trans hfn)).symm
      exact ⟨by kernel_rfl, fun j t ht => by
        rw [Tryd.params7] at ht
        have hm : t ∈ [9] := by simpa using Array.mem_of_getElem? ht
        have hall : ([9].all fun u => !Tryd.prog.wantsStandIn u) = true := by kernel_rfl
        exact (show Tryd.prog.wantsStandIn t = false by simpa using List.all_eq_true.1 hall t hm)⟩)
    (by kernel_rfl)
end Go.Proofs.YtgokejoieafgiaaDoor.tokenPlaces
