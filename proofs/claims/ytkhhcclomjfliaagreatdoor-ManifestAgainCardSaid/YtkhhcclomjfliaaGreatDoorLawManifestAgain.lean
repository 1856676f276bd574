/-
  'lifelinelaw16.ManifestAgain' answers true for every input of the row, and leaves its arguments as they were.
  Conditions: the package-level variables that the row lists lie as the program's own text lays them (the card ties them to it; what is pinned is a constant of the library's).
-/
import Derived.Test.YtkhhcclomjfliaaGreatDoorRows
import Derived.Test.YtkhhcclomjfliaaGreatDoorManifestLong
import Derived.Test.YtkhhcclomjfliaaGreatDoorFrame
import Derived.Test.YtkhhcclomjfliaaGreatDoorFrameNum
import Derived.Test.YtkhhcclomjfliaaGreatDoorFrameEight
import Derived.Test.YtkhhcclomjfliaaGreatDoorCards
import Derived.Test.YtkhhcclomjfliaaGreatDoorManifestAwake
import Derived.Test.YtkhhcclomjfliaaGreatDoorErrUse
import Derived.Lib.QuietBelow
import Derived.Deep.DeepCutAuto
import Derived.OwnWalk
import Derived.WalkKit
import Derived.ProofKit
import Derived.OpenShut
import Derived.ShutString
import Derived.ChangeOld
import Derived.Below
namespace Go.Proofs.YtkhhcclomjfliaaGreatDoor.manifestAgain
open Go.ChangeShapes Go.WideShapes Go.ChangeAt Go.RowKit
open Go.ChangeMaps (open_string shut_string)
set_option linter.unusedVariables false

theorem own : ownKnob Tryz.prog.godebug = none := by kernel_rfl
theorem laidOut : laidOutB Tryz.prog = true := by kernel_rfl

set_option maxRecDepth 100000 in
set_option maxHeartbeats 4000000 in
theorem walkL (l : List UInt8) (w : World) (hT : NumT w) (hR : ErrT w) (hl : l.length ≤ 140737488351232) :
    Calls Tryz.prog 3 #[.string (strB l)] w fun e w' => e = .returned (.bool true) ∧ Below w.heap.size w w' := by
  have hlen : (strB l).size = l.length := strB_size l
  have HA := keepHid (awake_any w hT)
  have HT := keepHid hT
  have HR := keepHid hR
  clear hT hR
  by_cases hbig : 3000 < l.length
  · have hI : (3000 : Int) < (l.length : Int) := by omega
    generalize l.length = N at *
    generalize strB l = X at *
    go_enter Tryz.func3, Tryz.ntmps3
    go_wp2_with fail
    refine HA.out.mono ?_
    rintro e w1 ⟨rfl, hb1⟩
    have HB1 := keepHid hb1
    clear hb1 HA
    go_wp2
    go_ret
    exact ⟨rfl, HB1.out⟩
  have hI : ¬ (3000 : Int) < (l.length : Int) := by omega
  have HPA := keepHid (fun w' h => parse_any l (by omega) w' h)
  have HER := keepHid (fun x h => parseL_err (l := l) (x := x) h)
  have HAG := keepHid (fun es h => parse_again (l := l) (es := es) h)
  have HSH := keepHid (fun es h => parseL_short (l := l) (es := es) h)
  obtain ⟨N, hN⟩ : ∃ N, l.length = N := ⟨_, rfl⟩
  rw [hN] at hlen hI HER HSH
  have hN3 : N ≤ 3000 := by omega
  have hN3I : (N : Int) ≤ 3000 := by omega
  generalize strB l = X at *
  clear hbig hl hN
  go_enter Tryz.func3, Tryz.ntmps3
  go_wp2_with fail
  refine HA.out.mono ?_
  rintro e w1 ⟨rfl, hb1⟩
  have HB1 := keepHid hb1
  have HT1 := keepHid (HT.out.below hb1 (Nat.le_refl _))
  have HR1 := keepHid (HR.out.below hb1 HR.out.pos)
  clear hb1 HA HT HR
  go_wp2_with fail
  refine (HPA.out _ HT1.out.errs).mono ?_
  rintro e w2 ⟨⟨⟨x1, x2⟩, hx, rfl⟩ | ⟨es, A, n, c, hes, rfl, hown⟩, hb2⟩
  · -- an error
    obtain ⟨hnum, hpl⟩ := HER.out _ hx
    dsimp only at hnum hpl
    have HB2 := keepHid (HB1.out.trans (hb2.mono HB1.out.size))
    have HR2 := keepHid (HR1.out.below hb2 HR1.out.pos)
    have HNU := keepHid (fun w h => number_any (x1 : Int) (x2 : Int) w h)
    have HPL := keepHid (fun w h => place_any (x1 : Int) (x2 : Int) w h)
    have hp0 : (0 : Int) ≤ (x2 : Int) := by omega
    have hpN : (x2 : Int) ≤ (N : Int) := by omega
    have hf : faultV (x1 : Int) (x2 : Int) = .iface 59 (.agg #[.int .i64 (x1 : Int), .int .i64 (x2 : Int)]) := rfl
    rw [hf] at HNU HPL ⊢
    clear hb2 hx hpl hf HPA HER HAG HSH
    generalize (x2 : Int) = P at *
    rcases hnum with rfl | rfl | rfl
    all_goals
      first | rw [show ((1 : Nat) : Int) = 1 from rfl] at HNU HPL ⊢ | rw [show ((2 : Nat) : Int) = 2 from rfl] at HNU HPL ⊢ | rw [show ((3 : Nat) : Int) = 3 from rfl] at HNU HPL ⊢
      go_wp2_with fail
      refine (HNU.out _ HR2.out).mono ?_
      rintro e w3 ⟨rfl, hb3⟩
      have HB3 := keepHid (HB2.out.trans (hb3.mono HB2.out.size))
      have HR3 := keepHid (HR2.out.below hb3 HR2.out.pos)
      clear hb3
      go_wp2_with fail
      refine (HPL.out _ HR3.out).mono ?_
      rintro e w4 ⟨rfl, hb4⟩
      have HB4 := keepHid (HB3.out.trans (hb4.mono HB3.out.size))
      have HR4 := keepHid (HR3.out.below hb4 HR3.out.pos)
      clear hb4
      go_wp2_with fail
      refine (HPL.out _ HR4.out).mono ?_
      rintro e w5 ⟨rfl, hb5⟩
      have HB5 := keepHid (HB4.out.trans (hb5.mono HB4.out.size))
      clear hb5
      go_wp2
      go_ret
      exact ⟨rfl, HB5.out⟩
  · obtain ⟨hte, hpa⟩ := HAG.out es hes
    obtain ⟨hsh1, hsh2⟩ := HSH.out es hes
    have hfit : ∀ e ∈ es, EnF e ∧ e.name.length ≤ 1048576 := fun e he => ⟨tells_fits (hte e he) (by have := hsh2 e he; omega), by have := hsh2 e he; omega⟩
    have htl : (textL es).length ≤ 70368744177664 := by
      have h1 := text_long (es := es) (B := 6240) fun e he => by
        have := line_len (hfit e he).1
        have := hsh2 e he
        omega
      have h2 : es.length * 6240 ≤ 3001 * 6240 := Nat.mul_le_mul (by omega) (Nat.le_refl _)
      omega
    have HB2 := keepHid (HB1.out.trans (hb2.mono HB1.out.size))
    have HT2 := keepHid (HT1.out.below hb2 (Nat.le_refl _))
    have HE2 := keepHid hown.ens
    have hnn := hown.len
    have hn3 : n ≤ 3001 := by omega
    have HTX := keepHid (mtext_any es A n c hfit htl (by omega) w2 HT2.out HE2.out)
    have HP := keepHid hpa
    have HTL := keepHid htl
    have hsz : (strB (textL es)).size = (textL es).length := strB_size _
    by_cases h4 : (textL es).length ≤ 4096
    · have HP2 := keepHid (fun w' h => parse_any (textL es) h4 w' h)
      obtain ⟨M, hM⟩ : ∃ M, (textL es).length = M := ⟨_, rfl⟩
      rw [hM] at hsz h4
      have h4I : ¬ (4096 : Int) < (M : Int) := by omega
      generalize strB (textL es) = Y at *
      clear hb2 hes hown hte hpa hsh1 hsh2 hfit htl hnn hM HPA HER HAG HSH HTL
      go_wp2_with fail
      refine HTX.out.mono ?_
      rintro e w3 ⟨rfl, hb3⟩
      have HB3 := keepHid (HB2.out.trans (hb3.mono HB2.out.size))
      have HE3 := keepHid (HE2.out.below hb3 (Nat.le_refl _))
      have HT3 := keepHid (HT2.out.below hb3 (Nat.le_refl _))
      clear hb3
      go_wp2_with fail
      refine (HP2.out _ HT3.out.errs).mono ?_
      rintro e w4 ⟨⟨x, hx, rfl⟩ | ⟨es', A4, n4, c4, hes, rfl, hown⟩, hb4⟩
      · rw [HP.out] at hx; cases hx
      obtain rfl : es = es' := by rw [HP.out] at hes; injection hes
      have HB4 := keepHid (HB3.out.trans (hb4.mono HB3.out.size))
      have hn4 : n4 = n := by have h1 := hown.len; have h2 := HE2.out.len; omega
      have HSM := keepHid (lsame_any es es A4 A n4 n c4 c ⟨by omega, by omega⟩ w4 hown.ens (HE3.out.below hb4 (Nat.le_refl _)))
      rw [decide_eq_true rfl] at HSM
      clear hb4 hown hes hn4
      go_wp2_with fail
      refine HSM.out.mono ?_
      rintro e w5 ⟨rfl, hb5⟩
      have HB5 := keepHid (HB4.out.trans (hb5.mono HB4.out.size))
      clear hb5
      go_wp2
      go_ret
      exact ⟨rfl, HB5.out⟩
    · have HP2 := keepHid (fun w' => parse_long (textL es) (by omega) (by omega) w')
      have hf : faultV 7 0 = .iface 59 (.agg #[.int .i64 7, .int .i64 0]) := rfl
      rw [hf] at HP2
      obtain ⟨M, hM⟩ : ∃ M, (textL es).length = M := ⟨_, rfl⟩
      rw [hM] at hsz h4
      have h4I : (4096 : Int) < (M : Int) := by omega
      generalize strB (textL es) = Y at *
      clear hb2 hes hown hte hpa hsh1 hsh2 hfit htl hnn hM hf HPA HER HAG HSH HTL
      go_wp2_with fail
      refine HTX.out.mono ?_
      rintro e w3 ⟨rfl, hb3⟩
      have HB3 := keepHid (HB2.out.trans (hb3.mono HB2.out.size))
      clear hb3
      go_wp2_with fail
      refine (HP2.out _).mono ?_
      rintro e w4 ⟨rfl, hb4⟩
      have HB4 := keepHid (HB3.out.trans (hb4.mono HB3.out.size))
      clear hb4
      go_wp2
      go_ret
      exact ⟨rfl, HB4.out⟩
theorem walk (x0 : ByteArray) (w : World) (hT : NumT w) (hR : ErrT w) (h0 : x0.size ≤ 140737488351232) :
    Calls Tryz.prog 3 #[.string x0] w fun e w' => e = .returned (.bool true) ∧ Below w.heap.size w w' := by
  exact walkL x0.data.toList w hT hR h0

set_option maxRecDepth 100000 in
theorem lifted (os : Os) (started : os.Started) (H : Type) (enc : TypeId × Value → H) :
    ReturnsInHanded {} Tryz.checked os 3 .any (fun w args => (Rows.manifestAgainSpec.pre enc Tryz.prog Tryz.f3 [] false w args ∧ laidMetH Tryz.prog laid8 w) ∧ sizedMet enc Tryz.prog Tryz.f3 (OpenSpec.ofChange Rows.manifestAgainSpec) false w args) (Rows.manifestAgainSpec.post enc Tryz.prog Tryz.f3 false true false false) := by
  refine returnsInHanded_of_change_and (C := Tryz.checked) (X := fun w _ => laidMetH Tryz.prog laid8 w) (fun _ _ _ hh h => h.of_heap hh) own started (by kernel_rfl) Tryz.func3
    (ChangeSpec.witness_shaped (enc := enc) (C := Tryz.checked) (os := os) (X := fun w _ => laidMetH Tryz.prog laid8 w) false (worldF os) #[.string ⟨#[]⟩] 8 (worldF_os os) (World.shaped_of_RefB (by kernel_rfl) (by kernel_rfl)) (by kernel_rfl) (by kernel_rfl) (by kernel_rfl) (door8 os _)) ?_
  intro W base args ds gs before hval0 hW hcnd hsz0 hL _
  have hsz : (DataW.weightsEach Tryz.prog (Tryz.f3.params.toList ++ Rows.manifestAgainSpec.plain.varTypes Tryz.prog) (ds ++ gs)).all (· ≤ reachBytes) = true := hsz0
  clear hsz0
  have hval : ∀ (j : Nat) t v, Tryz.f3.params[j]? = some t → args[j]? = some v → Value.okWide Tryz.prog W .any base t v := hval0
  have hW' := hW
  obtain ⟨p, q, hA0, hV, rfl, hfz, hnd⟩ := hW
  have hA : DataW.TrodAll enc Tryz.prog W 0 (fun _ => true) true Tryz.f3.params.toList args.toList ds p := hA0
  rw [Tryz.params3] at hA hval hsz
  obtain ⟨v0, vs0, d0, ds0, p0, q0, hargs, rfl, rfl, h0, r0⟩ := trodAll_cons hA
  obtain ⟨rfl, rfl, rfl⟩ := trodAll_nil r0
  obtain rfl : args = #[v0] := by cases args; simp_all
  obtain ⟨rfl, rfl⟩ := trodVars_none hV
  have k0 := h0
  have lt0 : ∀ x ∈ p0, x.block < W.heap.size := by obtain ⟨m, hm⟩ := k0; exact DataW.trod_lt m _ _ _ hm
  obtain ⟨x0, rfl, rfl, rfl, _⟩ := open_string Tryz.underlying9 (hval 0 9 v0 rfl rfl) h0
  have w0 : x0.size ≤ 140737488351232 := by have := sized_string hsz (j := 0) (t := 9) rfl rfl; simpa [reachBytes] using this
  clear hA0 hval0
  refine (walk x0 W (num_of (laid8_parts hL).1) (errT8 hL) w0).mono fun e W' ⟨he, bel⟩ => ?_
  subst he
  exact ⟨_, rfl, _, _, _, [], _, [], hW', trodAll_mk1 (shut_bool Tryz.underlying4 _), (trodAll_cons_mk (Below.trod laidOut (by kernel_rfl) (of_decide_eq_true (by kernel_rfl)) k0 bel lt0) trodAll_mk0), rfl, bel.frame _, fun h => by cases h⟩

theorem over : Rows.manifestAgainRow.holds Tryz.pinned (OpenSpec.ofChange Rows.manifestAgainSpec) :=
  OpenClaim.holds_of_wide 3 Tryz.f3 rfl rfl rfl rfl rfl rfl rfl ⟨rfl, rfl, rfl, rfl, rfl⟩ rfl rfl rfl rfl rfl (by kernel_rfl) Tryz.func3 (by kernel_rfl)
    (of_decide_eq_true (by kernel_rfl)) (by unfold Func.isWrapper; first | (rw [if_pos (by decide +kernel)]; kernel_rfl) | (rw [if_neg (by decide +kernel)]; exact ⟨rfl, rfl⟩))
    (fun os started H enc _ => lifted os started H enc)

/-- The card: what the row lists is tied to the program's own text. -/
theorem proved : Rows.ManifestAgainCardSaid :=
  Claim7.holds_tied_plain_at .later [] [.data, .data, .data, .data, .handle, .sentinel, .sentinel, .pinned] true Rows.manifestAgainCard.stood.harness true
    over (fun _ h => by cases h) (by kernel_rfl) (fun _ h => by cases h) manifestAgain_row_tie rfl ⟨rfl, rfl⟩ (by kernel_rfl) rfl
    (fun f fn hf hfn => by
      obtain rfl : f = 3 := Option.some.inj ((show Tryz.prog.funcNamed "lifeline/lifelinelaw16.ManifestAgain" = some 3 by kernel_rfl).symm.trans hf) |>.symm
      obtain rfl : fn = Tryz.f3 := (Option.some.inj (Tryz.func3.symm.trans hfn)).symm
      exact ⟨by kernel_rfl, fun j t ht => by
        rw [Tryz.params3] at ht
        have hm : t ∈ [9] := by simpa using Array.mem_of_getElem? ht
        have hall : ([9].all fun u => !Tryz.prog.wantsStandIn u) = true := by kernel_rfl
        exact (show Tryz.prog.wantsStandIn t = false by simpa using List.all_eq_true.1 hall t hm)⟩)
    (by kernel_rfl)
end Go.Proofs.YtkhhcclomjfliaaGreatDoor.manifestAgain
