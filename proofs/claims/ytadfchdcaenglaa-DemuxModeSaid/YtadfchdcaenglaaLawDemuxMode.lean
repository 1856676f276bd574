/-
  'lifelinelaw14.DemuxMode' answers true for every input, and leaves its arguments as they were.
  Conditions: none but what the row itself says of its arguments (how much memory each may take).
-/
import Derived.Test.YtadfchdcaenglaaRows
import Derived.Test.YtadfchdcaenglaaDemuxLaw
import Derived.LoopTactic
import Derived.Deep.DeepCutAuto
import Derived.Test.YtadfchdcaenglaaFrame
import Derived.WalkKit
import Derived.ProofKit
import Derived.OpenShut
import Derived.ShutString
import Derived.ChangeOld
import Derived.Below
namespace Go.Proofs.Ytadfchdcaenglaa.demuxMode
open Go.ChangeShapes Go.WideShapes Go.ChangeAt Go.RowKit
open Go.ChangeMaps (open_string shut_string)
set_option linter.unusedVariables false

theorem own : ownKnob Try.prog.godebug = none := by kernel_rfl
theorem laidOut : laidOutB Try.prog = true := by kernel_rfl

/-- Another Demux, that has no bytes, stays as it is. -/
theorem other_stays {w w' : World} {L g g2 md : Nat} (h : Dmx w L g2 md []) (ht : Turn (fun i => i = g ∨ ∃ cur, Blk w i 40 cur) w w') (hne : g2 ≠ g) : Dmx w' L g2 md [] := by
  obtain ⟨⟨A, c, h1, h2, h3⟩, a1, a2, a3⟩ := h
  obtain rfl := h3 rfl
  refine ⟨⟨none, c, ht.blk h1 fun hs => ?_, h2.keep fun i hi _ => by simp [Value.ownBlock] at hi, fun _ => rfl⟩, a1, a2, a3⟩
  rcases hs with e | ⟨cur, hk⟩
  · exact hne e
  · have := blk_same h1 hk; cases this
set_option maxRecDepth 100000 in
set_option maxHeartbeats 4000000 in
theorem walk (x0 : Int) (w : World) (h0 : -9223372036854775808 ≤ x0 ∧ x0 ≤ 9223372036854775807) :
    Calls Try.prog 5 #[.int .i64 x0] w fun e w' => e = .returned (.bool true) ∧ Below w.heap.size w w' := by
  rcases (by omega : x0 = 1 ∨ x0 = 2 ∨ (x0 ≠ 1 ∧ x0 ≠ 2)) with rfl | rfl | ⟨hx1, hx2⟩
  · go_enter Try.func5, Try.ntmps5
    go_wp2_with fail
    refine (awake_any _).mono ?_
    rintro e w1 ⟨rfl, hb1⟩
    have HB1 := keepHid hb1
    clear hb1
    go_wp2_with fail
    refine (of_at 1 HB1.out).mono ?_
    rintro e w2 ⟨g, rfl, h2⟩
    rw [show knD 1 = 1 from rfl] at h2
    have H2 : Hid (DAt w g 1 [] w2) := keepHid h2
    have hg := h2.d.lt
    clear h2
    go_wp2_with fail
    refine (of_any 1 w2.heap.size w2 (Nat.le_refl _)).mono ?_
    rintro e w3 ⟨g2, rfl, h3, hb3⟩
    have H3 : Hid (Dmx w3 w2.heap.size g2 1 []) := keepHid h3
    have HB3 := keepHid hb3
    have hne : g2 ≠ g := by have := h3.low; omega
    have HNE := keepHid hne
    clear h3 hb3 hg hne
    go_wp2_with fail
    refine (switch_any H3.out 1).mono ?_
    rintro e w4 ⟨rfl, h4, ht4⟩
    rw [show knD 1 = 1 from rfl] at h4
    have H4 : Hid (Dmx w4 w2.heap.size g2 1 []) := keepHid h4
    have HD4 : Hid (DAt w g 1 [] w4) := keepHid (H2.out.below (HB3.out.trans (ht4.below (Nat.le_refl _) HB3.out.size)))
    clear h4 ht4 H3 HB3 H2
    go_wp2_with fail
    refine (mode_at HD4.out).mono ?_
    rintro e w' ⟨rfl, rfl⟩
    go_wp2_with fail
    refine (put_any HD4.out.d 9 (by simp)).mono ?_
    rintro e w5 ⟨rfl, h5, ht5, hu5⟩
    have HD5 : Hid (DAt w g 1 ([] ++ [1]) w5) := keepHid (HD4.out.turned h5 ht5)
    have H5 : Hid (Dmx w5 w2.heap.size g2 1 []) := keepHid (other_stays H4.out hu5 HNE.out)
    clear h5 ht5 hu5 H4 HD4
    go_wp2_with fail
    refine (mode_any H5.out).mono ?_
    rintro e w' ⟨rfl, rfl⟩
    go_wp2_with fail
    refine (len_at HD5.out (by simp)).mono ?_
    rintro e w6 ⟨rfl, hb6⟩
    have H6 : Hid (Dmx w6 w2.heap.size g2 1 []) := keepHid (H5.out.below hb6)
    have HB6 := keepHid (HD5.out.below hb6).b
    clear hb6 H5 HD5
    go_wp2_with fail
    refine (segments_any H6.out (by simp)).mono ?_
    rintro e w7 ⟨A, c, rfl, _, hb7⟩
    have HB7 := keepHid (HB6.out.trans (hb7.mono HB6.out.size))
    have hs : (segs []).length = 0 := rfl
    rw [hs]
    clear hb7
    go_wp2
    go_ret
    exact ⟨rfl, HB7.out⟩
  · go_enter Try.func5, Try.ntmps5
    go_wp2_with fail
    refine (awake_any _).mono ?_
    rintro e w1 ⟨rfl, hb1⟩
    have HB1 := keepHid hb1
    clear hb1
    go_wp2_with fail
    refine (of_at 2 HB1.out).mono ?_
    rintro e w2 ⟨g, rfl, h2⟩
    rw [show knD 2 = 2 from rfl] at h2
    have H2 : Hid (DAt w g 2 [] w2) := keepHid h2
    have hg := h2.d.lt
    clear h2
    go_wp2_with fail
    refine (of_any 1 w2.heap.size w2 (Nat.le_refl _)).mono ?_
    rintro e w3 ⟨g2, rfl, h3, hb3⟩
    have H3 : Hid (Dmx w3 w2.heap.size g2 1 []) := keepHid h3
    have HB3 := keepHid hb3
    have hne : g2 ≠ g := by have := h3.low; omega
    have HNE := keepHid hne
    clear h3 hb3 hg hne
    go_wp2_with fail
    refine (switch_any H3.out 2).mono ?_
    rintro e w4 ⟨rfl, h4, ht4⟩
    rw [show knD 2 = 2 from rfl] at h4
    have H4 : Hid (Dmx w4 w2.heap.size g2 2 []) := keepHid h4
    have HD4 : Hid (DAt w g 2 [] w4) := keepHid (H2.out.below (HB3.out.trans (ht4.below (Nat.le_refl _) HB3.out.size)))
    clear h4 ht4 H3 HB3 H2
    go_wp2_with fail
    refine (mode_at HD4.out).mono ?_
    rintro e w' ⟨rfl, rfl⟩
    go_wp2_with fail
    refine (put_any HD4.out.d 9 (by simp)).mono ?_
    rintro e w5 ⟨rfl, h5, ht5, hu5⟩
    have HD5 : Hid (DAt w g 2 ([] ++ [2]) w5) := keepHid (HD4.out.turned h5 ht5)
    have H5 : Hid (Dmx w5 w2.heap.size g2 2 []) := keepHid (other_stays H4.out hu5 HNE.out)
    clear h5 ht5 hu5 H4 HD4
    go_wp2_with fail
    refine (mode_any H5.out).mono ?_
    rintro e w' ⟨rfl, rfl⟩
    go_wp2_with fail
    refine (len_at HD5.out (by simp)).mono ?_
    rintro e w6 ⟨rfl, hb6⟩
    have H6 : Hid (Dmx w6 w2.heap.size g2 2 []) := keepHid (H5.out.below hb6)
    have HB6 := keepHid (HD5.out.below hb6).b
    clear hb6 H5 HD5
    go_wp2_with fail
    refine (segments_any H6.out (by simp)).mono ?_
    rintro e w7 ⟨A, c, rfl, _, hb7⟩
    have HB7 := keepHid (HB6.out.trans (hb7.mono HB6.out.size))
    have hs : (segs []).length = 0 := rfl
    rw [hs]
    clear hb7
    go_wp2
    go_ret
    exact ⟨rfl, HB7.out⟩
  · have HKN : Hid (knD x0 = 0) := keepHid (by unfold knD; rw [if_neg hx1, if_neg hx2])
    have e1 : (x0 == 1) = false := by simp; omega
    have e2 : (x0 == 2) = false := by simp; omega
    clear hx1 hx2
    go_enter Try.func5, Try.ntmps5
    go_wp2_with fail
    refine (awake_any _).mono ?_
    rintro e w1 ⟨rfl, hb1⟩
    have HB1 := keepHid hb1
    clear hb1
    go_wp2_with fail
    refine (of_at x0 HB1.out).mono ?_
    rintro e w2 ⟨g, rfl, h2⟩
    rw [show knD x0 = 0 from HKN.out] at h2
    have H2 : Hid (DAt w g 0 [] w2) := keepHid h2
    have hg := h2.d.lt
    clear h2
    go_wp2_with fail
    refine (of_any 1 w2.heap.size w2 (Nat.le_refl _)).mono ?_
    rintro e w3 ⟨g2, rfl, h3, hb3⟩
    have H3 : Hid (Dmx w3 w2.heap.size g2 1 []) := keepHid h3
    have HB3 := keepHid hb3
    have hne : g2 ≠ g := by have := h3.low; omega
    have HNE := keepHid hne
    clear h3 hb3 hg hne
    go_wp2_with fail
    refine (switch_any H3.out x0).mono ?_
    rintro e w4 ⟨rfl, h4, ht4⟩
    rw [show knD x0 = 0 from HKN.out] at h4
    have H4 : Hid (Dmx w4 w2.heap.size g2 0 []) := keepHid h4
    have HD4 : Hid (DAt w g 0 [] w4) := keepHid (H2.out.below (HB3.out.trans (ht4.below (Nat.le_refl _) HB3.out.size)))
    clear h4 ht4 H3 HB3 H2
    go_wp2_with fail
    refine (mode_at HD4.out).mono ?_
    rintro e w' ⟨rfl, rfl⟩
    go_wp2_with fail
    refine (put_any HD4.out.d 9 (by simp)).mono ?_
    rintro e w5 ⟨rfl, h5, ht5, hu5⟩
    have HD5 : Hid (DAt w g 0 ([] ++ [0]) w5) := keepHid (HD4.out.turned h5 ht5)
    have H5 : Hid (Dmx w5 w2.heap.size g2 0 []) := keepHid (other_stays H4.out hu5 HNE.out)
    clear h5 ht5 hu5 H4 HD4
    go_wp2_with fail
    refine (mode_any H5.out).mono ?_
    rintro e w' ⟨rfl, rfl⟩
    go_wp2_with fail
    refine (len_at HD5.out (by simp)).mono ?_
    rintro e w6 ⟨rfl, hb6⟩
    have H6 : Hid (Dmx w6 w2.heap.size g2 0 []) := keepHid (H5.out.below hb6)
    have HB6 := keepHid (HD5.out.below hb6).b
    clear hb6 H5 HD5
    go_wp2_with fail
    refine (segments_any H6.out (by simp)).mono ?_
    rintro e w7 ⟨A, c, rfl, _, hb7⟩
    have HB7 := keepHid (HB6.out.trans (hb7.mono HB6.out.size))
    have hs : (segs []).length = 0 := rfl
    rw [hs]
    clear hb7
    go_wp2
    go_ret
    exact ⟨rfl, HB7.out⟩

set_option maxRecDepth 100000 in
theorem lifted (os : Os) (started : os.Started) (H : Type) (enc : TypeId × Value → H) :
    ReturnsInHanded {} Try.checked os 5 .any (Rows.demuxModeSpec.pre6 enc Try.prog Try.f5 Rows.demuxModeRow.domain false) (Rows.demuxModeSpec.post enc Try.prog Try.f5 false true false false) := by
  refine returnsInHanded_of_change_sized (C := Try.checked) own started (by kernel_rfl) Try.func5
    (ChangeSpec.witness6 (enc := enc) (C := Try.checked) false ⟨#[], #[.int .i64 0], []⟩ 8 (by kernel_rfl) (by kernel_rfl) (by kernel_rfl) (by kernel_rfl)) ?_
  intro W base args ds gs before hval0 hW hcnd hsz0 _
  have hsz : (DataW.weightsEach Try.prog (Try.f5.params.toList ++ Rows.demuxModeSpec.plain.varTypes Try.prog) (ds ++ gs)).all (· ≤ reachBytes) = true := hsz0
  clear hsz0
  have hval : ∀ (j : Nat) t v, Try.f5.params[j]? = some t → args[j]? = some v → Value.okWide Try.prog W .any base t v := hval0
  have hW' := hW
  obtain ⟨p, q, hA0, hV, rfl, hfz, hnd⟩ := hW
  have hA : DataW.TrodAll enc Try.prog W 0 (fun _ => true) true Try.f5.params.toList args.toList ds p := hA0
  rw [Try.params5] at hA hval hsz
  obtain ⟨v0, vs0, d0, ds0, p0, q0, hargs, rfl, rfl, h0, r0⟩ := trodAll_cons hA
  obtain ⟨rfl, rfl, rfl⟩ := trodAll_nil r0
  obtain rfl : args = #[v0] := by cases args; simp_all
  obtain ⟨rfl, rfl⟩ := trodVars_none hV
  have k0 := h0
  have lt0 : ∀ x ∈ p0, x.block < W.heap.size := by obtain ⟨m, hm⟩ := k0; exact DataW.trod_lt m _ _ _ hm
  obtain ⟨x0, rfl, rfl, rfl, w0⟩ := open_int Try.underlying3 (hval 0 3 v0 rfl rfl) h0
  clear hA0 hval0
  refine (walk x0 W (wf_i64 w0)).mono fun e W' ⟨he, bel⟩ => ?_
  subst he
  exact ⟨_, rfl, _, _, _, [], _, [], hW', trodAll_mk1 (shut_bool Try.underlying4 _), (trodAll_cons_mk (Below.trod laidOut (by kernel_rfl) (of_decide_eq_true (by kernel_rfl)) k0 bel lt0) trodAll_mk0), rfl, bel.frame _, fun h => by cases h⟩

theorem over : Rows.demuxModeRow.holds Try.pinned (OpenSpec.ofChange Rows.demuxModeSpec) :=
  OpenClaim.holds_of_wide 5 Try.f5 rfl rfl rfl rfl rfl rfl rfl ⟨rfl, rfl, rfl, rfl, rfl⟩ rfl rfl rfl rfl rfl (by kernel_rfl) Try.func5 (by kernel_rfl)
    (of_decide_eq_true (by kernel_rfl)) (by unfold Func.isWrapper; first | (rw [if_pos (by decide +kernel)]; kernel_rfl) | (rw [if_neg (by decide +kernel)]; exact ⟨rfl, rfl⟩))
    (fun os started H enc _ => lifted os started H enc)

theorem proved : Rows.DemuxModeSaid := over
end Go.Proofs.Ytadfchdcaenglaa.demuxMode
