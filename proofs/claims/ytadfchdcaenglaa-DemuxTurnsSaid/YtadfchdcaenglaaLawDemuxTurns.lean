/-
  'lifelinelaw14.DemuxTurns' answers true for every input, and leaves its arguments as they were.
  Conditions: none but what the row itself says of its arguments (how much memory each may take).
-/
import Derived.Test.YtadfchdcaenglaaRows
import Derived.Test.YtadfchdcaenglaaDemuxLaw
import Derived.LoopTactic
import Derived.Deep.DeepCutAuto
import Derived.Test.YtadfchdcaenglaaFrame
import Derived.WalkKit
import Derived.ProofKit
import Derived.OpenShut
import Derived.ShutString
import Derived.ChangeOld
import Derived.Below
namespace Go.Proofs.Ytadfchdcaenglaa.demuxTurns
open Go.ChangeShapes Go.WideShapes Go.ChangeAt Go.RowKit
open Go.ChangeMaps (open_string shut_string)
set_option linter.unusedVariables false

theorem own : ownKnob Try.prog.godebug = none := by kernel_rfl
theorem laidOut : laidOutB Try.prog = true := by kernel_rfl

set_option maxRecDepth 100000 in
set_option maxHeartbeats 4000000 in
theorem walk (x0 : Int) (w : World) (h0 : 0 ≤ x0 ∧ x0 ≤ 255) :
    Calls Try.prog 8 #[.int .u8 x0] w fun e w' => e = .returned (.bool true) ∧ Below w.heap.size w w' := by
  obtain ⟨N, rfl⟩ : ∃ N : Nat, x0 = (N : Int) := ⟨x0.toNat, by omega⟩
  have hN : N ≤ 255 := by omega
  go_enter Try.func8, Try.ntmps8
  go_wp2_with fail
  refine (awake_any _).mono ?_
  rintro e w1 ⟨rfl, hb1⟩
  have HB1 := keepHid hb1
  clear hb1
  go_wp2_with fail
  refine (of_at 0 HB1.out).mono ?_
  rintro e w2 ⟨g, rfl, h2⟩
  have H2 : Hid (DAt w g 0 ((List.range 0).map (· % 3)) w2) := keepHid h2
  clear h2
  go_wp2_with fail
  go_loopw [4] (fun i wr => ∃ j md : Nat, j ≤ N ∧ i = .int .i64 j ∧ Hid (DAt w g md ((List.range j).map (· % 3)) wr)) (fun i _ => N - (intOf i).toNat)
  case atStart => exact ⟨0, 0, Nat.zero_le _, rfl, H2⟩
  case round =>
    obtain ⟨j, md, hj, rfl, HD⟩ := hrel
    by_cases hlt : j < N
    · have hjn : (j : Int) < (N : Int) := by omega
      obtain ⟨r, hr⟩ : ∃ r, j % 3 = r := ⟨_, rfl⟩
      have hr2 : r ≤ 2 := by omega
      have HKN : Hid (knD (r : Int) = r) := keepHid (knD_of hr2)
      have HR := keepHid hr
      have hm1 : (j : Int) % 3 = (r : Int) := by omega
      have hm2 : Int.tmod (j : Int) 3 = (r : Int) := by rw [Int.tmod_eq_emod_of_nonneg (by omega)]; exact hm1
      clear hr
      go_wp2_with fail
      refine (switch_at HD.out (r : Int)).mono ?_
      rintro e w3 ⟨rfl, h3, -⟩
      rw [HKN.out] at h3
      have H3 := keepHid h3
      clear h3
      go_wp2_with fail
      refine (put_at H3.out 9 (by rw [List.length_map, List.length_range]; omega)).mono ?_
      rintro e w4 ⟨rfl, h4, -⟩
      rw [show (List.range j).map (· % 3) ++ [r] = (List.range (j + 1)).map (· % 3) by rw [List.range_succ, List.map_append, List.map_singleton, HR.out]] at h4
      have H4 := keepHid h4
      clear h4 H3
      go_wp2
      go_roundw
      case rel => exact ⟨j + 1, r, by omega, by go_num, H4⟩
      case measure => simp [intOf]; omega
    · obtain rfl : j = N := by omega
      go_wp2_with fail
      refine (segs_at HD.out (by rw [List.length_map, List.length_range]; omega)).mono ?_
      rintro e w5 ⟨A, c, rfl, h5, hb5⟩
      have hs := segs_turns j
      have HD5 := keepHid (HD.out.below hb5)
      rw [hs] at h5
      rw [hs, List.length_map, List.length_range]
      have hl : ((List.range j).map (· % 3)).length = j := by rw [List.length_map, List.length_range]
      have h5' : SegsAt w ((List.range j).map (fun k => ⟨k % 3, k, 1⟩)) A c w5 := h5
      have H5 := keepHid h5'
      have HSG : Hid (∀ k, k < j → ((List.range j).map (fun k => (⟨k % 3, k, 1⟩ : Sg)))[k]? = some ⟨k % 3, k, 1⟩) := keepHid (fun k hk => by simp [hk])
      have HLN := keepHid (len_at HD5.out (by rw [List.length_map, List.length_range]; omega))
      rw [hl] at HLN
      clear h5 h5' hb5 hs hl HD
      go_wp2_with fail
      refine HLN.out.mono ?_
      rintro e w6 ⟨rfl, hb6⟩
      have H6 := keepHid (H5.out.below hb6)
      clear hb6 H5 HLN HD5
      go_wp2_with fail
      go_loopw [42] (fun i wr => ∃ k : Nat, k ≤ j ∧ i = .int .i64 k ∧ Hid (SegsAt w ((List.range j).map (fun k => ⟨k % 3, k, 1⟩)) A c wr)) (fun i _ => j - (intOf i).toNat)
      case atStart => exact ⟨0, Nat.zero_le _, rfl, H6⟩
      case round =>
        obtain ⟨k, hk, rfl, HS⟩ := hrel
        by_cases hkj : k < j
        · obtain ⟨G, rfl, c0, c1, c2⟩ := HS.out.cells (HSG.out k hkj)
          have hkj2 : (k : Int) < (j : Int) := by omega
          obtain ⟨r, hr⟩ : ∃ r, k % 3 = r := ⟨_, rfl⟩
          have hm1 : (k : Int) % 3 = (r : Int) := by omega
          have hm2 : Int.tmod (k : Int) 3 = (r : Int) := by rw [Int.tmod_eq_emod_of_nonneg (by omega)]; exact hm1
          simp only [hr] at c0
          have c2' : wr.cell? ⟨G, k * 3 + 2, none⟩ = some (.int .i64 1) := c2
          obtain ⟨w7, hw7⟩ : ∃ w7, wr.alloc (.cells #[.int .i64 (r : Int), .int .i64 (k : Int), .int .i64 1] 40) = w7 := ⟨_, rfl⟩
          have hb7 : Below wr.heap.size wr w7 := by rw [← hw7]; exact (Below.refl _ _).alloc (Nat.le_refl _) _
          have k7 : Blk w7 wr.heap.size 40 #[.int .i64 (r : Int), .int .i64 (k : Int), .int .i64 1] := by rw [← hw7]; exact Blk.new wr _ _
          have d0 : w7.cell? ⟨wr.heap.size, 0, none⟩ = some (.int .i64 (r : Int)) := k7.cell 0
          have d1 : w7.cell? ⟨wr.heap.size, 1, none⟩ = some (.int .i64 (k : Int)) := k7.cell 1
          have d2 : w7.cell? ⟨wr.heap.size, 2, none⟩ = some (.int .i64 1) := k7.cell 2
          have H7 := keepHid (HS.out.below hb7)
          clear hr c2 hb7 k7
          go_wp2
          go_roundw
          case rel => exact ⟨k + 1, by omega, by go_num, H7⟩
          case measure => simp [intOf]; omega
        · obtain rfl : k = j := by omega
          have HB := keepHid HS.out.b
          go_wp2
          go_ret
          exact ⟨rfl, HB.out⟩

set_option maxRecDepth 100000 in
theorem lifted (os : Os) (started : os.Started) (H : Type) (enc : TypeId × Value → H) :
    ReturnsInHanded {} Try.checked os 8 .any (Rows.demuxTurnsSpec.pre6 enc Try.prog Try.f8 Rows.demuxTurnsRow.domain false) (Rows.demuxTurnsSpec.post enc Try.prog Try.f8 false true false false) := by
  refine returnsInHanded_of_change_sized (C := Try.checked) own started (by kernel_rfl) Try.func8
    (ChangeSpec.witness6 (enc := enc) (C := Try.checked) false ⟨#[], #[.int .u8 0], []⟩ 8 (by kernel_rfl) (by kernel_rfl) (by kernel_rfl) (by kernel_rfl)) ?_
  intro W base args ds gs before hval0 hW hcnd hsz0 _
  have hsz : (DataW.weightsEach Try.prog (Try.f8.params.toList ++ Rows.demuxTurnsSpec.plain.varTypes Try.prog) (ds ++ gs)).all (· ≤ reachBytes) = true := hsz0
  clear hsz0
  have hval : ∀ (j : Nat) t v, Try.f8.params[j]? = some t → args[j]? = some v → Value.okWide Try.prog W .any base t v := hval0
  have hW' := hW
  obtain ⟨p, q, hA0, hV, rfl, hfz, hnd⟩ := hW
  have hA : DataW.TrodAll enc Try.prog W 0 (fun _ => true) true Try.f8.params.toList args.toList ds p := hA0
  rw [Try.params8] at hA hval hsz
  obtain ⟨v0, vs0, d0, ds0, p0, q0, hargs, rfl, rfl, h0, r0⟩ := trodAll_cons hA
  obtain ⟨rfl, rfl, rfl⟩ := trodAll_nil r0
  obtain rfl : args = #[v0] := by cases args; simp_all
  obtain ⟨rfl, rfl⟩ := trodVars_none hV
  have k0 := h0
  have lt0 : ∀ x ∈ p0, x.block < W.heap.size := by obtain ⟨m, hm⟩ := k0; exact DataW.trod_lt m _ _ _ hm
  obtain ⟨x0, rfl, rfl, rfl, w0⟩ := open_int Try.underlying5 (hval 0 5 v0 rfl rfl) h0
  clear hA0 hval0
  refine (walk x0 W (wf_u8 w0)).mono fun e W' ⟨he, bel⟩ => ?_
  subst he
  exact ⟨_, rfl, _, _, _, [], _, [], hW', trodAll_mk1 (shut_bool Try.underlying4 _), (trodAll_cons_mk (Below.trod laidOut (by kernel_rfl) (of_decide_eq_true (by kernel_rfl)) k0 bel lt0) trodAll_mk0), rfl, bel.frame _, fun h => by cases h⟩

theorem over : Rows.demuxTurnsRow.holds Try.pinned (OpenSpec.ofChange Rows.demuxTurnsSpec) :=
  OpenClaim.holds_of_wide 8 Try.f8 rfl rfl rfl rfl rfl rfl rfl ⟨rfl, rfl, rfl, rfl, rfl⟩ rfl rfl rfl rfl rfl (by kernel_rfl) Try.func8 (by kernel_rfl)
    (of_decide_eq_true (by kernel_rfl)) (by unfold Func.isWrapper; first | (rw [if_pos (by decide +kernel)]; kernel_rfl) | (rw [if_neg (by decide +kernel)]; exact ⟨rfl, rfl⟩))
    (fun os started H enc _ => lifted os started H enc)

theorem proved : Rows.DemuxTurnsSaid := over
end Go.Proofs.Ytadfchdcaenglaa.demuxTurns
