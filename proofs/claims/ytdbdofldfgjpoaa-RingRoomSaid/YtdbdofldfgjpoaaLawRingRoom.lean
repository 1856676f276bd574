/-
  'lifelinelaw02.RingRoom' answers true for every input, and leaves its arguments as they were.
  Conditions: none but what the row itself says of its arguments (how much memory each may take).
-/
import Derived.Test.YtdbdofldfgjpoaaRows
import Derived.Test.YtdbdofldfgjpoaaRingUse
import Derived.Test.YtdbdofldfgjpoaaFrame
import Derived.WalkKit
import Derived.ProofKit
import Derived.OpenShut
import Derived.ShutString
import Derived.ChangeOld
import Derived.Below
namespace Go.Proofs.Ytdbdofldfgjpoaa.ringRoom
open Go.ChangeShapes Go.WideShapes Go.ChangeAt Go.RowKit
open Go.ChangeMaps (open_string shut_string)
set_option linter.unusedVariables false

theorem own : ownKnob Try.prog.godebug = none := by kernel_rfl
theorem laidOut : laidOutB Try.prog = true := by kernel_rfl

theorem walk (x0 : Int) (w : World) (h0 : -9223372036854775808 ≤ x0 ∧ x0 ≤ 9223372036854775807) :
    Calls Try.prog 4 #[.int .i64 x0] w fun e w' => e = .returned (.bool true) ∧ Below w.heap.size w w' := by
  obtain ⟨N, hN⟩ : ∃ N, OfN x0 N := by
    by_cases h1 : x0 < 1
    · exact ⟨1, .inl ⟨h1, rfl⟩⟩
    · by_cases h2 : x0 ≤ 4096
      · exact ⟨x0.toNat, .inr (.inl ⟨by omega, h2, by omega⟩)⟩
      · exact ⟨4096, .inr (.inr ⟨by omega, rfl⟩)⟩
  have HN := keepHid hN
  have hN' : (x0 < 1 ∧ N = 1) ∨ (N = 1 ∧ x0 = ((1 : Nat) : Int)) ∨ (1 < N ∧ N ≤ 4096 ∧ x0 = (N : Int)) ∨ (4096 < x0 ∧ N = 4096) := by unfold OfN at hN; omega
  clear hN
  rcases hN' with ⟨h1, rfl⟩ | ⟨rfl, rfl⟩ | ⟨h1, h2, rfl⟩ | ⟨h1, rfl⟩
  all_goals
    go_enter Try.func4, Try.ntmps4
    go_wp2_with fail
    refine (awake_any _).mono ?_
    rintro e w1 ⟨rfl, hb⟩
    have HB1 := keepHid hb
    clear hb
    go_wp2_with fail
    refine (of_ring _ _ HN.out _).mono ?_
    rintro e w2 ⟨g, c, rfl, hr, hg, hh, hb⟩
    have HR := keepHid hr
    have HB2 := keepHid (HB1.out.trans (hb.mono HB1.out.size))
    clear hr hb
    go_wp2_with fail
    refine (room_ring g c _ _ _ _ (Nat.zero_add _) _ HR.out).mono ?_
    rintro e w' ⟨rfl, d, rfl⟩
    go_wp2_with fail
    refine (len_ring g c _ _ _ _ (HR.out.drewN _)).mono ?_
    rintro e w' ⟨rfl, rfl⟩
    go_wp2_with fail
    refine (lost_ring g c _ _ _ _ (HR.out.drewN _)).mono ?_
    rintro e w' ⟨rfl, rfl⟩
    go_wp2_with fail
    refine (take_ring g c _ _ _ _ 0 _ (HR.out.drewN _) (by first | (simp; done) | (simp; omega))).mono ?_
    rintro e w3 ⟨t, rfl, hr3, hk3, ht, ht3⟩
    go_wp2
    go_ret
    refine ⟨rfl, (HB2.out.trans (below_drewN (Below.refl _ _) d)).trans (ht3.below ?_ ?_)⟩
    · intro i hi
      have := HB1.out.size
      rcases hi with rfl | rfl <;> omega
    · exact HB2.out.size

set_option maxRecDepth 100000 in
theorem lifted (os : Os) (started : os.Started) (H : Type) (enc : TypeId × Value → H) :
    ReturnsInHanded {} Try.checked os 4 .any (Rows.ringRoomSpec.pre6 enc Try.prog Try.f4 Rows.ringRoomRow.domain false) (Rows.ringRoomSpec.post enc Try.prog Try.f4 false true false false) := by
  refine returnsInHanded_of_change_sized (C := Try.checked) own started (by kernel_rfl) Try.func4
    (ChangeSpec.witness6 (enc := enc) (C := Try.checked) false ⟨#[], #[.int .i64 0], []⟩ 8 (by kernel_rfl) (by kernel_rfl) (by kernel_rfl) (by kernel_rfl)) ?_
  intro W base args ds gs before hval0 hW hcnd hsz0 _
  have hsz : (DataW.weightsEach Try.prog (Try.f4.params.toList ++ Rows.ringRoomSpec.plain.varTypes Try.prog) (ds ++ gs)).all (· ≤ reachBytes) = true := hsz0
  clear hsz0
  have hval : ∀ (j : Nat) t v, Try.f4.params[j]? = some t → args[j]? = some v → Value.okWide Try.prog W .any base t v := hval0
  have hW' := hW
  obtain ⟨p, q, hA0, hV, rfl, hfz, hnd⟩ := hW
  have hA : DataW.TrodAll enc Try.prog W 0 (fun _ => true) true Try.f4.params.toList args.toList ds p := hA0
  rw [Try.params4] at hA hval hsz
  obtain ⟨v0, vs0, d0, ds0, p0, q0, hargs, rfl, rfl, h0, r0⟩ := trodAll_cons hA
  obtain ⟨rfl, rfl, rfl⟩ := trodAll_nil r0
  obtain rfl : args = #[v0] := by cases args; simp_all
  obtain ⟨rfl, rfl⟩ := trodVars_none hV
  have k0 := h0
  have lt0 : ∀ x ∈ p0, x.block < W.heap.size := by obtain ⟨m, hm⟩ := k0; exact DataW.trod_lt m _ _ _ hm
  obtain ⟨x0, rfl, rfl, rfl, w0⟩ := open_int Try.underlying3 (hval 0 3 v0 rfl rfl) h0
  clear hA0 hval0
  refine (walk x0 W (wf_i64 w0)).mono fun e W' ⟨he, bel⟩ => ?_
  subst he
  exact ⟨_, rfl, _, _, _, [], _, [], hW', trodAll_mk1 (shut_bool Try.underlying4 _), (trodAll_cons_mk (Below.trod laidOut (by kernel_rfl) (of_decide_eq_true (by kernel_rfl)) k0 bel lt0) trodAll_mk0), rfl, bel.frame _, fun h => by cases h⟩

theorem over : Rows.ringRoomRow.holds Try.pinned (OpenSpec.ofChange Rows.ringRoomSpec) :=
  OpenClaim.holds_of_wide 4 Try.f4 rfl rfl rfl rfl rfl rfl rfl ⟨rfl, rfl, rfl, rfl, rfl⟩ rfl rfl rfl rfl rfl (by kernel_rfl) Try.func4 (by kernel_rfl)
    (of_decide_eq_true (by kernel_rfl)) (by unfold Func.isWrapper; first | (rw [if_pos (by decide +kernel)]; kernel_rfl) | (rw [if_neg (by decide +kernel)]; exact ⟨rfl, rfl⟩))
    (fun os started H enc _ => lifted os started H enc)

theorem proved : Rows.RingRoomSaid := over
end Go.Proofs.Ytdbdofldfgjpoaa.ringRoom
