/-
  'lifelinelaw07.NfaStep' answers true for every input, and leaves its arguments as they were.
  Conditions: none but what the row itself says of its arguments (how much memory each may take).
-/
import Derived.Test.YtlmjijejgfhmmaaRows
import Derived.Test.YtlmjijejgfhmmaaNfaKit
import Derived.Test.YtlmjijejgfhmmaaFrame
import Derived.Test.YtlmjijejgfhmmaaRegexMake3
import Derived.Test.YtlmjijejgfhmmaaRegexMakesAll
import Derived.WalkKit
import Derived.ProofKit
import Derived.OpenShut
import Derived.ShutString
import Derived.ChangeOld
import Derived.Below
namespace Go.Proofs.Ytlmjijejgfhmmaa.nfaStep
open Go.ChangeShapes Go.WideShapes Go.ChangeAt Go.RowKit
open Go.ChangeMaps (open_string shut_string)
set_option linter.unusedVariables false

theorem own : ownKnob Try.prog.godebug = none := by kernel_rfl
theorem laidOut : laidOutB Try.prog = true := by kernel_rfl

theorem walk (a0 : Option Addr) (n0 c0 : Nat) (b0 : List UInt8) (a1 : Option Addr) (n1 c1 : Nat) (b1 : List UInt8) (w : World) (h0 : Bys w w.heap.size a0 n0 b0) (l0 : n0 ≤ c0) (s0 : c0 ≤ 140737488351232) (h1 : Bys w w.heap.size a1 n1 b1) (l1 : n1 ≤ c1) (s1 : c1 ≤ 140737488351232) :
    Calls Try.prog 4 #[.slice a0 n0 c0, .slice a1 n1 c1] w fun e w' => e = .returned (.bool true) ∧ Below w.heap.size w w' := by
  have HY0 := keepHid h0
  have HY1 := keepHid h1
  have HAW := keepHid (awake7_any w)
  clear h0 h1
  go_enter Try.func4, Try.ntmps4
  go_wp2_with fail
  with_reducible refine HAW.out.mono ?_
  rintro e w1 ⟨rfl, hb1⟩
  have HB1 := keepHid hb1
  have HMK := keepHid (makes_any (build_all 3 (Nat.le_refl _)) a0 n0 c0 b0 w1 ((HY0.out.below hb1).more hb1.size) l0 (by omega))
  clear hb1
  go_wp2_with fail
  with_reducible refine HMK.out.mono ?_
  rintro e w2 ⟨h, rfl, hi2, hb2⟩
  obtain ⟨w3, hw3⟩ : ∃ w3, w2.alloc (.cells (hdC h) 30) = w3 := ⟨_, rfl⟩
  obtain ⟨hi3, hb3, hk3⟩ := node_var hi2 hw3
  have HB3 := keepHid (HB1.out.trans ((hb2.trans (hb3.mono hb2.size)).mono HB1.out.size))
  have HT := keepHid (text_any (k := c1) b1 (HY1.out.below HB3.out))
  have HO := keepHid (of_any hi3 (sm_bld (Nat.le_refl _) b0))
  have WF := keepHid (auOf_wf (sm_bld (Nat.le_refl _) b0))
  have HW3 := keepHid hw3
  unfold hdC at hk3 HW3
  obtain ⟨m0, m1, m2, m3, m4, m5, mf⟩ := blk6 hk3
  clear hi2 hb2 hw3 hi3 hb3 hk3
  unfold hdV at *
  go_upto_region 4 with fail
  rw [HW3.out]
  go_wp2_with fail
  with_reducible refine HT.out.mono ?_
  rintro e w' ⟨rfl, rfl⟩
  go_wp2_with fail
  with_reducible refine HO.out.mono ?_
  rintro e w4 ⟨g, rfl, hA, hb4⟩
  have HB4 := keepHid (HB3.out.trans (hb4.mono HB3.out.size))
  have HA := keepHid hA
  generalize auOf (bldL 3 b0).2.1 = A at *
  obtain ⟨bs, hbs⟩ : ∃ bs, txt b1 = bs := ⟨_, rfl⟩
  obtain ⟨n, hn⟩ : ∃ n, bs.length = n := ⟨_, rfl⟩
  have hn14 : n ≤ 14 := by rw [← hn, ← hbs]; exact txt_len b1
  rw [hbs]
  have hsz : (strB bs).size = n := by rw [strB_size, hn]
  have HN := keepHid hn
  have HEND := keepHid (fun w' (hb : Below w4.heap.size w4 w') => tabA_ends (c := 0) (hA.keep hb) (at_ := []) Sl.nil)
  clear hA hb4 hbs hn m0 m1 m2 m3 m4 m5 mf HO HT HW3 HMK HAW
  generalize w3.heap.size = lo at *
  go_wp2
  go_loopw [9, 10] (fun v i wr => ∃ (j : Nat) (At : Option Addr) (m k : Nat), j ≤ n ∧ i = .int .i64 j ∧ v = .slice At m k ∧ Hid (Sl Value.bool wr At m (runB A (bs.take j))) ∧ Hid (Below w4.heap.size w4 wr)) (fun _ i _ => n - (intOf i).toNat)
  case atStart => exact ⟨0, none, 0, 0, Nat.zero_le _, rfl, rfl, keepHid Sl.nil, keepHid (Below.refl _ _)⟩
  case round =>
    obtain ⟨j, At, m, k, hj, rfl, rfl, HS, HB⟩ := hrel
    rcases Nat.lt_or_ge j n with hlt | hge
    · obtain ⟨c, hc⟩ : ∃ c, bs[j]? = some c := ⟨_, List.getElem?_eq_getElem (by rw [HN.out]; exact hlt)⟩
      have hix := run_idx hc (j : Int) rfl
      have HST := keepHid (fun b => step_any (k := k) c b (HA.out.keep HB.out) WF.out HS.out)
      obtain ⟨z, hz⟩ : ∃ z, ((j : Int) == 0) = z := ⟨_, rfl⟩
      have HZ : Hid (z = (bs.take j).isEmpty) := keepHid (by
        rw [← hz]
        cases j with
        | zero => simp
        | succ j =>
          have h1 : (((j + 1 : Nat) : Int) == 0) = false := by simp only [beq_eq_false_iff_ne, ne_eq]; omega
          rw [h1]
          cases bs with
          | nil => simp at hc
          | cons x l => simp)
      have HTK : Hid (bs.take (j + 1) = bs.take j ++ [c]) := keepHid (List.take_succ_of hc)
      have hji : (j : Int) < (n : Int) := by omega
      clear hc
      go_wp2_with fail
      with_reducible refine (HST.out z).mono ?_
      rintro e w5 ⟨G, rfl, hk, hg, hb⟩
      have hsm : A.T.sets.length ≤ 900000 := WF.out.small.sets
      have hs5 : Sl Value.bool w5 (some ⟨G, 0, none⟩) A.T.sets.length (runB A (bs.take (j + 1))) := by
        rw [HTK.out, run_snoc, ← HZ.out]
        exact sl_blk hk (step_len _ _ _ _) (by unfold maxLen; omega)
      have hb5 := HB.out.trans (hb.mono HB.out.size)
      have HB5 := keepHid hb5
      have HS5 := keepHid hs5
      have hfb : fitsB A (bs.take (j + 1)) = anyB (runB A (bs.take (j + 1))) A.last := by
        unfold fitsB
        rw [if_neg (by rw [HTK.out]; simp)]
      obtain ⟨R, hR⟩ : ∃ R, anyB (runB A (bs.take (j + 1))) A.last = R := ⟨_, rfl⟩
      have HLE : Hid (∀ w', Below w4.heap.size w4 w' → Calls Try.prog 15 #[.pointer (some ⟨g, 0, none⟩)] w' fun e w'' => e = .returned (.int .i64 (A.T.sets.length : Int)) ∧ w' = w'') := keepHid (fun w' hb => tabA_len (HA.out.keep hb))
      have HEN : Hid (∀ w', Below w5.heap.size w5 w' → Calls Try.prog 18 #[.pointer (some ⟨g, 0, none⟩), .slice (some ⟨G, 0, none⟩) A.T.sets.length A.T.sets.length] w' fun e w'' => e = .returned (.bool R) ∧ w' = w'') := keepHid (fun w' hb' => by
        rw [← hR]
        exact tabA_ends (HA.out.keep (HB5.out.trans (hb'.mono HB5.out.size))) (HS5.out.below hb'))
      have HFI : Hid (∀ w', Below w5.heap.size w5 w' → Calls Try.prog 12 #[.pointer (some ⟨g, 0, none⟩), .string (strB (bs.take (j + 1)))] w' fun e w'' => e = .returned (.bool R) ∧ Below w'.heap.size w' w'') := keepHid (fun w' hb' => by
        rw [← hR, ← hfb]
        exact fits_any _ (HA.out.keep (HB5.out.trans (hb'.mono HB5.out.size))) WF.out (by have := HN.out; simp; omega))
      have hsl := run_head (l := bs) (k := j + 1) (by rw [HN.out]; omega) ((j : Int) + 1) (by omega)
      have hw1 : IntKind.i64.wrap ((j : Int) + 1) = (j : Int) + 1 := IntWalk.i64_in _ (by omega)
      have HD5 : Hid (Below w5.heap.size w5 w5.drew) := keepHid (Below.drew (Below.refl _ _))
      have HD4 : Hid (Below w4.heap.size w4 w5.drew) := keepHid (HB5.out.drew)
      clear hk hg hb hix hz hs5 hb5 hfb hR
      generalize A.T.sets.length = NN at *
      go_wp2
      go_region_held3 (fun _ => True) (trivial) (first | (go_at_call 15; (with_reducible refine (HLE.out _ HD4.out).mono ?_); rintro e w' ⟨rfl, rfl⟩) | (go_at_call 18; (with_reducible refine (HEN.out _ HD5.out).mono ?_); rintro e w' ⟨rfl, rfl⟩) | (go_at_call 12; (with_reducible refine (HFI.out _ HD5.out).mono ?_); rintro e w6 ⟨rfl, hb6⟩; have HB6 := keepHid hb6; clear hb6))
      have HS6 : Hid (Sl Value.bool w6 (some ⟨G, 0, none⟩) NN (runB A (bs.take (j + 1)))) := keepHid ((HS5.out.below HD5.out).below HB6.out)
      have HB7 : Hid (Below w4.heap.size w4 w6) := keepHid (HD4.out.trans (HB6.out.mono HD4.out.size))
      clear hw1
      cases R
      all_goals
        go_wp2
        go_roundw
        case rel => exact ⟨j + 1, some ⟨G, 0, none⟩, NN, NN, by omega, by go_num, rfl, HS6, HB7⟩
        case measure => simp [intOf]; omega
    · have HE := keepHid (HEND.out wr HB.out)
      rw [show anyB [] A.last = false by simp [anyB]] at HE
      go_wp2_with fail
      with_reducible refine HE.out.mono ?_
      rintro e w' ⟨rfl, rfl⟩
      go_wp2
      go_ret
      exact ⟨rfl, HB4.out.trans (HB.out.mono HB4.out.size)⟩

set_option maxRecDepth 100000 in
theorem lifted (os : Os) (started : os.Started) (H : Type) (enc : TypeId × Value → H) :
    ReturnsInHanded {} Try.checked os 4 .any (Rows.nfaStepSpec.pre6 enc Try.prog Try.f4 Rows.nfaStepRow.domain false) (Rows.nfaStepSpec.post enc Try.prog Try.f4 false true false false) := by
  refine returnsInHanded_of_change_sized (C := Try.checked) own started (by kernel_rfl) Try.func4
    (ChangeSpec.witness6 (enc := enc) (C := Try.checked) false ⟨#[], #[.slice none 0 0, .slice none 0 0], []⟩ 8 (by kernel_rfl) (by kernel_rfl) (by kernel_rfl) (by kernel_rfl)) ?_
  intro W base args ds gs before hval0 hW hcnd hsz0 _
  have hsz : (DataW.weightsEach Try.prog (Try.f4.params.toList ++ Rows.nfaStepSpec.plain.varTypes Try.prog) (ds ++ gs)).all (· ≤ reachBytes) = true := hsz0
  clear hsz0
  have hval : ∀ (j : Nat) t v, Try.f4.params[j]? = some t → args[j]? = some v → Value.okWide Try.prog W .any base t v := hval0
  have hW' := hW
  obtain ⟨p, q, hA0, hV, rfl, hfz, hnd⟩ := hW
  have hA : DataW.TrodAll enc Try.prog W 0 (fun _ => true) true Try.f4.params.toList args.toList ds p := hA0
  rw [Try.params4] at hA hval hsz
  obtain ⟨v0, vs0, d0, ds0, p0, q0, hargs, rfl, rfl, h0, r0⟩ := trodAll_cons hA
  obtain ⟨v1, vs1, d1, ds1, p1, q1, rfl, rfl, rfl, h1, r1⟩ := trodAll_cons r0
  obtain ⟨rfl, rfl, rfl⟩ := trodAll_nil r1
  obtain rfl : args = #[v0, v1] := by cases args; simp_all
  obtain ⟨rfl, rfl⟩ := trodVars_none hV
  have k0 := h0
  have lt0 : ∀ x ∈ p0, x.block < W.heap.size := by obtain ⟨m, hm⟩ := k0; exact DataW.trod_lt m _ _ _ hm
  have k1 := h1
  have lt1 : ∀ x ∈ p1, x.block < W.heap.size := by obtain ⟨m, hm⟩ := k1; exact DataW.trod_lt m _ _ _ hm
  obtain ⟨a0, n0, c0, b0, rfl, w0, l0, s0⟩ := open_bys Try.underlying22 Try.underlying5 (by kernel_rfl) (by kernel_rfl) (hval 0 22 v0 rfl rfl) (fun _ => rfl) h0 (fun el sp hd => sized_slice hsz (j := 0) (t := 22) (e := 5) rfl (by rw [hd]; rfl) Try.underlying22)
  obtain ⟨a1, n1, c1, b1, rfl, w1, l1, s1⟩ := open_bys Try.underlying22 Try.underlying5 (by kernel_rfl) (by kernel_rfl) (hval 1 22 v1 rfl rfl) (fun _ => rfl) h1 (fun el sp hd => sized_slice hsz (j := 1) (t := 22) (e := 5) rfl (by rw [hd]; rfl) Try.underlying22)
  clear hA0 hval0
  refine (walk a0 n0 c0 b0 a1 n1 c1 b1 W w0 l0 s0 w1 l1 s1).mono fun e W' ⟨he, bel⟩ => ?_
  subst he
  exact ⟨_, rfl, _, _, _, [], _, [], hW', trodAll_mk1 (shut_bool Try.underlying4 _), (trodAll_cons_mk (Below.trod laidOut (by kernel_rfl) (of_decide_eq_true (by kernel_rfl)) k0 bel lt0) (trodAll_cons_mk (Below.trod laidOut (by kernel_rfl) (of_decide_eq_true (by kernel_rfl)) k1 bel lt1) trodAll_mk0)), rfl, bel.frame _, fun h => by cases h⟩

theorem over : Rows.nfaStepRow.holds Try.pinned (OpenSpec.ofChange Rows.nfaStepSpec) :=
  OpenClaim.holds_of_wide 4 Try.f4 rfl rfl rfl rfl rfl rfl rfl ⟨rfl, rfl, rfl, rfl, rfl⟩ rfl rfl rfl rfl rfl (by kernel_rfl) Try.func4 (by kernel_rfl)
    (of_decide_eq_true (by kernel_rfl)) (by unfold Func.isWrapper; first | (rw [if_pos (by decide +kernel)]; kernel_rfl) | (rw [if_neg (by decide +kernel)]; exact ⟨rfl, rfl⟩))
    (fun os started H enc _ => lifted os started H enc)

theorem proved : Rows.NfaStepSaid := over
end Go.Proofs.Ytlmjijejgfhmmaa.nfaStep
