/-
  'lifelinelaw17.DialogNumbers' answers true for every input of the row, and leaves its arguments as they were.
  Conditions: the package-level variables that the row lists lie as the program's own text lays them (the card ties them to it; what is pinned is a constant of the library's).
-/
import Derived.Test.YtdjmfapbaoddoaaGreatDoorRows
import Derived.Test.YtdjmfapbaoddoaaGreatDoorDialogNum
import Derived.Test.YtdjmfapbaoddoaaGreatDoorFrame
import Derived.Test.YtdjmfapbaoddoaaGreatDoorFrameNum
import Derived.Test.YtdjmfapbaoddoaaGreatDoorFrameEight
import Derived.Test.YtdjmfapbaoddoaaGreatDoorCards
import Derived.Test.YtdjmfapbaoddoaaGreatDoorDialogAwake
import Derived.Test.YtdjmfapbaoddoaaGreatDoorDialogLaw
import Derived.Test.YtdjmfapbaoddoaaGreatDoorErrFacts
import Derived.Lib.QuietBelow
import Derived.Deep.DeepCutAuto
import Derived.OwnWalk
import Derived.WalkKit
import Derived.ProofKit
import Derived.OpenShut
import Derived.ShutString
import Derived.ChangeOld
import Derived.Below
namespace Go.Proofs.YtdjmfapbaoddoaaGreatDoor.dialogNumbers
open Go.ChangeShapes Go.WideShapes Go.ChangeAt Go.RowKit
open Go.ChangeMaps (open_string shut_string)
set_option linter.unusedVariables false

theorem own : ownKnob Tryz.prog.godebug = none := by kernel_rfl
theorem laidOut : laidOutB Tryz.prog = true := by kernel_rfl

theorem dig_short {n : Nat} (h : n < 1000) : (digL 10 n).length ≤ 3 := digL_len (by omega) n 2 (by omega)
set_option maxHeartbeats 4000000 in
theorem clos_any (k : Nat) (hk : k ≤ 255) (w : World) :
    Calls Tryz.prog 18 #[.int .u8 (k : Int)] w fun e w' => e = .returned (.string (strB (digL 10 (k % 120)))) ∧ Below w.heap.size w w' := by
  have HD := keepHid (ldig_any (k % 120) (by omega))
  obtain ⟨r, hr⟩ : ∃ r, k % 120 = r := ⟨_, rfl⟩
  rw [hr] at HD ⊢
  have h1 : (k : Int) % 120 = (r : Int) := by omega
  have h2 : Int.tmod (k : Int) 120 = (r : Int) := by rw [Int.tmod_eq_emod_of_nonneg (by omega)]; exact h1
  have h3 : IntKind.u8.wrap (r : Int) = (r : Int) := by unfold IntKind.wrap; simp [IntKind.signed, IntKind.bits]; omega
  have h4 : IntKind.i64.wrap (r : Int) = (r : Int) := by rw [IntKind.wrap_i64]; omega
  clear hr hk
  generalize strB (digL 10 r) = D at *
  go_enter Tryz.func18, Tryz.ntmps18
  go_wp2_with fail
  refine (HD.out _).mono ?_
  rintro e w1 ⟨rfl, hb1⟩
  have HB1 := keepHid hb1
  clear hb1
  go_wp2
  go_ret
  exact ⟨rfl, HB1.out⟩
set_option maxRecDepth 100000 in
set_option maxHeartbeats 8000000 in
theorem walkL (a b : Nat) (ha : a ≤ 255) (hb : b ≤ 255) (w : World) (hT : NumT w) (hR : ErrT w) :
    Calls Tryz.prog 7 #[.int .u8 (a : Int), .int .u8 (b : Int)] w fun e w' => e = .returned (.bool true) ∧ Below w.heap.size w w' := by
  have HA := keepHid (awake_any w hT.errs)
  have HT := keepHid hT
  have HR := keepHid hR
  obtain ⟨n, hn⟩ : ∃ n, a % 120 = n := ⟨_, rfl⟩
  obtain ⟨m, hm⟩ : ∃ m, b % 15 = m := ⟨_, rfl⟩
  have HC1 := keepHid (clos_any a ha)
  have HC2 := keepHid (clos_any m (by omega))
  rw [hn] at HC1
  rw [show m % 120 = m by omega] at HC2
  have a1 : (a : Int) % 120 = (n : Int) := by omega
  have a2 : Int.tmod (a : Int) 120 = (n : Int) := by rw [Int.tmod_eq_emod_of_nonneg (by omega)]; exact a1
  have a3 : IntKind.u8.wrap (n : Int) = (n : Int) := by unfold IntKind.wrap; simp [IntKind.signed, IntKind.bits]; omega
  have a4 : IntKind.i64.wrap (n : Int) = (n : Int) := by rw [IntKind.wrap_i64]; omega
  have b1 : (b : Int) % 15 = (m : Int) := by omega
  have b2 : Int.tmod (b : Int) 15 = (m : Int) := by rw [Int.tmod_eq_emod_of_nonneg (by omega)]; exact b1
  have b3 : IntKind.u8.wrap (m : Int) = (m : Int) := by unfold IntKind.wrap; simp [IntKind.signed, IntKind.bits]; omega
  have b4 : IntKind.i64.wrap (m : Int) = (m : Int) := by rw [IntKind.wrap_i64]; omega
  have hn120 : n < 120 := by omega
  have hm15 : m < 15 := by omega
  have hl1 := dig_short (n := n) (by omega)
  have hl2 := dig_short (n := m) (by omega)
  have HP := keepHid (num_parse n m (by omega) (by omega))
  have hlen : (nText n m).length ≤ 4096 := by
    unfold nText
    simp only [List.length_append]
    have e1 : nHead.length = 25 := rfl
    have e2 : nMid.length = 11 := rfl
    have e3 : nEnd.length = 6 := rfl
    omega
  have HPA := keepHid (fun w' h => dparse_any (nText n m) hlen w' h)
  have k1 : ∀ w, (Op.stringOp .add ⟨#[97, 58, 32, 101, 120, 112, 101, 99, 116, 32, 34, 120, 34, 32, 103, 111, 32, 97, 32, 97, 102, 116, 101, 114, 32]⟩ (strB (digL 10 n))).run Tryz.prog w = .ok (.string (strB (nHead ++ digL 10 n))) w := fun w => run_strAdd nHead _ (by have e1 : nHead.length = 25 := rfl; omega) w
  have k2 : ∀ w, (Op.stringOp .add (strB (nHead ++ digL 10 n)) ⟨#[32, 103, 111, 32, 97, 59, 32, 116, 114, 121, 32]⟩).run Tryz.prog w = .ok (.string (strB (nHead ++ digL 10 n ++ nMid))) w := fun w => run_strAdd _ nMid (by have e1 : nHead.length = 25 := rfl; have e2 : nMid.length = 11 := rfl; simp only [List.length_append]; omega) w
  have k3 : ∀ w, (Op.stringOp .add (strB (nHead ++ digL 10 n ++ nMid)) (strB (digL 10 m))).run Tryz.prog w = .ok (.string (strB (nHead ++ digL 10 n ++ nMid ++ digL 10 m))) w := fun w => run_strAdd _ _ (by have e1 : nHead.length = 25 := rfl; have e2 : nMid.length = 11 := rfl; simp only [List.length_append]; omega) w
  have k4 : ∀ w, (Op.stringOp .add (strB (nHead ++ digL 10 n ++ nMid ++ digL 10 m)) ⟨#[32, 103, 111, 32, 97, 59]⟩).run Tryz.prog w = .ok (.string (strB (nText n m))) w := fun w => run_strAdd _ nEnd (by have e1 : nHead.length = 25 := rfl; have e2 : nMid.length = 11 := rfl; have e3 : nEnd.length = 6 := rfl; simp only [List.length_append]; omega) w
  have hs1 : (strB (digL 10 n)).size = (digL 10 n).length := strB_size _
  obtain ⟨L1, hL1⟩ : ∃ L, (digL 10 n).length = L := ⟨_, rfl⟩
  rw [hL1] at HP hs1 hl1
  have e25 : nHead.length = 25 := rfl
  have e11 : nMid.length = 11 := rfl
  rw [e25, e11] at HP
  clear hlen hl2 hL1 hn hm ha hb hT hR e25 e11
  generalize strB (nText n m) = S5 at *
  generalize strB (nHead ++ digL 10 n ++ nMid ++ digL 10 m) = S4 at *
  generalize strB (nHead ++ digL 10 n ++ nMid) = S3 at *
  generalize strB (nHead ++ digL 10 n) = S2 at *
  generalize strB (digL 10 n) = D1 at *
  generalize strB (digL 10 m) = D2 at *
  go_enter Tryz.func7, Tryz.ntmps7
  go_wp2_with fail
  refine HA.out.mono ?_
  rintro e w1 ⟨rfl, hb1⟩
  have HB1 := keepHid hb1
  have HT1 := keepHid (HT.out.below hb1 (Nat.le_refl _))
  have HR1 := keepHid (HR.out.below hb1 HR.out.pos)
  clear hb1 HA HT HR
  go_wp2_with fail
  refine (HC1.out _).mono ?_
  rintro e w2 ⟨rfl, hb2⟩
  have HB2 := keepHid (HB1.out.trans (hb2.mono HB1.out.size))
  have HT2 := keepHid (HT1.out.below hb2 (Nat.le_refl _))
  have HR2 := keepHid (HR1.out.below hb2 HR1.out.pos)
  clear hb2
  go_wp2_with fail
  refine (HC2.out _).mono ?_
  rintro e w3 ⟨rfl, hb3⟩
  have HB3 := keepHid (HB2.out.trans (hb3.mono HB2.out.size))
  have HT3 := keepHid (HT2.out.below hb3 (Nat.le_refl _))
  have HR3 := keepHid (HR2.out.below hb3 HR2.out.pos)
  clear hb3
  go_wp2_with fail
  refine (HPA.out _ HT3.out.errs).mono ?_
  rintro e w4 ⟨hpost, hb4⟩
  have HPO := keepHid hpost
  have HB4 := keepHid (HB3.out.trans (hb4.mono HB3.out.size))
  have HR4 := keepHid (HR3.out.below hb4 HR3.out.pos)
  clear hb4 hpost HPA k1 k2 k3 k4
  by_cases hb : n < 1 ∨ 99 < n
  · have hx := HP.out.1 hb
    rcases HPO.out with ⟨x, hx', rfl⟩ | ⟨ss, A, nn, c, hss, _, _⟩
    · rw [hx] at hx'
      injection hx' with hx'
      subst hx'
      have hf : faultV ((5 : Nat) : Int) ((25 : Nat) : Int) = .iface 86 (.agg #[.int .i64 5, .int .i64 25]) := rfl
      rw [hf]
      have HNU := keepHid (fun w h => number_any 5 25 w h)
      have HPL := keepHid (fun w h => place_any 5 25 w h)
      rw [show faultV 5 25 = .iface 86 (.agg #[.int .i64 5, .int .i64 25]) from rfl] at HNU HPL
      clear hf hx HPO HP
      rcases hb with hb | hb
      · have hI : (n : Int) < 1 := by omega
        clear hb
        go_wp2_with fail
        refine (HNU.out _ HR4.out).mono ?_
        rintro e w5 ⟨rfl, hb5⟩
        have HB5 := keepHid (HB4.out.trans (hb5.mono HB4.out.size))
        have HR5 := keepHid (HR4.out.below hb5 HR4.out.pos)
        clear hb5
        go_wp2_with fail
        refine (HPL.out _ HR5.out).mono ?_
        rintro e w6 ⟨rfl, hb6⟩
        have HB6 := keepHid (HB5.out.trans (hb6.mono HB5.out.size))
        clear hb6
        go_wp2
        go_ret
        exact ⟨rfl, HB6.out⟩
      · have hI : ¬ (n : Int) < 1 := by omega
        have hI2 : (99 : Int) < (n : Int) := by omega
        clear hb
        go_wp2_with fail
        refine (HNU.out _ HR4.out).mono ?_
        rintro e w5 ⟨rfl, hb5⟩
        have HB5 := keepHid (HB4.out.trans (hb5.mono HB4.out.size))
        have HR5 := keepHid (HR4.out.below hb5 HR4.out.pos)
        clear hb5
        go_wp2_with fail
        refine (HPL.out _ HR5.out).mono ?_
        rintro e w6 ⟨rfl, hb6⟩
        have HB6 := keepHid (HB5.out.trans (hb6.mono HB5.out.size))
        clear hb6
        go_wp2
        go_ret
        exact ⟨rfl, HB6.out⟩
    · rw [hx] at hss; cases hss
  · have hI : ¬ (n : Int) < 1 := by omega
    have hI2 : ¬ (99 : Int) < (n : Int) := by omega
    by_cases hc : m < 1 ∨ 9 < m
    · have hx := HP.out.2.1 (by omega) (by omega) hc
      rcases HPO.out with ⟨x, hx', rfl⟩ | ⟨ss, A, nn, c, hss, _, _⟩
      · rw [hx] at hx'
        injection hx' with hx'
        subst hx'
        obtain ⟨P, hP⟩ : ∃ P : Int, ((25 + L1 + 11 : Nat) : Int) = P := ⟨_, rfl⟩
        have hf : faultV ((5 : Nat) : Int) ((25 + L1 + 11 : Nat) : Int) = .iface 86 (.agg #[.int .i64 5, .int .i64 P]) := by rw [hP]; rfl
        rw [hf]
        have HNU := keepHid (fun w h => number_any 5 P w h)
        have HPL := keepHid (fun w h => place_any 5 P w h)
        have hf2 : faultV 5 P = .iface 86 (.agg #[.int .i64 5, .int .i64 P]) := rfl
        rw [hf2] at HNU HPL
        have hPe : (25 : Int) + (L1 : Int) + 11 = P := by rw [← hP]; omega
        have hpb : (P == (25 : Int) + (L1 : Int) + 11) = true := by rw [hPe]; simp
        clear hf hf2 hx HPO HP hb hP
        have hmt : (m : Int) < 1 ∨ (¬ (m : Int) < 1 ∧ (9 : Int) < (m : Int)) := by omega
        clear hc
        rcases hmt with hJ | ⟨hJ, hJ2⟩
        all_goals
          go_wp2_with fail
          refine (HNU.out _ HR4.out).mono ?_
          rintro e w5 ⟨rfl, hb5⟩
          have HB5 := keepHid (HB4.out.trans (hb5.mono HB4.out.size))
          have HR5 := keepHid (HR4.out.below hb5 HR4.out.pos)
          clear hb5
          go_wp2_with fail
          refine (HPL.out _ HR5.out).mono ?_
          rintro e w6 ⟨rfl, hb6⟩
          have HB6 := keepHid (HB5.out.trans (hb6.mono HB5.out.size))
          clear hb6
          go_wp2_with fail
          refine (HC1.out _).mono ?_
          rintro e w7 ⟨rfl, hb7⟩
          have HB7 := keepHid (HB6.out.trans (hb7.mono HB6.out.size))
          clear hb7
          go_wp2
          go_ret
          exact ⟨rfl, HB7.out⟩
      · rw [hx] at hss; cases hss
    · have hJ : ¬ (m : Int) < 1 := by omega
      have hJ2 : ¬ (9 : Int) < (m : Int) := by omega
      obtain ⟨x, y, hx, q1, q2, q3⟩ := HP.out.2.2 (by omega) (by omega) (by omega) (by omega)
      rcases HPO.out with ⟨z, hz, _⟩ | ⟨ss, A, nn, c, hss, rfl, hown⟩
      · rw [hx] at hz; cases hz
      · rw [hx] at hss
        injection hss with hss
        subst hss
        have hlen := hown.len
        obtain rfl : nn = 2 := by simpa using hlen.symm
        obtain ⟨A', c', e0, hc1, hc2, hA⟩ := hown.form
        obtain ⟨rfl, rfl⟩ : A = A' ∧ c = c' := by injection e0 with e1 e2 e3; exact ⟨e1, e3⟩
        obtain ⟨g, rfl⟩ : ∃ g, A = some ⟨g, 0, none⟩ := by
          rcases hA with ⟨_, h⟩ | ⟨g, h, _⟩
          · omega
          · exact ⟨g, h⟩
        have hs4 := hown.sts
        obtain ⟨ad, _, _, _, ha, _, _, _, _, _, u4, _, _, _, _⟩ := hs4.at_ (k := 0) rfl
        obtain rfl := (Option.some.inj ha).symm
        obtain ⟨ad, _, _, _, hbb, _, _, v1, _, _, v4, _, _, _, _⟩ := hs4.at_ (k := 1) rfl
        obtain rfl := (Option.some.inj hbb).symm
        rw [q1] at u4
        rw [q2] at v4
        rw [q3] at v1
        have t0 : w4.cell? ⟨g, 4, none⟩ = some (.int .i64 (n : Int)) := u4
        have t1 : w4.cell? ⟨g, 11, none⟩ = some (.int .i64 (m : Int)) := v4
        have t2 : w4.cell? ⟨g, 8, none⟩ = some (.int .i64 3) := v1
        clear hx HPO HP hb hc hlen e0 hc1 hc2 hA hown hs4 ha hbb u4 v1 v4 q1 q2 q3
        go_wp2
        go_ret
        exact ⟨rfl, HB4.out⟩
theorem walk (x0 : Int) (x1 : Int) (w : World) (hT : NumT w) (hR : ErrT w) (h0 : 0 ≤ x0 ∧ x0 ≤ 255) (h1 : 0 ≤ x1 ∧ x1 ≤ 255) :
    Calls Tryz.prog 7 #[.int .u8 x0, .int .u8 x1] w fun e w' => e = .returned (.bool true) ∧ Below w.heap.size w w' := by
  obtain ⟨a, rfl⟩ : ∃ a : Nat, x0 = (a : Int) := ⟨x0.toNat, by omega⟩
  obtain ⟨b, rfl⟩ : ∃ b : Nat, x1 = (b : Int) := ⟨x1.toNat, by omega⟩
  exact walkL a b (by omega) (by omega) w hT hR

set_option maxRecDepth 100000 in
theorem lifted (os : Os) (started : os.Started) (H : Type) (enc : TypeId × Value → H) :
    ReturnsInHanded {} Tryz.checked os 7 .any (fun w args => (Rows.dialogNumbersSpec.pre enc Tryz.prog Tryz.f7 [] false w args ∧ laidMetH Tryz.prog laid8 w) ∧ sizedMet enc Tryz.prog Tryz.f7 (OpenSpec.ofChange Rows.dialogNumbersSpec) false w args) (Rows.dialogNumbersSpec.post enc Tryz.prog Tryz.f7 false true false false) := by
  refine returnsInHanded_of_change_and (C := Tryz.checked) (X := fun w _ => laidMetH Tryz.prog laid8 w) (fun _ _ _ hh h => h.of_heap hh) own started (by kernel_rfl) Tryz.func7
    (ChangeSpec.witness_shaped (enc := enc) (C := Tryz.checked) (os := os) (X := fun w _ => laidMetH Tryz.prog laid8 w) false (worldF os) #[.int .u8 0, .int .u8 0] 8 (worldF_os os) (World.shaped_of_RefB (by kernel_rfl) (by kernel_rfl)) (by kernel_rfl) (by kernel_rfl) (by kernel_rfl) (door8 os _)) ?_
  intro W base args ds gs before hval0 hW hcnd hsz0 hL _
  have hsz : (DataW.weightsEach Tryz.prog (Tryz.f7.params.toList ++ Rows.dialogNumbersSpec.plain.varTypes Tryz.prog) (ds ++ gs)).all (· ≤ reachBytes) = true := hsz0
  clear hsz0
  have hval : ∀ (j : Nat) t v, Tryz.f7.params[j]? = some t → args[j]? = some v → Value.okWide Tryz.prog W .any base t v := hval0
  have hW' := hW
  obtain ⟨p, q, hA0, hV, rfl, hfz, hnd⟩ := hW
  have hA : DataW.TrodAll enc Tryz.prog W 0 (fun _ => true) true Tryz.f7.params.toList args.toList ds p := hA0
  rw [Tryz.params7] at hA hval hsz
  obtain ⟨v0, vs0, d0, ds0, p0, q0, hargs, rfl, rfl, h0, r0⟩ := trodAll_cons hA
  obtain ⟨v1, vs1, d1, ds1, p1, q1, rfl, rfl, rfl, h1, r1⟩ := trodAll_cons r0
  obtain ⟨rfl, rfl, rfl⟩ := trodAll_nil r1
  obtain rfl : args = #[v0, v1] := by cases args; simp_all
  obtain ⟨rfl, rfl⟩ := trodVars_none hV
  have k0 := h0
  have lt0 : ∀ x ∈ p0, x.block < W.heap.size := by obtain ⟨m, hm⟩ := k0; exact DataW.trod_lt m _ _ _ hm
  have k1 := h1
  have lt1 : ∀ x ∈ p1, x.block < W.heap.size := by obtain ⟨m, hm⟩ := k1; exact DataW.trod_lt m _ _ _ hm
  obtain ⟨x0, rfl, rfl, rfl, w0⟩ := open_int Tryz.underlying5 (hval 0 5 v0 rfl rfl) h0
  obtain ⟨x1, rfl, rfl, rfl, w1⟩ := open_int Tryz.underlying5 (hval 1 5 v1 rfl rfl) h1
  clear hA0 hval0
  refine (walk x0 x1 W (num_of (laid8_parts hL).1) (errT8 hL) (wf_u8 w0) (wf_u8 w1)).mono fun e W' ⟨he, bel⟩ => ?_
  subst he
  exact ⟨_, rfl, _, _, _, [], _, [], hW', trodAll_mk1 (shut_bool Tryz.underlying4 _), (trodAll_cons_mk (Below.trod laidOut (by kernel_rfl) (of_decide_eq_true (by kernel_rfl)) k0 bel lt0) (trodAll_cons_mk (Below.trod laidOut (by kernel_rfl) (of_decide_eq_true (by kernel_rfl)) k1 bel lt1) trodAll_mk0)), rfl, bel.frame _, fun h => by cases h⟩

theorem over : Rows.dialogNumbersRow.holds Tryz.pinned (OpenSpec.ofChange Rows.dialogNumbersSpec) :=
  OpenClaim.holds_of_wide 7 Tryz.f7 rfl rfl rfl rfl rfl rfl rfl ⟨rfl, rfl, rfl, rfl, rfl⟩ rfl rfl rfl rfl rfl (by kernel_rfl) Tryz.func7 (by kernel_rfl)
    (of_decide_eq_true (by kernel_rfl)) (by unfold Func.isWrapper; first | (rw [if_pos (by decide +kernel)]; kernel_rfl) | (rw [if_neg (by decide +kernel)]; exact ⟨rfl, rfl⟩))
    (fun os started H enc _ => lifted os started H enc)

/-- The card: what the row lists is tied to the program's own text. -/
theorem proved : Rows.DialogNumbersCardSaid :=
  Claim7.holds_tied_plain_at .later [] [.data, .data, .data, .data, .handle, .sentinel, .sentinel, .pinned] true Rows.dialogNumbersCard.stood.harness true
    over (fun _ h => by cases h) (by kernel_rfl) (fun _ h => by cases h) dialogNumbers_row_tie rfl ⟨rfl, rfl⟩ (by kernel_rfl) rfl
    (fun f fn hf hfn => by
      obtain rfl : f = 7 := Option.some.inj ((show Tryz.prog.funcNamed "lifeline/lifelinelaw17.DialogNumbers" = some 7 by kernel_rfl).symm.trans hf) |>.symm
      obtain rfl : fn = Tryz.f7 := (Option.some.inj (Tryz.func7.symm.trans hfn)).symm
      exact ⟨by kernel_rfl, fun j t ht => by
        rw [Tryz.params7] at ht
        have hm : t ∈ [5, 5] := by simpa using Array.mem_of_getElem? ht
        have hall : ([5, 5].all fun u => !Tryz.prog.wantsStandIn u) = true := by kernel_rfl
        exact (show Tryz.prog.wantsStandIn t = false by simpa using List.all_eq_true.1 hall t hm)⟩)
    (by kernel_rfl)
end Go.Proofs.YtdjmfapbaoddoaaGreatDoor.dialogNumbers
