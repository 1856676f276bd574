/-
  'lifelinelaw20.TargetLines' answers true for every input of the row, and leaves its arguments as they were.
  Conditions: the package-level variables that the row lists lie as the program's own text lays them (the card ties them to it; what is pinned is a constant of the library's).
-/
import Derived.Test.YtonloefjhofeeaaGreatDoorRows
import Derived.Test.YtonloefjhofeeaaGreatDoorBoardHex
import Derived.Test.YtonloefjhofeeaaGreatDoorFrame
import Derived.Test.YtonloefjhofeeaaGreatDoorFrameBoard
import Derived.Test.YtonloefjhofeeaaGreatDoorCards
import Derived.WalkKit
import Derived.ProofKit
import Derived.OpenShut
import Derived.ShutString
import Derived.ChangeOld
import Derived.Below
namespace Go.Proofs.YtonloefjhofeeaaGreatDoor.targetLines
open Go.ChangeShapes Go.WideShapes Go.ChangeAt Go.RowKit
open Go.ChangeMaps (open_string shut_string)
set_option linter.unusedVariables false

theorem own : ownKnob Tryz.prog.godebug = none := by kernel_rfl
theorem laidOut : laidOutB Tryz.prog = true := by kernel_rfl

set_option maxRecDepth 100000 in
set_option maxHeartbeats 8000000 in
theorem walk (x0 : Int) (x1 : Int) (x2 : Int) (x3 : Int) (w : World) (hS : Sup w) (h0 : 0 ≤ x0 ∧ x0 ≤ 4294967295) (h1 : 0 ≤ x1 ∧ x1 ≤ 4294967295) (h2 : 0 ≤ x2 ∧ x2 ≤ 4294967295) (h3 : -9223372036854775808 ≤ x3 ∧ x3 ≤ 9223372036854775807) :
    Calls Tryz.prog 4 #[.int .u32 x0, .int .u32 x1, .int .u32 x2, .int .i64 x3] w fun e w' => e = .returned (.bool true) ∧ Below w.heap.size w w' := by
  obtain ⟨a, rfl⟩ : ∃ a : Nat, x0 = (a : Int) := ⟨x0.toNat, by omega⟩
  obtain ⟨n, rfl⟩ : ∃ n : Nat, x1 = (n : Int) := ⟨x1.toNat, by omega⟩
  obtain ⟨q, rfl⟩ : ∃ q : Nat, x2 = (q : Int) := ⟨x2.toNat, by omega⟩
  obtain ⟨k, hk, hk3⟩ := way20_le x3
  have la := dig_sixteen (n := a) (by omega)
  have ln := dig_sixteen (n := n) (by omega)
  have lq := dig_sixteen (n := q) (by omega)
  have lw := (way_noblank (k : Int)).2
  have HAW := keepHid (awake_any20 w hS)
  have HHA := keepHid (fun w => hex_any a (by omega) w)
  have HHN := keepHid (fun w => hex_any n (by omega) w)
  have HHQ := keepHid (fun w => hex_any q (by omega) w)
  have HLI := keepHid (fun w h => line_any20 a n q (by omega) (by omega) (by omega) w h)
  have HLO := keepHid (fun w h => load_any20 x3 a (by omega) (by omega) w h)
  have HAS := keepHid (fun w h => ask_any20 a n (by omega) (by omega) w h)
  rw [hk] at HLO
  simp only [lin_is, load_is, ask_is] at HLI HLO HAS
  have k1 : ∀ w, (Op.stringOp .add ⟨#[115, 117, 109, 32]⟩ (strB (digL 16 a))).run Tryz.prog w = .ok (.string (strB ([115, 117, 109, 32] ++ digL 16 a))) w := fun w => run_strAdd _ _ (by simp only [List.length_cons, List.length_nil]; omega) w
  have k2 : ∀ w, (Op.stringOp .add (strB ([115, 117, 109, 32] ++ digL 16 a)) ⟨#[32]⟩).run Tryz.prog w = .ok (.string (strB ([115, 117, 109, 32] ++ digL 16 a ++ [32]))) w := fun w => run_strAdd _ _ (by simp only [List.length_append, List.length_cons, List.length_nil]; omega) w
  have k3 : ∀ w, (Op.stringOp .add (strB ([115, 117, 109, 32] ++ digL 16 a ++ [32])) (strB (digL 16 n))).run Tryz.prog w = .ok (.string (strB ([115, 117, 109, 32] ++ digL 16 a ++ [32] ++ digL 16 n))) w := fun w => run_strAdd _ _ (by simp only [List.length_append, List.length_cons, List.length_nil]; omega) w
  have k4 : ∀ w, (Op.stringOp .add (strB ([115, 117, 109, 32] ++ digL 16 a ++ [32] ++ digL 16 n)) ⟨#[32]⟩).run Tryz.prog w = .ok (.string (strB ([115, 117, 109, 32] ++ digL 16 a ++ [32] ++ digL 16 n ++ [32]))) w := fun w => run_strAdd _ _ (by simp only [List.length_append, List.length_cons, List.length_nil]; omega) w
  have k5 : ∀ w, (Op.stringOp .add (strB ([115, 117, 109, 32] ++ digL 16 a ++ [32] ++ digL 16 n ++ [32])) (strB (digL 16 q))).run Tryz.prog w = .ok (.string (strB ([115, 117, 109, 32] ++ digL 16 a ++ [32] ++ digL 16 n ++ [32] ++ digL 16 q))) w := fun w => run_strAdd _ _ (by simp only [List.length_append, List.length_cons, List.length_nil]; omega) w
  have k6 : ∀ w, (Op.stringOp .add (strB ([115, 117, 109, 32] ++ digL 16 a ++ [32] ++ digL 16 n ++ [32] ++ digL 16 q)) ⟨#[13, 10]⟩).run Tryz.prog w = .ok (.string (strB ([115, 117, 109, 32] ++ digL 16 a ++ [32] ++ digL 16 n ++ [32] ++ digL 16 q ++ [13, 10]))) w := fun w => run_strAdd _ _ (by simp only [List.length_append, List.length_cons, List.length_nil]; omega) w
  have j1 : ∀ w, (Op.stringOp .add ⟨#[108, 111, 97, 100, 32]⟩ (strB (wayL (k : Int)))).run Tryz.prog w = .ok (.string (strB ([108, 111, 97, 100, 32] ++ wayL (k : Int)))) w := fun w => run_strAdd _ _ (by simp only [List.length_cons, List.length_nil]; omega) w
  have j2 : ∀ w, (Op.stringOp .add (strB ([108, 111, 97, 100, 32] ++ wayL (k : Int))) ⟨#[32]⟩).run Tryz.prog w = .ok (.string (strB ([108, 111, 97, 100, 32] ++ wayL (k : Int) ++ [32]))) w := fun w => run_strAdd _ _ (by simp only [List.length_append, List.length_cons, List.length_nil]; omega) w
  have j3 : ∀ w, (Op.stringOp .add (strB ([108, 111, 97, 100, 32] ++ wayL (k : Int) ++ [32])) (strB (digL 16 a))).run Tryz.prog w = .ok (.string (strB ([108, 111, 97, 100, 32] ++ wayL (k : Int) ++ [32] ++ digL 16 a))) w := fun w => run_strAdd _ _ (by simp only [List.length_append, List.length_cons, List.length_nil]; omega) w
  have j4 : ∀ w, (Op.stringOp .add (strB ([108, 111, 97, 100, 32] ++ wayL (k : Int) ++ [32] ++ digL 16 a)) ⟨#[13]⟩).run Tryz.prog w = .ok (.string (strB ([108, 111, 97, 100, 32] ++ wayL (k : Int) ++ [32] ++ digL 16 a ++ [13]))) w := fun w => run_strAdd _ _ (by simp only [List.length_append, List.length_cons, List.length_nil]; omega) w
  have i4 : ∀ w, (Op.stringOp .add (strB ([115, 117, 109, 32] ++ digL 16 a ++ [32] ++ digL 16 n)) ⟨#[13]⟩).run Tryz.prog w = .ok (.string (strB ([115, 117, 109, 32] ++ digL 16 a ++ [32] ++ digL 16 n ++ [13]))) w := fun w => run_strAdd _ _ (by simp only [List.length_append, List.length_cons, List.length_nil]; omega) w
  have v1 : IntKind.i64.wrap (a : Int) = (a : Int) := by rw [IntKind.wrap_i64]; omega
  have v2 : IntKind.i64.wrap (n : Int) = (n : Int) := by rw [IntKind.wrap_i64]; omega
  have v3 : IntKind.i64.wrap (q : Int) = (q : Int) := by rw [IntKind.wrap_i64]; omega
  have hmm : max 0 (min x3 3) = (k : Int) := by unfold way20 at hk; omega
  have HS := keepHid hS
  have HWW : Hid (∀ w : World, (w.alloc (.cells wayVals 9)).cell? ⟨w.heap.size, k, none⟩ = some (.string (strB (wayL (k : Int))))) := keepHid (fun w => (show WaysAt (w.alloc (.cells wayVals 9)) w.heap.size from Blk.new w _ _).at_ hk3)
  generalize strB ([115, 117, 109, 32] ++ digL 16 a ++ [32] ++ digL 16 n ++ [32] ++ digL 16 q ++ [13, 10]) = R6 at *
  generalize strB ([115, 117, 109, 32] ++ digL 16 a ++ [32] ++ digL 16 n ++ [32] ++ digL 16 q) = R5 at *
  generalize strB ([115, 117, 109, 32] ++ digL 16 a ++ [32] ++ digL 16 n ++ [32]) = R4 at *
  generalize strB ([115, 117, 109, 32] ++ digL 16 a ++ [32] ++ digL 16 n ++ [13]) = U4 at *
  generalize strB ([115, 117, 109, 32] ++ digL 16 a ++ [32] ++ digL 16 n) = R3 at *
  generalize strB ([115, 117, 109, 32] ++ digL 16 a ++ [32]) = R2 at *
  generalize strB ([115, 117, 109, 32] ++ digL 16 a) = R1 at *
  generalize strB ([108, 111, 97, 100, 32] ++ wayL (k : Int) ++ [32] ++ digL 16 a ++ [13]) = L4 at *
  generalize strB ([108, 111, 97, 100, 32] ++ wayL (k : Int) ++ [32] ++ digL 16 a) = L3 at *
  generalize strB ([108, 111, 97, 100, 32] ++ wayL (k : Int) ++ [32]) = L2 at *
  generalize strB ([108, 111, 97, 100, 32] ++ wayL (k : Int)) = L1 at *
  generalize strB (digL 16 a) = XA at *
  generalize strB (digL 16 n) = XN at *
  generalize strB (digL 16 q) = XP at *
  generalize strB (wayL (k : Int)) = XW at *
  have e1 : (R6.toList == R6.toList) = true := by simp
  have e2 : (L4.toList == L4.toList) = true := by simp
  have e3 : (U4.toList == U4.toList) = true := by simp
  have hk4 : (k : Int) < 4 := by omega
  clear hS h0 h1 h2 h3 hk hk3 la ln lq lw
  go_enter Tryz.func4, Tryz.ntmps4
  go_wp2_with fail
  refine HAW.out.mono ?_
  rintro e w1 ⟨rfl, hb1⟩
  have HS1 := keepHid (HS.out.below hb1 (Nat.le_refl _))
  have HB1 := keepHid hb1
  clear hb1 HAW HS
  go_wp2_with fail
  refine (HHA.out _).mono ?_
  rintro e w2 ⟨rfl, rfl⟩
  go_wp2_with fail
  refine (HHN.out _).mono ?_
  rintro e w2 ⟨rfl, rfl⟩
  go_wp2_with fail
  refine (HHQ.out _).mono ?_
  rintro e w2 ⟨rfl, rfl⟩
  obtain ⟨w2, hw2⟩ : ∃ w2, w1.alloc (.cells #[.string ⟨#[99, 104, 101, 99, 107]⟩, .string ⟨#[99, 114, 99]⟩, .string ⟨#[108, 97, 114, 103, 101]⟩, .string ⟨#[98, 97, 116, 99, 104]⟩] 9) = w2 := ⟨_, rfl⟩
  have hc2 : w2.cell? ⟨w1.heap.size, k, none⟩ = some (.string XW) := by rw [← hw2]; exact HWW.out w1
  have hb2 : Below w1.heap.size w1 w2 := by rw [← hw2]; exact (Below.refl _ _).alloc (Nat.le_refl _) _
  have HS2 := keepHid (HS1.out.below hb2 (Nat.le_refl _))
  have HB2 := keepHid (HB1.out.trans (hb2.mono HB1.out.size))
  clear hb2 HS1 HB1 HWW HHA HHN HHQ
  go_wp2_with fail
  refine (HLI.out w2 HS2.out.four).mono ?_
  rintro e w3 ⟨rfl, hb3⟩
  have HS3 := keepHid (HS2.out.below hb3 (Nat.le_refl _))
  have HB3 := keepHid (HB2.out.trans (hb3.mono HB2.out.size))
  clear hb3 HS2 HB2 hc2 hw2
  go_wp2_with fail
  refine (HLO.out w3 HS3.out.four).mono ?_
  rintro e w4 ⟨rfl, hb4⟩
  have HS4 := keepHid (HS3.out.below hb4 (Nat.le_refl _))
  have HB4 := keepHid (HB3.out.trans (hb4.mono HB3.out.size))
  clear hb4 HS3 HB3
  go_wp2_with fail
  refine (HAS.out w4 HS4.out.four).mono ?_
  rintro e w5 ⟨rfl, hb5⟩
  have HB5 := keepHid (HB4.out.trans (hb5.mono HB4.out.size))
  clear hb5 HS4 HB4
  go_wp2
  go_ret
  exact ⟨rfl, HB5.out⟩

set_option maxRecDepth 100000 in
theorem lifted (os : Os) (started : os.Started) (H : Type) (enc : TypeId × Value → H) :
    ReturnsInHanded {} Tryz.checked os 4 .any (fun w args => (Rows.targetLinesSpec.pre enc Tryz.prog Tryz.f4 [] false w args ∧ laidMetH Tryz.prog laid7 w) ∧ sizedMet enc Tryz.prog Tryz.f4 (OpenSpec.ofChange Rows.targetLinesSpec) false w args) (Rows.targetLinesSpec.post enc Tryz.prog Tryz.f4 false true false false) := by
  refine returnsInHanded_of_change_and (C := Tryz.checked) (X := fun w _ => laidMetH Tryz.prog laid7 w) (fun _ _ _ hh h => h.of_heap hh) own started (by kernel_rfl) Tryz.func4
    (ChangeSpec.witness_shaped (enc := enc) (C := Tryz.checked) (os := os) (X := fun w _ => laidMetH Tryz.prog laid7 w) false (worldF os) #[.int .u32 0, .int .u32 0, .int .u32 0, .int .i64 0] 8 (worldF_os os) (World.shaped_of_RefB (by kernel_rfl) (by kernel_rfl)) (by kernel_rfl) (by kernel_rfl) (by kernel_rfl) (door7 os _)) ?_
  intro W base args ds gs before hval0 hW hcnd hsz0 hL _
  have hsz : (DataW.weightsEach Tryz.prog (Tryz.f4.params.toList ++ Rows.targetLinesSpec.plain.varTypes Tryz.prog) (ds ++ gs)).all (· ≤ reachBytes) = true := hsz0
  clear hsz0
  have hval : ∀ (j : Nat) t v, Tryz.f4.params[j]? = some t → args[j]? = some v → Value.okWide Tryz.prog W .any base t v := hval0
  have hW' := hW
  obtain ⟨p, q, hA0, hV, rfl, hfz, hnd⟩ := hW
  have hA : DataW.TrodAll enc Tryz.prog W 0 (fun _ => true) true Tryz.f4.params.toList args.toList ds p := hA0
  rw [Tryz.params4] at hA hval hsz
  obtain ⟨v0, vs0, d0, ds0, p0, q0, hargs, rfl, rfl, h0, r0⟩ := trodAll_cons hA
  obtain ⟨v1, vs1, d1, ds1, p1, q1, rfl, rfl, rfl, h1, r1⟩ := trodAll_cons r0
  obtain ⟨v2, vs2, d2, ds2, p2, q2, rfl, rfl, rfl, h2, r2⟩ := trodAll_cons r1
  obtain ⟨v3, vs3, d3, ds3, p3, q3, rfl, rfl, rfl, h3, r3⟩ := trodAll_cons r2
  obtain ⟨rfl, rfl, rfl⟩ := trodAll_nil r3
  obtain rfl : args = #[v0, v1, v2, v3] := by cases args; simp_all
  obtain ⟨rfl, rfl⟩ := trodVars_none hV
  have k0 := h0
  have lt0 : ∀ x ∈ p0, x.block < W.heap.size := by obtain ⟨m, hm⟩ := k0; exact DataW.trod_lt m _ _ _ hm
  have k1 := h1
  have lt1 : ∀ x ∈ p1, x.block < W.heap.size := by obtain ⟨m, hm⟩ := k1; exact DataW.trod_lt m _ _ _ hm
  have k2 := h2
  have lt2 : ∀ x ∈ p2, x.block < W.heap.size := by obtain ⟨m, hm⟩ := k2; exact DataW.trod_lt m _ _ _ hm
  have k3 := h3
  have lt3 : ∀ x ∈ p3, x.block < W.heap.size := by obtain ⟨m, hm⟩ := k3; exact DataW.trod_lt m _ _ _ hm
  obtain ⟨x0, rfl, rfl, rfl, w0⟩ := open_int Tryz.underlying49 (hval 0 49 v0 rfl rfl) h0
  obtain ⟨x1, rfl, rfl, rfl, w1⟩ := open_int Tryz.underlying49 (hval 1 49 v1 rfl rfl) h1
  obtain ⟨x2, rfl, rfl, rfl, w2⟩ := open_int Tryz.underlying49 (hval 2 49 v2 rfl rfl) h2
  obtain ⟨x3, rfl, rfl, rfl, w3⟩ := open_int Tryz.underlying3 (hval 3 3 v3 rfl rfl) h3
  clear hA0 hval0
  refine (walk x0 x1 x2 x3 W (sup7 hL) (wf_u32 w0) (wf_u32 w1) (wf_u32 w2) (wf_i64 w3)).mono fun e W' ⟨he, bel⟩ => ?_
  subst he
  exact ⟨_, rfl, _, _, _, [], _, [], hW', trodAll_mk1 (shut_bool Tryz.underlying4 _), (trodAll_cons_mk (Below.trod laidOut (by kernel_rfl) (of_decide_eq_true (by kernel_rfl)) k0 bel lt0) (trodAll_cons_mk (Below.trod laidOut (by kernel_rfl) (of_decide_eq_true (by kernel_rfl)) k1 bel lt1) (trodAll_cons_mk (Below.trod laidOut (by kernel_rfl) (of_decide_eq_true (by kernel_rfl)) k2 bel lt2) (trodAll_cons_mk (Below.trod laidOut (by kernel_rfl) (of_decide_eq_true (by kernel_rfl)) k3 bel lt3) trodAll_mk0)))), rfl, bel.frame _, fun h => by cases h⟩

theorem over : Rows.targetLinesRow.holds Tryz.pinned (OpenSpec.ofChange Rows.targetLinesSpec) :=
  OpenClaim.holds_of_wide 4 Tryz.f4 rfl rfl rfl rfl rfl rfl rfl ⟨rfl, rfl, rfl, rfl, rfl⟩ rfl rfl rfl rfl rfl (by kernel_rfl) Tryz.func4 (by kernel_rfl)
    (of_decide_eq_true (by kernel_rfl)) (by unfold Func.isWrapper; first | (rw [if_pos (by decide +kernel)]; kernel_rfl) | (rw [if_neg (by decide +kernel)]; exact ⟨rfl, rfl⟩))
    (fun os started H enc _ => lifted os started H enc)

/-- The card: what the row lists is tied to the program's own text. -/
theorem proved : Rows.TargetLinesCardSaid :=
  Claim7.holds_tied_plain_at .later [] [.data, .data, .data, .data, .sentinel, .sentinel, .pinned] true Rows.targetLinesCard.stood.harness true
    over (fun _ h => by cases h) (by kernel_rfl) (fun _ h => by cases h) targetLines_row_tie rfl ⟨rfl, rfl⟩ (by kernel_rfl) rfl
    (fun f fn hf hfn => by
      obtain rfl : f = 4 := Option.some.inj ((show Tryz.prog.funcNamed "lifeline/lifelinelaw20.TargetLines" = some 4 by kernel_rfl).symm.trans hf) |>.symm
      obtain rfl : fn = Tryz.f4 := (Option.some.inj (Tryz.func4.symm.trans hfn)).symm
      exact ⟨by kernel_rfl, fun j t ht => by
        rw [Tryz.params4] at ht
        have hm : t ∈ [49, 49, 49, 3] := by simpa using Array.mem_of_getElem? ht
        have hall : ([49, 49, 49, 3].all fun u => !Tryz.prog.wantsStandIn u) = true := by kernel_rfl
        exact (show Tryz.prog.wantsStandIn t = false by simpa using List.all_eq_true.1 hall t hm)⟩)
    (by kernel_rfl)
end Go.Proofs.YtonloefjhofeeaaGreatDoor.targetLines
