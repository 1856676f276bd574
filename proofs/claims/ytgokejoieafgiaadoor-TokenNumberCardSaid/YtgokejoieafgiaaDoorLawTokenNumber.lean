/-
  'lifelinelaw15.TokenNumber' answers true for every input of the row, and leaves its arguments as they were.
  Conditions: the package-level variables that the row lists lie as the program's own text lays them (the card ties them to it; what is pinned is a constant of the library's).
-/
import Derived.Test.YtgokejoieafgiaaDoorRows
import Derived.Test.YtgokejoieafgiaaDoorTokenMore2
import Derived.Test.YtgokejoieafgiaaDoorFrame
import Derived.Test.YtgokejoieafgiaaDoorFrameEight
import Derived.Test.YtgokejoieafgiaaDoorCards
import Derived.Test.YtgokejoieafgiaaDoorTokenAwake
import Derived.Test.YtgokejoieafgiaaDoorErrUse
import Derived.Test.YtgokejoieafgiaaDoorTokenDigits
import Derived.Lib.QuietBelow
import Derived.Deep.DeepCutAuto
import Derived.OwnWalk
import Derived.WalkKit
import Derived.ProofKit
import Derived.OpenShut
import Derived.ShutString
import Derived.ChangeOld
import Derived.Below
namespace Go.Proofs.YtgokejoieafgiaaDoor.tokenNumber
open Go.ChangeShapes Go.WideShapes Go.ChangeAt Go.RowKit
open Go.ChangeMaps (open_string shut_string)
set_option linter.unusedVariables false

theorem own : ownKnob Tryd.prog.godebug = none := by kernel_rfl
theorem laidOut : laidOutB Tryd.prog = true := by kernel_rfl

/-- A number that is one, and what is none: by their texts. -/
theorem cut_good {s : List UInt8} {n k : Nat} (h : cutR s 0 = .ok [⟨2, s, n, 0⟩, ⟨0, [], 0, k⟩]) (hl : s.length ≤ 4096) (w : World) (hE : Errs w) :
    Calls Tryd.prog 9 #[.string (strB s)] w fun e w' => (∃ g c, e = .returned (.tuple #[.slice (some ⟨g, 0, none⟩) 2 c, .nilIface]) ∧ 2 ≤ c ∧ c ≤ 9223372036854775807 ∧ w'.cell? ⟨g, 0, none⟩ = some (.int .i64 2) ∧ w'.cell? ⟨g, 1, none⟩ = some (.string (strB s)) ∧ w'.cell? ⟨g, 2, none⟩ = some (.int .i64 (n : Int))) ∧ Below w.heap.size w w' := by
  refine (cut_any s hl w hE).mono ?_
  rintro e w4 ⟨⟨p, hp, rfl⟩ | ⟨ts, A, m, c, hts, rfl, hown⟩, hb4⟩
  · rw [h] at hp; cases hp
  · rw [h] at hts
    obtain rfl := Except.ok.inj hts
    have hm := hown.len
    obtain rfl : m = 2 := hm.symm
    obtain ⟨g, rfl, gl, a0, a1, a2, _⟩ := hown.tkr.at_ (k := 0) rfl
    obtain ⟨A', c', e0, hnc, hc63, _⟩ := hown.form
    obtain rfl : c = c' := by injection e0 with e1 e2 e3
    exact ⟨⟨g, c, rfl, hnc, hc63, a0, a1, a2⟩, hb4⟩
theorem cut_bad {s : List UInt8} (h : cutR s 0 = .error 0) (hl : s.length ≤ 4096) (w : World) (hE : Errs w) :
    Calls Tryd.prog 9 #[.string (strB s)] w fun e w' => e = .returned (.tuple #[.slice none 0 0, faultV 1 0]) ∧ Below w.heap.size w w' := by
  refine (cut_any s hl w hE).mono ?_
  rintro e w4 ⟨⟨p, hp, rfl⟩ | ⟨ts, A, m, c, hts, rfl, hown⟩, hb4⟩
  · rw [h] at hp
    obtain rfl : 0 = p := by injection hp
    exact ⟨rfl, hb4⟩
  · rw [h] at hts; cases hts
set_option maxRecDepth 100000 in
set_option maxHeartbeats 8000000 in
theorem walkL (n m : Nat) (b : Bool) (w : World) (hE : Errs w) (hR : ErrT w) (hn : n < 4294967296) (hm : m < 256) :
    Calls Tryd.prog 5 #[.int .u32 (n : Int), .bool b, .int .u8 (m : Int)] w fun e w' => e = .returned (.bool true) ∧ Below w.heap.size w w' := by
  have HA := keepHid (awake_any w hE)
  have HE := keepHid hE
  have HR := keepHid hR
  have hnI : (n : Int) ≤ 4294967295 := by omega
  have hmI : (m : Int) ≤ 255 := by omega
  have HD10 : Hid (∀ w, Calls Tryd.prog 16 #[.int .u64 (n : Int), .int .u64 10] w fun e w' => e = .returned (.string (strB (digL 10 n))) ∧ Below w.heap.size w w') := keepHid (digits_any 10 (.inl rfl) n (by omega))
  have HD16 : Hid (∀ w, Calls Tryd.prog 16 #[.int .u64 (n : Int), .int .u64 16] w fun e w' => e = .returned (.string (strB (digL 16 n))) ∧ Below w.heap.size w w') := keepHid (digits_any 16 (.inr rfl) n (by omega))
  have HDB : Hid (∀ w, Calls Tryd.prog 16 #[.int .u64 (4294967296 + (m : Int)), .int .u64 16] w fun e w' => e = .returned (.string (strB (digL 16 (4294967296 + m)))) ∧ Below w.heap.size w w') := keepHid (by
    have h := digits_any 16 (.inr rfl) (4294967296 + m) (by omega)
    have e : ((4294967296 + m : Nat) : Int) = 4294967296 + (m : Int) := by omega
    rw [e] at h
    exact h)
  have l10 := dig_len (b := 10) (.inl rfl) (n := n) (by omega)
  have l16 := dig_len (b := 16) (.inr rfl) (n := n) (by omega)
  have lB := dig_len (b := 16) (.inr rfl) (n := 4294967296 + m) (by omega)
  have hadd1 : ∀ w, (Op.stringOp .add ⟨#[48, 120]⟩ (strB (digL 16 n))).run Tryd.prog w = .ok (.string (strB (48 :: 120 :: digL 16 n))) w := fun w => run_strAdd [48, 120] (digL 16 n) (by simp; omega) w
  have hadd2 : ∀ w, (Op.stringOp .add ⟨#[48, 120]⟩ (strB (digL 16 (4294967296 + m)))).run Tryd.prog w = .ok (.string (strB (48 :: 120 :: digL 16 (4294967296 + m)))) w := fun w => run_strAdd [48, 120] (digL 16 (4294967296 + m)) (by simp; omega) w
  have hadd3 : ∀ w, (Op.stringOp .add ⟨#[48]⟩ (strB (digL 10 n))).run Tryd.prog w = .ok (.string (strB (48 :: digL 10 n))) w := fun w => run_strAdd [48] (digL 10 n) (by simp; omega) w
  have HG10 := keepHid (cut_good (cut_n10 n hn) (by omega))
  have HG16 := keepHid (cut_good (cut_n16 n hn) (by simp; omega))
  have HB16 := keepHid (cut_bad (cut_b16 (4294967296 + m) (by omega)) (by simp; omega))
  have HB10 := keepHid (cut_bad (cut_b10 n) (by simp; omega))
  have hse10 : ((strB (digL 10 n)).toList != (strB (digL 10 n)).toList) = false := by rw [bne, strB_same rfl]; rfl
  have hse16 : ((strB (48 :: 120 :: digL 16 n)).toList != (strB (48 :: 120 :: digL 16 n)).toList) = false := by rw [bne, strB_same rfl]; rfl
  have hs10 : ((strB (digL 10 n)).toList == (strB (digL 10 n)).toList) = true := strB_same rfl
  have hs16 : ((strB (48 :: 120 :: digL 16 n)).toList == (strB (48 :: 120 :: digL 16 n)).toList) = true := strB_same rfl
  generalize strB (48 :: 120 :: digL 16 n) = X16 at *
  generalize strB (48 :: 120 :: digL 16 (4294967296 + m)) = XB at *
  generalize strB (48 :: digL 10 n) = X0 at *
  generalize strB (digL 10 n) = X10 at *
  generalize strB (digL 16 (4294967296 + m)) = YB at *
  generalize strB (digL 16 n) = Y16 at *
  clear hE hR l10 l16 lB hn hm
  cases b
  · go_enter Tryd.func5, Tryd.ntmps5
    go_wp2_with fail
    refine HA.out.mono ?_
    rintro e w1 ⟨rfl, hb1⟩
    have HB1 := keepHid hb1
    have HE1 := keepHid (HE.out.below hb1 (Nat.le_refl _))
    have HR1 := keepHid (HR.out.below hb1 HR.out.pos)
    clear hb1 HA
    go_wp2_with fail
    refine (HD10.out _).mono ?_
    rintro e w2 ⟨rfl, hb2⟩
    have HB2 := keepHid (HB1.out.trans (hb2.mono HB1.out.size))
    have HE2 := keepHid (HE1.out.below hb2 (Nat.le_refl _))
    have HR2 := keepHid (HR1.out.below hb2 HR1.out.pos)
    clear hb2
    go_wp2_with fail
    refine (HG10.out _ HE2.out).mono ?_
    rintro e w3 ⟨⟨g, c, rfl, hc1, hc2, a0, a1, a2⟩, hb3⟩
    have HB3 := keepHid (HB2.out.trans (hb3.mono HB2.out.size))
    have HE3 := keepHid (HE2.out.below hb3 (Nat.le_refl _))
    have HR3 := keepHid (HR2.out.below hb3 HR2.out.pos)
    clear hb3
    go_wp2_with fail
    refine (HDB.out _).mono ?_
    rintro e w4 ⟨rfl, hb4⟩
    have HB4 := keepHid (HB3.out.trans (hb4.mono HB3.out.size))
    have HE4 := keepHid (HE3.out.below hb4 (Nat.le_refl _))
    have HR4 := keepHid (HR3.out.below hb4 HR3.out.pos)
    clear hb4 a0 a1 a2
    go_wp2_with fail
    refine (HB10.out _ HE4.out).mono ?_
    rintro e w5 ⟨rfl, hb5⟩
    have HB5 := keepHid (HB4.out.trans (hb5.mono HB4.out.size))
    have HR5 := keepHid (HR4.out.below hb5 HR4.out.pos)
    clear hb5
    go_wp2_with fail
    refine (number_any 1 0 _ HR5.out).mono ?_
    rintro e w6 ⟨rfl, hb6⟩
    have HB6 := keepHid (HB5.out.trans (hb6.mono HB5.out.size))
    have HR6 := keepHid (HR5.out.below hb6 HR5.out.pos)
    clear hb6
    go_wp2_with fail
    refine (place_any 1 0 _ HR6.out).mono ?_
    rintro e w7 ⟨rfl, hb7⟩
    have HB7 := keepHid (HB6.out.trans (hb7.mono HB6.out.size))
    clear hb7
    go_wp2
    go_ret
    exact ⟨rfl, HB7.out⟩
  · go_enter Tryd.func5, Tryd.ntmps5
    go_wp2_with fail
    refine HA.out.mono ?_
    rintro e w1 ⟨rfl, hb1⟩
    have HB1 := keepHid hb1
    have HE1 := keepHid (HE.out.below hb1 (Nat.le_refl _))
    have HR1 := keepHid (HR.out.below hb1 HR.out.pos)
    clear hb1 HA
    go_wp2_with fail
    refine (HD10.out _).mono ?_
    rintro e w2 ⟨rfl, hb2⟩
    have HB2 := keepHid (HB1.out.trans (hb2.mono HB1.out.size))
    have HE2 := keepHid (HE1.out.below hb2 (Nat.le_refl _))
    have HR2 := keepHid (HR1.out.below hb2 HR1.out.pos)
    clear hb2
    go_wp2_with fail
    refine (HD16.out _).mono ?_
    rintro e w2' ⟨rfl, hb2'⟩
    have HB2' := keepHid (HB2.out.trans (hb2'.mono HB2.out.size))
    have HE2' := keepHid (HE2.out.below hb2' (Nat.le_refl _))
    have HR2' := keepHid (HR2.out.below hb2' HR2.out.pos)
    clear hb2'
    go_wp2_with fail
    refine (HG16.out _ HE2'.out).mono ?_
    rintro e w3 ⟨⟨g, c, rfl, hc1, hc2, a0, a1, a2⟩, hb3⟩
    have HB3 := keepHid (HB2'.out.trans (hb3.mono HB2'.out.size))
    have HE3 := keepHid (HE2'.out.below hb3 (Nat.le_refl _))
    have HR3 := keepHid (HR2'.out.below hb3 HR2'.out.pos)
    clear hb3
    go_wp2_with fail
    refine (HDB.out _).mono ?_
    rintro e w4 ⟨rfl, hb4⟩
    have HB4 := keepHid (HB3.out.trans (hb4.mono HB3.out.size))
    have HE4 := keepHid (HE3.out.below hb4 (Nat.le_refl _))
    have HR4 := keepHid (HR3.out.below hb4 HR3.out.pos)
    clear hb4 a0 a1 a2
    go_wp2_with fail
    refine (HB16.out _ HE4.out).mono ?_
    rintro e w5 ⟨rfl, hb5⟩
    have HB5 := keepHid (HB4.out.trans (hb5.mono HB4.out.size))
    have HR5 := keepHid (HR4.out.below hb5 HR4.out.pos)
    clear hb5
    go_wp2_with fail
    refine (number_any 1 0 _ HR5.out).mono ?_
    rintro e w6 ⟨rfl, hb6⟩
    have HB6 := keepHid (HB5.out.trans (hb6.mono HB5.out.size))
    have HR6 := keepHid (HR5.out.below hb6 HR5.out.pos)
    clear hb6
    go_wp2_with fail
    refine (place_any 1 0 _ HR6.out).mono ?_
    rintro e w7 ⟨rfl, hb7⟩
    have HB7 := keepHid (HB6.out.trans (hb7.mono HB6.out.size))
    clear hb7
    go_wp2
    go_ret
    exact ⟨rfl, HB7.out⟩
theorem walk (x0 : Int) (x1 : Bool) (x2 : Int) (w : World) (hE : Errs w) (hR : ErrT w) (h0 : 0 ≤ x0 ∧ x0 ≤ 4294967295) (h2 : 0 ≤ x2 ∧ x2 ≤ 255) :
    Calls Tryd.prog 5 #[.int .u32 x0, .bool x1, .int .u8 x2] w fun e w' => e = .returned (.bool true) ∧ Below w.heap.size w w' := by
  obtain ⟨n, rfl⟩ : ∃ n : Nat, x0 = (n : Int) := ⟨x0.toNat, by omega⟩
  obtain ⟨m, rfl⟩ : ∃ m : Nat, x2 = (m : Int) := ⟨x2.toNat, by omega⟩
  exact walkL n m x1 w hE hR (by omega) (by omega)

set_option maxRecDepth 100000 in
theorem lifted (os : Os) (started : os.Started) (H : Type) (enc : TypeId × Value → H) :
    ReturnsInHanded {} Tryd.checked os 5 .any (fun w args => (Rows.tokenNumberSpec.pre enc Tryd.prog Tryd.f5 [] false w args ∧ laidMetH Tryd.prog laid8 w) ∧ sizedMet enc Tryd.prog Tryd.f5 (OpenSpec.ofChange Rows.tokenNumberSpec) false w args) (Rows.tokenNumberSpec.post enc Tryd.prog Tryd.f5 false true false false) := by
  refine returnsInHanded_of_change_and (C := Tryd.checked) (X := fun w _ => laidMetH Tryd.prog laid8 w) (fun _ _ _ hh h => h.of_heap hh) own started (by kernel_rfl) Tryd.func5
    (ChangeSpec.witness_shaped (enc := enc) (C := Tryd.checked) (os := os) (X := fun w _ => laidMetH Tryd.prog laid8 w) false (worldF os) #[.int .u32 0, .bool false, .int .u8 0] 8 (worldF_os os) (World.shaped_of_RefB (by kernel_rfl) (by kernel_rfl)) (by kernel_rfl) (by kernel_rfl) (by kernel_rfl) (door8 os _)) ?_
  intro W base args ds gs before hval0 hW hcnd hsz0 hL _
  have hsz : (DataW.weightsEach Tryd.prog (Tryd.f5.params.toList ++ Rows.tokenNumberSpec.plain.varTypes Tryd.prog) (ds ++ gs)).all (· ≤ reachBytes) = true := hsz0
  clear hsz0
  have hval : ∀ (j : Nat) t v, Tryd.f5.params[j]? = some t → args[j]? = some v → Value.okWide Tryd.prog W .any base t v := hval0
  have hW' := hW
  obtain ⟨p, q, hA0, hV, rfl, hfz, hnd⟩ := hW
  have hA : DataW.TrodAll enc Tryd.prog W 0 (fun _ => true) true Tryd.f5.params.toList args.toList ds p := hA0
  rw [Tryd.params5] at hA hval hsz
  obtain ⟨v0, vs0, d0, ds0, p0, q0, hargs, rfl, rfl, h0, r0⟩ := trodAll_cons hA
  obtain ⟨v1, vs1, d1, ds1, p1, q1, rfl, rfl, rfl, h1, r1⟩ := trodAll_cons r0
  obtain ⟨v2, vs2, d2, ds2, p2, q2, rfl, rfl, rfl, h2, r2⟩ := trodAll_cons r1
  obtain ⟨rfl, rfl, rfl⟩ := trodAll_nil r2
  obtain rfl : args = #[v0, v1, v2] := by cases args; simp_all
  obtain ⟨rfl, rfl⟩ := trodVars_none hV
  have k0 := h0
  have lt0 : ∀ x ∈ p0, x.block < W.heap.size := by obtain ⟨m, hm⟩ := k0; exact DataW.trod_lt m _ _ _ hm
  have k1 := h1
  have lt1 : ∀ x ∈ p1, x.block < W.heap.size := by obtain ⟨m, hm⟩ := k1; exact DataW.trod_lt m _ _ _ hm
  have k2 := h2
  have lt2 : ∀ x ∈ p2, x.block < W.heap.size := by obtain ⟨m, hm⟩ := k2; exact DataW.trod_lt m _ _ _ hm
  obtain ⟨x0, rfl, rfl, rfl, w0⟩ := open_int Tryd.underlying40 (hval 0 40 v0 rfl rfl) h0
  obtain ⟨x1, rfl, rfl, rfl⟩ := open_bool Tryd.underlying4 (hval 1 4 v1 rfl rfl) h1
  obtain ⟨x2, rfl, rfl, rfl, w2⟩ := open_int Tryd.underlying5 (hval 2 5 v2 rfl rfl) h2
  clear hA0 hval0
  refine (walk x0 x1 x2 W (errs8 hL) (errT8 hL) (wf_u32 w0) (wf_u8 w2)).mono fun e W' ⟨he, bel⟩ => ?_
  subst he
  exact ⟨_, rfl, _, _, _, [], _, [], hW', trodAll_mk1 (shut_bool Tryd.underlying4 _), (trodAll_cons_mk (Below.trod laidOut (by kernel_rfl) (of_decide_eq_true (by kernel_rfl)) k0 bel lt0) (trodAll_cons_mk (Below.trod laidOut (by kernel_rfl) (of_decide_eq_true (by kernel_rfl)) k1 bel lt1) (trodAll_cons_mk (Below.trod laidOut (by kernel_rfl) (of_decide_eq_true (by kernel_rfl)) k2 bel lt2) trodAll_mk0))), rfl, bel.frame _, fun h => by cases h⟩

theorem over : Rows.tokenNumberRow.holds Tryd.pinned (OpenSpec.ofChange Rows.tokenNumberSpec) :=
  OpenClaim.holds_of_wide 5 Tryd.f5 rfl rfl rfl rfl rfl rfl rfl ⟨rfl, rfl, rfl, rfl, rfl⟩ rfl rfl rfl rfl rfl (by kernel_rfl) Tryd.func5 (by kernel_rfl)
    (of_decide_eq_true (by kernel_rfl)) (by unfold Func.isWrapper; first | (rw [if_pos (by decide +kernel)]; kernel_rfl) | (rw [if_neg (by decide +kernel)]; exact ⟨rfl, rfl⟩))
    (fun os started H enc _ => lifted os started H enc)

/-- The card: what the row lists is tied to the program's own text. -/
theorem proved : Rows.TokenNumberCardSaid :=
  Claim7.holds_tied_plain_at .later [] [.data, .data, .data, .data, .handle, .sentinel, .sentinel, .pinned] true Rows.tokenNumberCard.stood.harness true
    over (fun _ h => by cases h) (by kernel_rfl) (fun _ h => by cases h) tokenNumber_row_tie rfl ⟨rfl, rfl⟩ (by kernel_rfl) rfl
    (fun f fn hf hfn => by
      obtain rfl : f = 5 := Option.some.inj ((show Tryd.prog.funcNamed "lifeline/lifelinelaw15.TokenNumber" = some 5 by kernel_rfl).symm.trans hf) |>.symm
      obtain rfl : fn = Tryd.f5 := (Option.some.inj (Tryd.func5.symm.trans hfn)).symm
      exact ⟨by kernel_rfl, fun j t ht => by
        rw [Tryd.params5] at ht
        have hm : t ∈ [40, 4, 5] := by simpa using Array.mem_of_getElem? ht
        have hall : ([40, 4, 5].all fun u => !Tryd.prog.wantsStandIn u) = true := by kernel_rfl
        exact (show Tryd.prog.wantsStandIn t = false by simpa using List.all_eq_true.1 hall t hm)⟩)
    (by kernel_rfl)
end Go.Proofs.YtgokejoieafgiaaDoor.tokenNumber
