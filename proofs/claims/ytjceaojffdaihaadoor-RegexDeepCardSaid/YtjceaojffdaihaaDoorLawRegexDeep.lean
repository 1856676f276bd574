/-
  'lifelinelaw06.RegexDeep' answers true for every input of the row, and leaves its arguments as they were.
  Conditions: the package-level variables that the row lists lie as the program's own text lays them (the card ties them to it; what is pinned is a constant of the library's).
-/
import Derived.Test.YtjceaojffdaihaaDoorRows
import Derived.Test.YtjceaojffdaihaaDoorRegexAwake
import Derived.Test.YtjceaojffdaihaaDoorFrame
import Derived.Test.YtjceaojffdaihaaDoorFrameRegex
import Derived.Test.YtjceaojffdaihaaDoorCards
import Derived.WalkKit
import Derived.ProofKit
import Derived.OpenShut
import Derived.ShutString
import Derived.ChangeOld
import Derived.Below
import Derived.WalkLawsBesides
import Derived.IntWalk
import Derived.Deep.QuietTactic
import Derived.BigQuiet
import Derived.Outline
namespace Go.Proofs.YtjceaojffdaihaaDoor.regexDeep
open Go.ChangeShapes Go.WideShapes Go.ChangeAt Go.RowKit
open Go.ChangeMaps (open_string shut_string)
set_option linter.unusedVariables false

theorem own : ownKnob Tryd.prog.godebug = none := by kernel_rfl
theorem laidOut : laidOutB Tryd.prog = true := by kernel_rfl

def tailL (k : Nat) (t : Bool) : List UInt8 := if t then List.replicate k 41 ++ [98] else List.replicate k 41
def deepL (k : Nat) (t : Bool) : List UInt8 := List.replicate k 40 ++ [97] ++ tailL k t
def deepB (k : Nat) (t : Bool) : Bool := if 6 < k then decide (parseF (deepL k t) = (none, 6)) else ((parseF (deepL k t)).1.isSome && decide ((parseF (deepL k t)).2 = (deepL k t).length))
theorem deep_all : ∀ k : Fin 12, ∀ t : Bool, deepB k.val t = true := by decide +kernel
theorem deep_len (k : Nat) (t : Bool) (hk : k < 12) : (deepL k t).length ≤ 64 := by
  unfold deepL tailL
  cases t <;> simp <;> omega
theorem deep_bad (k : Nat) (t : Bool) (hk : k < 12) (h6 : 6 < k) : parseF (deepL k t) = (none, 6) := by
  have h := deep_all ⟨k, hk⟩ t
  unfold deepB at h
  rw [if_pos h6] at h
  exact of_decide_eq_true h
theorem deep_good (k : Nat) (t : Bool) (hk : k < 12) (h6 : ¬ 6 < k) : ∃ r, parseF (deepL k t) = (some r, (deepL k t).length) := by
  have h := deep_all ⟨k, hk⟩ t
  unfold deepB at h
  rw [if_neg h6] at h
  simp only [Bool.and_eq_true, decide_eq_true_eq] at h
  obtain ⟨h1, h2⟩ := h
  obtain ⟨r, hr⟩ := Option.isSome_iff_exists.1 h1
  exact ⟨r, Prod.ext hr h2⟩

set_option maxHeartbeats 2000000 in
theorem walk (x0 : Int) (x1 : Bool) (w : World) (hT : ErrT w) (h0 : 0 ≤ x0 ∧ x0 ≤ 255) :
    Calls Tryd.prog 7 #[.int .u8 x0, .bool x1] w fun e w' => e = .returned (.bool true) ∧ Below w.heap.size w w' := by
  obtain ⟨k, hk⟩ : ∃ k : Nat, x0 % 12 = (k : Int) := ⟨(x0 % 12).toNat, by omega⟩
  have hk12 : k < 12 := by omega
  have HK := keepHid hk12
  have HA := keepHid (awake_any w hT)
  have HT := keepHid hT
  clear hT
  go_enter Tryd.func7, Tryd.ntmps7
  go_wp2_with fail
  refine HA.out.mono ?_
  rintro e w1 ⟨rfl, hb1⟩
  have HB1 := keepHid hb1
  have HT1 := keepHid (HT.out.below hb1 HT.out.pos)
  clear hb1 HA
  go_wp2_with fail
  go_loopw [6, 7, 8] (fun sv tv iv wr => ∃ i : Nat, i ≤ k ∧ sv = .string (strB (List.replicate i 40)) ∧ tv = .string (strB (List.replicate i 41)) ∧ iv = .int .i64 (i : Int) ∧ wr = w1) (fun _ _ iv _ => k - (intOf iv).toNat)
  case atStart => exact ⟨0, Nat.zero_le _, rfl, rfl, rfl, rfl⟩
  case round =>
    obtain ⟨i, hi, rfl, rfl, rfl, rfl⟩ := hrel
    by_cases hlt : i < k
    · have a1 : ∀ w, (Op.stringOp .add (strB (List.replicate i 40)) ⟨#[40]⟩).run Tryd.prog w = .ok (.string (strB (List.replicate (i + 1) 40))) w := fun w => by
        rw [List.replicate_succ']; exact run_strAdd (List.replicate i 40) [40] (by simp; omega) w
      have a2 : ∀ w, (Op.stringOp .add (strB (List.replicate i 41)) ⟨#[41]⟩).run Tryd.prog w = .ok (.string (strB (List.replicate (i + 1) 41))) w := fun w => by
        rw [List.replicate_succ']; exact run_strAdd (List.replicate i 41) [41] (by simp; omega) w
      generalize strB (List.replicate i 40) = s1 at *
      generalize strB (List.replicate i 41) = s2 at *
      go_wp2_with fail
      go_roundw
      case rel => exact ⟨i + 1, by omega, rfl, rfl, by go_num, by first | rfl | trivial⟩
      case measure => simp [intOf]; omega
    · obtain rfl : i = k := by omega
      have a3 : ∀ w, (Op.stringOp .add (strB (List.replicate i 41)) ⟨#[98]⟩).run Tryd.prog w = .ok (.string (strB (tailL i true))) w := fun w => run_strAdd (List.replicate i 41) [98] (by simp; omega) w
      have a4 : ∀ w, (Op.stringOp .add (strB (List.replicate i 40)) ⟨#[97]⟩).run Tryd.prog w = .ok (.string (strB (List.replicate i 40 ++ [97]))) w := fun w => run_strAdd (List.replicate i 40) [97] (by simp; omega) w
      have a5 : ∀ w, (Op.stringOp .add (strB (List.replicate i 40 ++ [97])) (strB (tailL i x1))).run Tryd.prog w = .ok (.string (strB (deepL i x1))) w := fun w => run_strAdd _ _ (by unfold tailL; cases x1 <;> simp <;> omega) w
      have HF : tailL i false = List.replicate i 41 := rfl
      rw [← HF] at a3 ⊢
      clear HF
      have HLEN := keepHid (deep_len i x1 HK.out)
      by_cases h6 : 6 < i
      · have HP : Hid (∀ w, Calls Tryd.prog 10 #[.string (strB (deepL i x1))] w fun e w' => e = .returned (.tuple #[.agg #[.int .i64 0, .int .u64 0, .int .u64 0, .int .u64 0, .int .u64 0, .slice none 0 0], .iface 62 (.agg #[.int .i64 8, .int .i64 6])]) ∧ Below w.heap.size w w') :=
          keepHid fun w => (parse_any (deepL i x1) w).mono fun e w' hp => parse_bad (deep_bad i x1 HK.out h6) hp HLEN.out
        have h6' : (6 : Int) < (i : Int) := by omega
        generalize strB (deepL i x1) = D at *
        generalize strB (List.replicate i 40 ++ [97]) = S1 at *
        generalize strB (List.replicate i 40) = S0 at *
        cases x1
        all_goals
          generalize strB (tailL i true) = T1 at *
          generalize strB (tailL i false) = T0 at *
          go_wp2_with fail
          refine (HP.out _).mono ?_
          rintro e w2 ⟨rfl, hb2⟩
          obtain ⟨w3, hw3⟩ : ∃ w3, w2.alloc (.cells #[.int .i64 0, .int .u64 0, .int .u64 0, .int .u64 0, .int .u64 0, .slice none 0 0] 30) = w3 := ⟨_, rfl⟩
          have HW3 := keepHid hw3
          have hb13 : Below wr.heap.size wr w3 := by rw [← hw3]; exact hb2.alloc hb2.size _
          have HB3 := keepHid (HB1.out.trans (hb13.mono HB1.out.size))
          have HT3 := keepHid (HT1.out.below hb13 HT1.out.pos)
          clear hw3 hb2 hb13
          go_wp2_with fail
          rw [HW3.out]
          have HN := keepHid (number_any 8 6 w3 HT3.out)
          unfold faultV at HN
          refine HN.out.mono ?_
          rintro e w4 ⟨rfl, hb4⟩
          have HB4 := keepHid (HB3.out.trans (hb4.mono HB3.out.size))
          have HT4 := keepHid (HT3.out.below hb4 HT3.out.pos)
          have HQ := keepHid (place_any 8 6 w4 HT4.out)
          unfold faultV at HQ
          clear hb4
          go_wp2_with fail
          refine HQ.out.mono ?_
          rintro e w5 ⟨rfl, hb5⟩
          have HB5 := keepHid (HB4.out.trans (hb5.mono HB4.out.size))
          go_wp2
          go_ret
          exact ⟨rfl, HB5.out⟩
      · obtain ⟨r, hr⟩ := deep_good i x1 HK.out h6
        have HP : Hid (∀ w, Calls Tryd.prog 10 #[.string (strB (deepL i x1))] w fun e w' => (∃ h, e = .returned (.tuple #[hdV h, .nilIface])) ∧ Below w.heap.size w w') :=
          keepHid fun w => (parse_any (deepL i x1) w).mono fun e w' hp => by
            obtain ⟨h, he, _, hb⟩ := parse_pat hr hp HLEN.out
            exact ⟨⟨h, he⟩, hb⟩
        have h6' : (i : Int) ≤ 6 := by omega
        clear hr
        generalize strB (deepL i x1) = D at *
        generalize strB (List.replicate i 40 ++ [97]) = S1 at *
        generalize strB (List.replicate i 40) = S0 at *
        cases x1
        all_goals
          generalize strB (tailL i true) = T1 at *
          generalize strB (tailL i false) = T0 at *
          go_wp2_with fail
          refine (HP.out _).mono ?_
          rintro e w2 ⟨⟨h, rfl⟩, hb2⟩
          have HB2 := keepHid (HB1.out.trans (hb2.mono HB1.out.size))
          clear hb2
          unfold hdV
          go_wp2
          go_ret
          exact ⟨rfl, HB2.out.alloc HB2.out.size _⟩

set_option maxRecDepth 100000 in
theorem lifted (os : Os) (started : os.Started) (H : Type) (enc : TypeId × Value → H) :
    ReturnsInHanded {} Tryd.checked os 7 .any (fun w args => (Rows.regexDeepSpec.pre enc Tryd.prog Tryd.f7 [] false w args ∧ laidMetH Tryd.prog laidR w) ∧ sizedMet enc Tryd.prog Tryd.f7 (OpenSpec.ofChange Rows.regexDeepSpec) false w args) (Rows.regexDeepSpec.post enc Tryd.prog Tryd.f7 false true false false) := by
  refine returnsInHanded_of_change_and (C := Tryd.checked) (X := fun w _ => laidMetH Tryd.prog laidR w) (fun _ _ _ hh h => h.of_heap hh) own started (by kernel_rfl) Tryd.func7
    (ChangeSpec.witness_shaped (enc := enc) (C := Tryd.checked) (os := os) (X := fun w _ => laidMetH Tryd.prog laidR w) false (World.doorLaid Tryd.prog 400 os) #[.int .u8 0, .bool false] 8 rfl (World.shaped_of_RefB (by kernel_rfl) (by kernel_rfl)) (by kernel_rfl) (by kernel_rfl) (by kernel_rfl) (doorR os _)) ?_
  intro W base args ds gs before hval0 hW hcnd hsz0 hL _
  have hsz : (DataW.weightsEach Tryd.prog (Tryd.f7.params.toList ++ Rows.regexDeepSpec.plain.varTypes Tryd.prog) (ds ++ gs)).all (· ≤ reachBytes) = true := hsz0
  clear hsz0
  have hval : ∀ (j : Nat) t v, Tryd.f7.params[j]? = some t → args[j]? = some v → Value.okWide Tryd.prog W .any base t v := hval0
  have hW' := hW
  obtain ⟨p, q, hA0, hV, rfl, hfz, hnd⟩ := hW
  have hA : DataW.TrodAll enc Tryd.prog W 0 (fun _ => true) true Tryd.f7.params.toList args.toList ds p := hA0
  rw [Tryd.params7] at hA hval hsz
  obtain ⟨v0, vs0, d0, ds0, p0, q0, hargs, rfl, rfl, h0, r0⟩ := trodAll_cons hA
  obtain ⟨v1, vs1, d1, ds1, p1, q1, rfl, rfl, rfl, h1, r1⟩ := trodAll_cons r0
  obtain ⟨rfl, rfl, rfl⟩ := trodAll_nil r1
  obtain rfl : args = #[v0, v1] := by cases args; simp_all
  obtain ⟨rfl, rfl⟩ := trodVars_none hV
  have k0 := h0
  have lt0 : ∀ x ∈ p0, x.block < W.heap.size := by obtain ⟨m, hm⟩ := k0; exact DataW.trod_lt m _ _ _ hm
  have k1 := h1
  have lt1 : ∀ x ∈ p1, x.block < W.heap.size := by obtain ⟨m, hm⟩ := k1; exact DataW.trod_lt m _ _ _ hm
  obtain ⟨x0, rfl, rfl, rfl, w0⟩ := open_int Tryd.underlying5 (hval 0 5 v0 rfl rfl) h0
  obtain ⟨x1, rfl, rfl, rfl⟩ := open_bool Tryd.underlying4 (hval 1 4 v1 rfl rfl) h1
  clear hA0 hval0
  refine (walk x0 x1 W (tabsR hL) (wf_u8 w0)).mono fun e W' ⟨he, bel⟩ => ?_
  subst he
  exact ⟨_, rfl, _, _, _, [], _, [], hW', trodAll_mk1 (shut_bool Tryd.underlying4 _), (trodAll_cons_mk (Below.trod laidOut (by kernel_rfl) (of_decide_eq_true (by kernel_rfl)) k0 bel lt0) (trodAll_cons_mk (Below.trod laidOut (by kernel_rfl) (of_decide_eq_true (by kernel_rfl)) k1 bel lt1) trodAll_mk0)), rfl, bel.frame _, fun h => by cases h⟩

theorem over : Rows.regexDeepRow.holds Tryd.pinned (OpenSpec.ofChange Rows.regexDeepSpec) :=
  OpenClaim.holds_of_wide 7 Tryd.f7 rfl rfl rfl rfl rfl rfl rfl ⟨rfl, rfl, rfl, rfl, rfl⟩ rfl rfl rfl rfl rfl (by kernel_rfl) Tryd.func7 (by kernel_rfl)
    (of_decide_eq_true (by kernel_rfl)) (by unfold Func.isWrapper; first | (rw [if_pos (by decide +kernel)]; kernel_rfl) | (rw [if_neg (by decide +kernel)]; exact ⟨rfl, rfl⟩))
    (fun os started H enc _ => lifted os started H enc)

/-- The card: what the row lists is tied to the program's own text. -/
theorem proved : Rows.RegexDeepCardSaid :=
  Claim7.holds_tied_plain_at .later [] [.handle] true Rows.regexDeepCard.stood.harness true
    over (fun _ h => by cases h) (by kernel_rfl) (fun _ h => by cases h) regexDeep_row_tie rfl ⟨rfl, rfl⟩ (by kernel_rfl) rfl
    (fun f fn hf hfn => by
      obtain rfl : f = 7 := Option.some.inj ((show Tryd.prog.funcNamed "lifeline/lifelinelaw06.RegexDeep" = some 7 by kernel_rfl).symm.trans hf) |>.symm
      obtain rfl : fn = Tryd.f7 := (Option.some.inj (Tryd.func7.symm.trans hfn)).symm
      exact ⟨by kernel_rfl, fun j t ht => by
        rw [Tryd.params7] at ht
        have hm : t ∈ [5, 4] := by simpa using Array.mem_of_getElem? ht
        have hall : ([5, 4].all fun u => !Tryd.prog.wantsStandIn u) = true := by kernel_rfl
        exact (show Tryd.prog.wantsStandIn t = false by simpa using List.all_eq_true.1 hall t hm)⟩)
    (by kernel_rfl)
end Go.Proofs.YtjceaojffdaihaaDoor.regexDeep
