/-
  'lifelinelaw17.DialogBack' answers true for every input of the row, and leaves its arguments as they were.
  Conditions: the package-level variables that the row lists lie as the program's own text lays them (the card ties them to it; what is pinned is a constant of the library's).
-/
import Derived.Test.YtdjmfapbaoddoaaGreatDoorRows
import Derived.Test.YtdjmfapbaoddoaaGreatDoorDialogAct
import Derived.Test.YtdjmfapbaoddoaaGreatDoorFrame
import Derived.Test.YtdjmfapbaoddoaaGreatDoorFrameNum
import Derived.Test.YtdjmfapbaoddoaaGreatDoorFrameEight
import Derived.Test.YtdjmfapbaoddoaaGreatDoorCards
import Derived.Test.YtdjmfapbaoddoaaGreatDoorDialogAwake
import Derived.Test.YtdjmfapbaoddoaaGreatDoorDialogLaw
import Derived.Lib.QuietBelow
import Derived.Deep.DeepCutAuto
import Derived.OwnWalk
import Derived.WalkKit
import Derived.ProofKit
import Derived.OpenShut
import Derived.ShutString
import Derived.ChangeOld
import Derived.Below
namespace Go.Proofs.YtdjmfapbaoddoaaGreatDoor.dialogBack
open Go.ChangeShapes Go.WideShapes Go.ChangeAt Go.RowKit
open Go.ChangeMaps (open_string shut_string)
set_option linter.unusedVariables false

theorem own : ownKnob Tryz.prog.godebug = none := by kernel_rfl
theorem laidOut : laidOutB Tryz.prog = true := by kernel_rfl

theorem arms_len {B : Nat} : ∀ (rs : List Ar), (∀ a ∈ rs, ArB B a) → (armsL rs).length ≤ rs.length * (3 * B + 8) := by
  have h1 : ∀ a, ArB B a → (armL a).length ≤ 3 * B + 6 := fun a h => by
    unfold armL
    have := quoE_len a.pat
    have h1 := h.2.1
    have h2 := h.2.2
    have e : cGo.length = 4 := rfl
    simp only [List.length_append]
    omega
  intro rs h
  cases rs with
  | nil => simp [armsL]
  | cons a r =>
    have ha := h1 a (h a (List.mem_cons_self ..))
    have hr : (r.flatMap fun b => [44, 32] ++ armL b).length ≤ r.length * (3 * B + 8) := by
      have hh : ∀ b ∈ r, ArB B b := fun b hb => h b (List.mem_cons_of_mem _ hb)
      clear h ha
      induction r with
      | nil => simp
      | cons b r ih =>
        have hb := h1 b (hh b (List.mem_cons_self ..))
        have := ih fun x hx => hh x (List.mem_cons_of_mem _ hx)
        rw [List.flatMap_cons, List.length_append]
        have e3 : ([44, 32] ++ armL b).length = 2 + (armL b).length := by rw [List.length_append]; rfl
        rw [e3, List.length_cons, Nat.succ_mul]
        omega
    show (armL a ++ r.flatMap fun b => [44, 32] ++ armL b).length ≤ _
    rw [List.length_append, List.length_cons, Nat.succ_mul]
    omega
theorem told_fits {x : Sp} {B : Nat} (hB : B ≤ 3000) (h : SpB B x) : SpF x ∧ (lineS x).length ≤ 30000000 := by
  have hn : -9223372036854775808 ≤ x.n ∧ x.n ≤ 9223372036854775807 := by
    have := h.tell.n
    split at this
    · omega
    · split at this <;> omega
  have hl : (lineS x).length ≤ 30000000 := by
    have h0 : (labL x).length ≤ B + 2 := by
      unfold labL
      split
      · simp
      · have := h.label
        have e2 : ([58, 32] : List UInt8).length = 2 := rfl
        rw [List.length_append]
        omega
    have hq := quoE_len x.text
    have ht := h.text
    have hd := h.dst
    have hm := h.many
    have ha := arms_len x.arms h.arms
    have ha2 : x.arms.length * (3 * B + 8) ≤ 3002 * 9008 := Nat.mul_le_mul (by omega) (by omega)
    have hnum := num_len (show Base 10 from .inl rfl) hn
    have hk := h.tell.kind
    obtain ⟨k, hk2, hk5⟩ : ∃ k, kindK x.kind = k ∧ k ≤ 5 := ⟨_, rfl, (kind_mm x.kind).2⟩
    unfold lineS
    rw [hk2]
    have e2 : ([59, 10] : List UInt8).length = 2 := rfl
    have e1 : ([32] : List UInt8).length = 1 := rfl
    have ea : cAfter.length = 7 := rfl
    have eg : cGo.length = 4 := rfl
    have hw : (wordK k).length ≤ 6 := by
      have : k = 0 ∨ k = 1 ∨ k = 2 ∨ k = 3 ∨ k = 4 ∨ k = 5 := by omega
      rcases this with rfl | rfl | rfl | rfl | rfl | rfl <;> decide
    have hr : (restL k x).length ≤ 27060000 := by
      have : k = 0 ∨ k = 1 ∨ k = 2 ∨ k = 3 ∨ k = 4 ∨ k = 5 := by omega
      rcases this with rfl | rfl | rfl | rfl | rfl | rfl
      · rw [rest0, List.length_append]; omega
      · rw [rest1]; simp only [List.length_append]; omega
      · rw [rest2, List.length_append]; omega
      · rw [rest3]; simp only [List.length_append]; omega
      · rw [rest4]; simp
      · rw [rest5]; simp
    simp only [List.length_append]
    omega
  exact ⟨⟨by have := h.text; omega, fun a ha => by have := (h.arms a ha).2.1; omega, hn, by have := h.tell.kind; omega, by omega⟩, hl⟩
theorem text_long {es : List Sp} {B : Nat} (h : ∀ e ∈ es, (lineS e).length ≤ B) : (textS es).length ≤ es.length * B := by
  induction es with
  | nil => simp [textS]
  | cons e es ih =>
    have h1 := h e (List.mem_cons_self ..)
    have h2 := ih fun x hx => h x (List.mem_cons_of_mem _ hx)
    have e1 : textS (e :: es) = lineS e ++ textS es := by simp [textS]
    rw [e1, List.length_append, List.length_cons, Nat.succ_mul]
    omega
set_option maxRecDepth 100000 in
set_option maxHeartbeats 8000000 in
theorem walkL (A : Option Addr) (n c : Nat) (ds : List Dc) (hnc : n ≤ c) (hc63 : c ≤ 9223372036854775807) (w : World) (hT : NumT w) (hS : DctS w A n ds) :
    Calls Tryz.prog 3 #[.slice A n c] w fun e w' => e = .returned (.bool true) ∧ Below w.heap.size w w' := by
  have HA := keepHid (awake_any w hT.errs)
  have HT := keepHid hT
  have HS := keepHid hS
  have HSTP := keepHid (fun w' h => steps_any ds A n c hnc hc63 w' h)
  obtain ⟨hg, hl12⟩ := stepsN_good ds
  obtain ⟨ss, hss⟩ : ∃ ss, stepsN ds = ss := ⟨_, rfl⟩
  rw [hss] at HSTP hg hl12
  have hfit : ∀ e ∈ ss, SpF e := fun e he => (told_fits (by omega) (hg e he)).1
  have htl : (textS ss).length ≤ 70368744177664 := by
    have h1 := text_long (es := ss) (B := 30000000) fun e he => (told_fits (by omega) (hg e he)).2
    have h2 : ss.length * 30000000 ≤ 12 * 30000000 := Nat.mul_le_mul hl12 (Nat.le_refl _)
    omega
  have hf2 : ∀ e ∈ ss, SpF e ∧ -1099511627776 ≤ e.n := fun e he => ⟨hfit e he, by
    have := (hg e he).tell.n
    split at this
    · omega
    · split at this <;> omega⟩
  have HDT := keepHid (fun B m cb w' h h2 => dtext_any ss B m cb hfit htl w' h h2)
  have HLT := keepHid (fun B m cb w' h => ltext_any ss B m cb hf2 htl w' h)
  have HRD := keepHid (text_read (ss := ss) fun x hx => (hg x hx).tell)
  have hsz : (strB (textS ss)).size = (textS ss).length := strB_size _
  have hse := strB_same (xs := textS ss) (bs := textS ss) rfl
  clear hT hS hg hl12 hfit hf2 hss
  go_enter Tryz.func3, Tryz.ntmps3
  go_wp2_with fail
  refine HA.out.mono ?_
  rintro e w1 ⟨rfl, hb1⟩
  have HB1 := keepHid hb1
  have HT1 := keepHid (HT.out.below hb1 (Nat.le_refl _))
  have HS1 := keepHid (HS.out.below hb1)
  clear hb1 HA HS HT
  go_wp2_with fail
  refine (HSTP.out _ HS1.out).mono ?_
  rintro e w2 ⟨⟨B, m, cb, rfl, ho2⟩, hb2⟩
  have HO2 := keepHid ho2.sts
  have HB2 := keepHid (HB1.out.trans (hb2.mono HB1.out.size))
  have HT2 := keepHid (HT1.out.below hb2 (Nat.le_refl _))
  have HDX := keepHid (HDT.out B m cb)
  have HLX := keepHid (HLT.out B m cb)
  clear ho2 hb2 HSTP HS1 HB1 HT1 HDT HLT
  by_cases h4 : (textS ss).length ≤ 4096
  · have HP2 := keepHid (fun w' h => dparse_any (textS ss) h4 w' h)
    obtain ⟨M, hM⟩ : ∃ M, (textS ss).length = M := ⟨_, rfl⟩
    rw [hM] at hsz h4
    have h4I : ¬ (4096 : Int) < (M : Int) := by omega
    clear hM htl h4
    generalize strB (textS ss) = Y at *
    go_wp2_with fail
    refine (HDX.out _ HT2.out HO2.out).mono ?_
    rintro e w3 ⟨rfl, hb3⟩
    have HB3 := keepHid (HB2.out.trans (hb3.mono HB2.out.size))
    have HO3 := keepHid (HO2.out.below hb3 (Nat.le_refl _))
    have HT3 := keepHid (HT2.out.below hb3 (Nat.le_refl _))
    clear hb3
    go_wp2_with fail
    refine (HLX.out _ HO3.out).mono ?_
    rintro e w4 ⟨rfl, hb4⟩
    have HB4 := keepHid (HB3.out.trans (hb4.mono HB3.out.size))
    have HO4 := keepHid (HO3.out.below hb4 (Nat.le_refl _))
    have HT4 := keepHid (HT3.out.below hb4 (Nat.le_refl _))
    clear hb4
    go_wp2_with fail
    refine (HP2.out _ HT4.out.errs).mono ?_
    rintro e w5 ⟨⟨x, hx, rfl⟩ | ⟨es', A5, n5, c5, hes, rfl, hown⟩, hb5⟩
    · obtain ⟨xs, hxs, _⟩ := HRD.out
      rw [hxs] at hx; cases hx
    · obtain ⟨xs, hxs, hsame⟩ := HRD.out
      obtain rfl : xs = es' := by rw [hxs] at hes; injection hes
      have HB5 := keepHid (HB4.out.trans (hb5.mono HB4.out.size))
      have HSM := keepHid (lsame_any xs ss hsame A5 B n5 m c5 cb w5 hown.sts (HO4.out.below hb5 (Nat.le_refl _)))
      clear hb5 hown hes hxs hsame
      go_wp2_with fail
      refine HSM.out.mono ?_
      rintro e w6 ⟨rfl, hb6⟩
      have HB6 := keepHid (HB5.out.trans (hb6.mono HB5.out.size))
      clear hb6
      go_wp2
      go_ret
      exact ⟨rfl, HB6.out⟩
  · obtain ⟨M, hM⟩ : ∃ M, (textS ss).length = M := ⟨_, rfl⟩
    rw [hM] at hsz h4
    have h4I : (4096 : Int) < (M : Int) := by omega
    clear hM htl h4
    generalize strB (textS ss) = Y at *
    go_wp2_with fail
    refine (HDX.out _ HT2.out HO2.out).mono ?_
    rintro e w3 ⟨rfl, hb3⟩
    have HB3 := keepHid (HB2.out.trans (hb3.mono HB2.out.size))
    have HO3 := keepHid (HO2.out.below hb3 (Nat.le_refl _))
    clear hb3
    go_wp2_with fail
    refine (HLX.out _ HO3.out).mono ?_
    rintro e w4 ⟨rfl, hb4⟩
    have HB4 := keepHid (HB3.out.trans (hb4.mono HB3.out.size))
    have HO4 := keepHid (HO3.out.below hb4 (Nat.le_refl _))
    clear hb4
    go_wp2_with fail
    refine (HLX.out _ HO4.out).mono ?_
    rintro e w5 ⟨rfl, hb5⟩
    have HB5 := keepHid (HB4.out.trans (hb5.mono HB4.out.size))
    clear hb5
    go_wp2
    go_ret
    exact ⟨rfl, HB5.out⟩
theorem walk (a0 : Option Addr) (n0 c0 : Nat) (d0s : List Dc) (w : World) (hT : NumT w) (hR : ErrT w) (h0 : DctS w a0 n0 d0s) (l0 : n0 ≤ c0) (s0 : c0 ≤ 9223372036854775807) :
    Calls Tryz.prog 3 #[.slice a0 n0 c0] w fun e w' => e = .returned (.bool true) ∧ Below w.heap.size w w' := by
  exact walkL a0 n0 c0 d0s l0 s0 w hT h0

set_option maxRecDepth 100000 in
theorem lifted (os : Os) (started : os.Started) (H : Type) (enc : TypeId × Value → H) :
    ReturnsInHanded {} Tryz.checked os 3 .any (fun w args => (Rows.dialogBackSpec.pre enc Tryz.prog Tryz.f3 [] false w args ∧ laidMetH Tryz.prog laid8 w) ∧ sizedMet enc Tryz.prog Tryz.f3 (OpenSpec.ofChange Rows.dialogBackSpec) false w args) (Rows.dialogBackSpec.post enc Tryz.prog Tryz.f3 false true false false) := by
  refine returnsInHanded_of_change_and (C := Tryz.checked) (X := fun w _ => laidMetH Tryz.prog laid8 w) (fun _ _ _ hh h => h.of_heap hh) own started (by kernel_rfl) Tryz.func3
    (ChangeSpec.witness_shaped (enc := enc) (C := Tryz.checked) (os := os) (X := fun w _ => laidMetH Tryz.prog laid8 w) false (worldF os) #[.slice none 0 0] 8 (worldF_os os) (World.shaped_of_RefB (by kernel_rfl) (by kernel_rfl)) (by kernel_rfl) (by kernel_rfl) (by kernel_rfl) (door8 os _)) ?_
  intro W base args ds gs before hval0 hW hcnd hsz0 hL _
  have hsz : (DataW.weightsEach Tryz.prog (Tryz.f3.params.toList ++ Rows.dialogBackSpec.plain.varTypes Tryz.prog) (ds ++ gs)).all (· ≤ reachBytes) = true := hsz0
  clear hsz0
  have hval : ∀ (j : Nat) t v, Tryz.f3.params[j]? = some t → args[j]? = some v → Value.okWide Tryz.prog W .any base t v := hval0
  have hW' := hW
  obtain ⟨p, q, hA0, hV, rfl, hfz, hnd⟩ := hW
  have hA : DataW.TrodAll enc Tryz.prog W 0 (fun _ => true) true Tryz.f3.params.toList args.toList ds p := hA0
  rw [Tryz.params3] at hA hval hsz
  obtain ⟨v0, vs0, d0, ds0, p0, q0, hargs, rfl, rfl, h0, r0⟩ := trodAll_cons hA
  obtain ⟨rfl, rfl, rfl⟩ := trodAll_nil r0
  obtain rfl : args = #[v0] := by cases args; simp_all
  obtain ⟨rfl, rfl⟩ := trodVars_none hV
  have k0 := h0
  have lt0 : ∀ x ∈ p0, x.block < W.heap.size := by obtain ⟨m, hm⟩ := k0; exact DataW.trod_lt m _ _ _ hm
  obtain ⟨a0, n0, c0, d0s, rfl, w0, l0, s0⟩ := open_dact Tryz.underlying22 Tryz.underlying54 ⟨rfl, rfl⟩ ⟨rfl, rfl⟩ ⟨rfl, rfl⟩ ⟨rfl, rfl⟩ ⟨rfl, rfl⟩ ⟨rfl, rfl⟩ Tryz.underlying4 Tryz.underlying5 Tryz.underlying52 Tryz.underlying55 (by kernel_rfl) (by kernel_rfl) (by kernel_rfl) (by kernel_rfl) (by kernel_rfl) (hval 0 22 v0 rfl rfl) h0
  clear hA0 hval0
  refine (walk a0 n0 c0 d0s W (num_of (laid8_parts hL).1) (errT8 hL) w0 l0 s0).mono fun e W' ⟨he, bel⟩ => ?_
  subst he
  exact ⟨_, rfl, _, _, _, [], _, [], hW', trodAll_mk1 (shut_bool Tryz.underlying4 _), (trodAll_cons_mk (Below.trod laidOut (by kernel_rfl) (of_decide_eq_true (by kernel_rfl)) k0 bel lt0) trodAll_mk0), rfl, bel.frame _, fun h => by cases h⟩

theorem over : Rows.dialogBackRow.holds Tryz.pinned (OpenSpec.ofChange Rows.dialogBackSpec) :=
  OpenClaim.holds_of_wide 3 Tryz.f3 rfl rfl rfl rfl rfl rfl rfl ⟨rfl, rfl, rfl, rfl, rfl⟩ rfl rfl rfl rfl rfl (by kernel_rfl) Tryz.func3 (by kernel_rfl)
    (of_decide_eq_true (by kernel_rfl)) (by unfold Func.isWrapper; first | (rw [if_pos (by decide +kernel)]; kernel_rfl) | (rw [if_neg (by decide +kernel)]; exact ⟨rfl, rfl⟩))
    (fun os started H enc _ => lifted os started H enc)

/-- The card: what the row lists is tied to the program's own text. -/
theorem proved : Rows.DialogBackCardSaid :=
  Claim7.holds_tied_plain_at .later [] [.data, .data, .data, .data, .handle, .sentinel, .sentinel, .pinned] true Rows.dialogBackCard.stood.harness true
    over (fun _ h => by cases h) (by kernel_rfl) (fun _ h => by cases h) dialogBack_row_tie rfl ⟨rfl, rfl⟩ (by kernel_rfl) rfl
    (fun f fn hf hfn => by
      obtain rfl : f = 3 := Option.some.inj ((show Tryz.prog.funcNamed "lifeline/lifelinelaw17.DialogBack" = some 3 by kernel_rfl).symm.trans hf) |>.symm
      obtain rfl : fn = Tryz.f3 := (Option.some.inj (Tryz.func3.symm.trans hfn)).symm
      exact ⟨by kernel_rfl, fun j t ht => by
        rw [Tryz.params3] at ht
        have hm : t ∈ [22] := by simpa using Array.mem_of_getElem? ht
        have hall : ([22].all fun u => !Tryz.prog.wantsStandIn u) = true := by kernel_rfl
        exact (show Tryz.prog.wantsStandIn t = false by simpa using List.all_eq_true.1 hall t hm)⟩)
    (by kernel_rfl)
end Go.Proofs.YtdjmfapbaoddoaaGreatDoor.dialogBack
