/-
  'lifelinelaw17.DialogText' answers true for every input of the row, and leaves its arguments as they were.
  Conditions: the arguments hold together at most 1048576 values and bytes, each counted each time that it is reached; the package-level variables that the row lists lie as the program's own text lays them (the card ties them to it; what is pinned is a constant of the library's).
-/
import Derived.Test.YtdjmfapbaoddoaaGreatDoorRows
import Derived.Test.YtdjmfapbaoddoaaGreatDoorDialogLtext
import Derived.Test.YtdjmfapbaoddoaaGreatDoorFrame
import Derived.Test.YtdjmfapbaoddoaaGreatDoorFrameNum
import Derived.Test.YtdjmfapbaoddoaaGreatDoorFrameEight
import Derived.Test.YtdjmfapbaoddoaaGreatDoorCards
import Derived.Test.YtdjmfapbaoddoaaGreatDoorDialogAwake
import Derived.Test.YtdjmfapbaoddoaaGreatDoorFrameSteps
import Derived.Lib.QuietBelow
import Derived.Deep.DeepCutAuto
import Derived.OwnWalk
import Derived.WalkKit
import Derived.ProofKit
import Derived.OpenShut
import Derived.ShutString
import Derived.ChangeOld
import Derived.Below
import Derived.Deep.DeepHandedRow
import Derived.Deep.DeepWitnessRowRef
namespace Go.Proofs.YtdjmfapbaoddoaaGreatDoor.dialogText
open Go.ChangeShapes Go.WideShapes Go.ChangeAt Go.RowKit
open Go.ChangeMaps (open_string shut_string)
set_option linter.unusedVariables false

theorem own : ownKnob Tryz.prog.godebug = none := by kernel_rfl
theorem laidOut : laidOutB Tryz.prog = true := by kernel_rfl

theorem arms_sum : ∀ (rs : List Ar), (armsL rs).length ≤ 8 * (rs.map szA).sum ∧ ∀ a ∈ rs, a.pat.length ≤ (rs.map szA).sum := by
  have h1 : ∀ a, (armL a).length + 2 ≤ 8 * szA a ∧ a.pat.length ≤ szA a := fun a => by
    unfold armL szA
    have := quoE_len a.pat
    have e : cGo.length = 4 := rfl
    simp only [List.length_append]
    omega
  have h2 : ∀ (r : List Ar), (r.flatMap fun b => [44, 32] ++ armL b).length ≤ 8 * (r.map szA).sum := fun r => by
    induction r with
    | nil => simp
    | cons b r ih =>
      have := (h1 b).1
      rw [List.flatMap_cons, List.length_append, List.map_cons, List.sum_cons]
      have e3 : ([44, 32] ++ armL b).length = 2 + (armL b).length := by rw [List.length_append]; rfl
      rw [e3]
      omega
  intro rs
  refine ⟨?_, ?_⟩
  · cases rs with
    | nil => simp [armsL]
    | cons a r =>
      have := h2 r
      have := (h1 a).1
      show (armL a ++ r.flatMap fun b => [44, 32] ++ armL b).length ≤ _
      rw [List.length_append, List.map_cons, List.sum_cons]
      omega
  · induction rs with
    | nil => exact fun a h => (by cases h)
    | cons b r ih =>
      intro a ha
      rw [List.map_cons, List.sum_cons]
      rcases List.mem_cons.1 ha with rfl | ha
      · have := (h1 a).2; omega
      · have := ih a ha; omega
theorem line_sum (x : Sp) (h : StF x) : (lineS x).length ≤ 240 * szS x := by
  obtain ⟨hq1, _⟩ := arms_sum x.arms
  have hq2 := quoE_len x.text
  have hnum := num_len (show Base 10 from .inl rfl) h.n
  obtain ⟨k, hk2, hk5⟩ : ∃ k, kindK x.kind = k ∧ k ≤ 5 := ⟨_, rfl, (kind_mm x.kind).2⟩
  have h0 : (labL x).length ≤ x.label.length + 2 := by
    unfold labL
    split
    · simp
    · have e2 : ([58, 32] : List UInt8).length = 2 := rfl
      rw [List.length_append]
      omega
  have e2 : ([59, 10] : List UInt8).length = 2 := rfl
  have hw : (wordK k).length ≤ 6 := by
    have : k = 0 ∨ k = 1 ∨ k = 2 ∨ k = 3 ∨ k = 4 ∨ k = 5 := by omega
    rcases this with rfl | rfl | rfl | rfl | rfl | rfl <;> decide
  have hr : (restL k x).length ≤ 2 * x.text.length + 8 * (x.arms.map szA).sum + x.dst.length + 80 := by
    have : k = 0 ∨ k = 1 ∨ k = 2 ∨ k = 3 ∨ k = 4 ∨ k = 5 := by omega
    rcases this with rfl | rfl | rfl | rfl | rfl | rfl
    · rw [rest0, List.length_append, len1]; omega
    · rw [rest1]; simp only [List.length_append, len1, lenAfter, lenGo]; omega
    · rw [rest2, List.length_append, len1]; omega
    · rw [rest3]; simp only [List.length_append, len1, lenGo]; omega
    · rw [rest4]; simp
    · rw [rest5]; simp
  unfold lineS szS
  rw [hk2]
  simp only [List.length_append]
  omega
theorem text_sum : ∀ (es : List Sp), (∀ e ∈ es, StF e) → (textS es).length ≤ 240 * (es.map szS).sum ∧ ∀ e ∈ es, szS e ≤ (es.map szS).sum
  | [], _ => ⟨by simp [textS], fun e h => (by cases h)⟩
  | e :: es, h => by
    obtain ⟨h1, h3⟩ := text_sum es fun x hx => h x (List.mem_cons_of_mem _ hx)
    have hl := line_sum e (h e (List.mem_cons_self ..))
    have e1 : textS (e :: es) = lineS e ++ textS es := by simp [textS]
    rw [List.map_cons, List.sum_cons]
    refine ⟨?_, fun x hx => ?_⟩
    · rw [e1, List.length_append]; omega
    · rcases List.mem_cons.1 hx with rfl | hx
      · omega
      · have := h3 x hx; omega
set_option maxRecDepth 100000 in
set_option maxHeartbeats 4000000 in
theorem walkL (A : Option Addr) (n c : Nat) (es : List Sp) (w : World) (hT : NumT w) (hS : StS w A n es) (hF : ∀ e ∈ es, StF e) (hz : (es.map szS).sum ≤ 1048576) :
    Calls Tryz.prog 4 #[.slice A n c] w fun e w' => e = .returned (.bool true) ∧ Below w.heap.size w w' := by
  obtain ⟨ht1, ht3⟩ := text_sum es hF
  have HA := keepHid (awake_any w hT.errs)
  have HT := keepHid hT
  have HS := keepHid hS
  have HN := keepHid hS.len
  have hn : n ≤ 9223372036854775807 := hS.2.1
  have HTL : Hid ((textS es).length ≤ 70368744177664) := keepHid (by omega)
  have HF1 : Hid (∀ e ∈ es, SpF e) := keepHid (fun e he => by
    have h1 := ht3 e he
    have h2 := line_sum e (hF e he)
    have h3 : szS e = e.label.length + e.text.length + (e.arms.map szA).sum + e.dst.length + 1 := rfl
    exact ⟨by omega, fun a ha => by have := (arms_sum e.arms).2 a ha; omega, (hF e he).n, (hF e he).kind, by omega⟩)
  clear ht1 ht3 hT hS hF hz
  go_enter Tryz.func4, Tryz.ntmps4
  go_wp2_with fail
  refine HA.out.mono ?_
  rintro e w1 ⟨rfl, hb1⟩
  have HB1 := keepHid hb1
  clear hb1 HA
  go_wp2_with fail
  go_loopw [9] (fun iv wr => ∃ k : Nat, k ≤ n ∧ iv = .int .i64 (k : Int) ∧ Hid (Below w.heap.size w wr) ∧ Hid (∀ j e, j < k → es[j]? = some e → -1099511627776 ≤ e.n)) (fun iv _ => n - (intOf iv).toNat)
  case atStart => exact ⟨0, Nat.zero_le _, rfl, HB1, keepHid (fun j e h => absurd h (Nat.not_lt_zero _))⟩
  case round =>
    obtain ⟨k, hk, rfl, HB, HK⟩ := hrel
    generalize wr = wq at *
    by_cases hlt : k < n
    · obtain ⟨x, hx⟩ : ∃ x, es[k]? = some x := ⟨_, List.getElem?_eq_getElem (by rw [HN.out]; exact hlt)⟩
      obtain ⟨ad, P, pm, pc, rfl, hadl, a0, a1, a2, a3, a4, a5, a6, hA, hmc⟩ := (HS.out.below HB.out (Nat.le_refl _)).at_ hx
      have hk' : (k : Int) < (n : Int) := by omega
      have HKN : Hid (-1099511627776 ≤ x.n → ∀ j y, j < k + 1 → es[j]? = some y → -1099511627776 ≤ y.n) := keepHid (fun h j y hj hy => by
        rcases Nat.lt_succ_iff_lt_or_eq.1 hj with hj | rfl
        · exact HK.out j y hj hy
        · obtain rfl : y = x := by rw [hx] at hy; exact (Option.some.inj hy).symm
          exact h)
      obtain ⟨w2, hw2⟩ : ∃ w2, wq.alloc (.cells #[.string (strB x.label), .int .i64 x.kind, .string (strB x.text), .slice P pm pc, .int .i64 x.n, .string (strB x.dst), .int .i64 x.pos] 36) = w2 := ⟨_, rfl⟩
      have hK2 : Blk w2 wq.heap.size 36 #[.string (strB x.label), .int .i64 x.kind, .string (strB x.text), .slice P pm pc, .int .i64 x.n, .string (strB x.dst), .int .i64 x.pos] := by rw [← hw2]; exact Blk.new wq _ _
      have HB2 : Hid (Below w.heap.size w w2) := keepHid (by rw [← hw2]; exact HB.out.trans (((Below.refl _ _).alloc (Nat.le_refl _) _).mono HB.out.size))
      have b4 : w2.cell? ⟨wq.heap.size, 4, none⟩ = some (.int .i64 x.n) := hK2.cell 4
      clear hx hK2 HK hA hmc
      generalize strB x.label = LB at *
      generalize strB x.text = TX at *
      generalize strB x.dst = DD at *
      generalize x.n = NN at *
      by_cases h1 : NN < -1099511627776
      · go_wp2
        go_ret
        exact ⟨rfl, HB2.out⟩
      · have HK3 := keepHid (HKN.out (by omega))
        clear HKN
        go_wp2
        go_roundw
        case rel => exact ⟨k + 1, by omega, by go_num, HB2, HK3⟩
        case measure => simp [intOf]; omega
    · obtain rfl : k = n := by omega
      have HF2 : Hid (∀ e ∈ es, SpF e ∧ -1099511627776 ≤ e.n) := keepHid (fun e he => by
        obtain ⟨j, hj⟩ := List.getElem?_of_mem he
        have hl := (List.getElem?_eq_some_iff.1 hj).1
        exact ⟨HF1.out e he, HK.out j e (by rw [HN.out] at hl; exact hl) hj⟩)
      have HN2 := keepHid (HT.out.below HB.out (Nat.le_refl _))
      have HE2 := keepHid (HS.out.below HB.out (Nat.le_refl _))
      have HTX := keepHid (dtext_any es A k c HF1.out HTL.out wq HN2.out HE2.out)
      have HLT := keepHid (fun w' h => ltext_any es A k c HF2.out HTL.out w' h)
      have hse := strB_same (xs := textS es) (bs := textS es) rfl
      generalize strB (textS es) = X at *
      clear HK
      go_wp2_with fail
      refine HTX.out.mono ?_
      rintro e w3 ⟨rfl, hb3⟩
      have HB3 := keepHid (HB.out.trans (hb3.mono HB.out.size))
      have HE3 := keepHid (HE2.out.below hb3 (Nat.le_refl _))
      clear HTX hb3
      go_wp2_with fail
      refine (HLT.out _ HE3.out).mono ?_
      rintro e w4 ⟨rfl, hb4⟩
      have HB4 := keepHid (HB3.out.trans (hb4.mono HB3.out.size))
      clear hb4 HLT
      go_wp2
      go_ret
      exact ⟨rfl, HB4.out⟩
theorem walk (a0 : Option Addr) (n0 c0 : Nat) (q0 : List Sp) (w : World) (hT : NumT w) (hR : ErrT w) (h0 : StS w a0 n0 q0) (g0 : ∀ x ∈ q0, StF x) (l0 : n0 ≤ c0) (s0 : c0 ≤ 9223372036854775807) (z0 : (q0.map szS).sum ≤ 1048576) :
    Calls Tryz.prog 4 #[.slice a0 n0 c0] w fun e w' => e = .returned (.bool true) ∧ Below w.heap.size w w' := by
  exact walkL a0 n0 c0 q0 w hT h0 g0 z0

set_option maxRecDepth 100000 in
theorem lifted (os : Os) (started : os.Started) (H : Type) (enc : TypeId × Value → H) (F : Stop.Interp) :
    ReturnsInHanded {} Tryz.checked os 4 .any ((Rows.OpenSpec.upto Rows.dialogTextSpec).preRow enc Tryz.prog Tryz.f4 Rows.dialogTextUptoRow.domain false laid8) (((Rows.OpenSpec.upto Rows.dialogTextSpec).at F).post enc Tryz.prog Tryz.f4 false true false false) := by
  refine returnsInHanded_of_row (C := Tryz.checked) (s := Rows.OpenSpec.upto Rows.dialogTextSpec) own started (by kernel_rfl) Tryz.func4
    (witness_row_atRef (enc := enc) (C := Tryz.checked) false (worldF os) #[.slice none 0 0] (worldF_os os) (by kernel_rfl) (by kernel_rfl) (by kernel_rfl)
      (OpenSpec.preRow_of_cond 8 (x := ([.nil], [], [])) (by kernel_rfl) rfl (fun k hk => by cases hk; rfl) (by kernel_rfl) (door8 os _))) ?_
  intro W base args ds gs before hval0 hW hcnd hsmall0 hsz0 hL _ _
  have hsz : (DataW.weightsEach Tryz.prog (Tryz.f4.params.toList ++ Rows.dialogTextSpec.plain.varTypes Tryz.prog) (ds ++ gs)).all (· ≤ reachBytes) = true := hsz0
  clear hsz0
  have hsmall : Rows.uptoBulkAll (ds ++ gs) ≤ 1048576 := of_decide_eq_true (hsmall0 _ rfl)
  clear hsmall0
  have hval : ∀ (j : Nat) t v, Tryz.f4.params[j]? = some t → args[j]? = some v → Value.okWide Tryz.prog W .any base t v := hval0
  have hW' := hW
  obtain ⟨p, q, hA0, hV, rfl, hfz, hnd⟩ := hW
  have hA : DataW.TrodAll enc Tryz.prog W 0 (fun _ => true) true Tryz.f4.params.toList args.toList ds p := hA0
  rw [Tryz.params4] at hA hval hsz
  obtain ⟨v0, vs0, d0, ds0, p0, q0, hargs, rfl, rfl, h0, r0⟩ := trodAll_cons hA
  obtain ⟨rfl, rfl, rfl⟩ := trodAll_nil r0
  obtain rfl : args = #[v0] := by cases args; simp_all
  obtain ⟨rfl, rfl⟩ := trodVars_none hV
  have k0 := h0
  have lt0 : ∀ x ∈ p0, x.block < W.heap.size := by obtain ⟨m, hm⟩ := k0; exact DataW.trod_lt m _ _ _ hm
  obtain ⟨a0, n0, c0, q0, rfl, w0, g0, l0, s0, b0⟩ := open_steps Tryz.underlying24 Tryz.underlying36 ⟨rfl, rfl⟩ ⟨rfl, rfl⟩ ⟨rfl, rfl⟩ ⟨rfl, rfl⟩ ⟨rfl, rfl⟩ ⟨rfl, rfl⟩ ⟨rfl, rfl⟩ Tryz.underlying9 Tryz.underlying3 Tryz.underlying33 Tryz.underlying34 Tryz.underlying51 ⟨rfl, rfl⟩ ⟨rfl, rfl⟩ (by kernel_rfl) (by kernel_rfl) (by kernel_rfl) (by kernel_rfl) (by kernel_rfl) (by kernel_rfl) (hval 0 24 v0 rfl rfl) h0
  clear hA0 hval0
  have z0 : (q0.map szS).sum ≤ 1048576 := by simp only [List.append_nil, Rows.uptoBulkAll] at hsmall; omega
  refine (walk a0 n0 c0 q0 W (num_of (laid8_parts hL).1) (errT8 hL) w0 g0 l0 s0 z0).mono fun e W' ⟨he, bel⟩ => ?_
  subst he
  exact ⟨_, rfl, _, _, _, [], _, [], hW', trodAll_mk1 (shut_bool Tryz.underlying4 _), (trodAll_cons_mk (Below.trod laidOut (by kernel_rfl) (of_decide_eq_true (by kernel_rfl)) k0 bel lt0) trodAll_mk0), rfl, bel.frame _, fun h => by cases h⟩

theorem over : Rows.dialogTextUptoRow.holds Tryz.pinned (Rows.OpenSpec.upto Rows.dialogTextSpec) :=
  OpenClaim.holds_of_cond 4 Tryz.f4 rfl rfl rfl rfl rfl rfl rfl ⟨rfl, rfl, rfl, rfl, rfl⟩ rfl rfl rfl rfl rfl (by kernel_rfl) Tryz.func4 (by kernel_rfl)
    (of_decide_eq_true (by kernel_rfl)) (by unfold Func.isWrapper; first | (rw [if_pos (by decide +kernel)]; kernel_rfl) | (rw [if_neg (by decide +kernel)]; exact ⟨rfl, rfl⟩))
    (fun os started H enc _ F => by rw [OpenClaim.pre_eq_preRow]; exact lifted os started H enc F)

/-- The card: what the row lists is tied to the program's own text. -/
theorem proved : Rows.DialogTextUptoCardSaid :=
  Claim7.holds_tied_plain_at .later [] [.data, .data, .data, .data, .handle, .sentinel, .sentinel, .pinned] true Rows.dialogTextUptoCard.stood.harness true
    over (fun _ h => by cases h) (by kernel_rfl) (fun _ h => by cases h) dialogTextUpto_row_tie rfl ⟨rfl, rfl⟩ (by kernel_rfl) rfl
    (fun f fn hf hfn => by
      obtain rfl : f = 4 := Option.some.inj ((show Tryz.prog.funcNamed "lifeline/lifelinelaw17.DialogText" = some 4 by kernel_rfl).symm.trans hf) |>.symm
      obtain rfl : fn = Tryz.f4 := (Option.some.inj (Tryz.func4.symm.trans hfn)).symm
      exact ⟨by kernel_rfl, fun j t ht => by
        rw [Tryz.params4] at ht
        have hm : t ∈ [24] := by simpa using Array.mem_of_getElem? ht
        have hall : ([24].all fun u => !Tryz.prog.wantsStandIn u) = true := by kernel_rfl
        exact (show Tryz.prog.wantsStandIn t = false by simpa using List.all_eq_true.1 hall t hm)⟩)
    (by kernel_rfl)
end Go.Proofs.YtdjmfapbaoddoaaGreatDoor.dialogText
