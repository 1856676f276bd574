/-
  A dialogue's text: package dialog's rest, line and Text.
-/
import Derived.Test.YtdjmfapbaoddoaaGreatDoorDialogText
namespace Go.Proofs.YtdjmfapbaoddoaaGreatDoor
open Go.RowKit
set_option linter.unusedVariables false

/-- What holds of a step whose line is written. -/
structure SpF (x : Sp) : Prop where
  text : x.text.length ≤ 1048576
  pats : ∀ a ∈ x.arms, a.pat.length ≤ 1048576
  n : -9223372036854775808 ≤ x.n ∧ x.n ≤ 9223372036854775807
  kind : -9223372036854775808 ≤ x.kind ∧ x.kind ≤ 9223372036854775807
  size : (lineS x).length ≤ 70368744177664
theorem rest0 (x : Sp) : restL 0 x = [32] ++ quoE x.text := rfl
theorem rest1 (x : Sp) : restL 1 x = [32] ++ armsL x.arms ++ cAfter ++ numL 10 x.n ++ cGo ++ x.dst := rfl
theorem rest2 (x : Sp) : restL 2 x = [32] ++ x.dst := rfl
theorem rest3 (x : Sp) : restL 3 x = [32] ++ numL 10 x.n ++ cGo ++ x.dst := rfl
theorem rest4 (x : Sp) : restL 4 x = [] := rfl
theorem rest5 (x : Sp) : restL 5 x = [] := rfl
theorem len1 : ([32] : List UInt8).length = 1 := rfl
theorem lenGo : cGo.length = 4 := rfl
theorem lenAfter : cAfter.length = 7 := rfl
set_option maxRecDepth 100000 in
set_option maxHeartbeats 8000000 in
theorem rest_any (x : Sp) (k : Nat) (hk : k ≤ 5) (P : Option Addr) (m c : Nat) (ht : x.text.length ≤ 1048576) (hp : ∀ a ∈ x.arms, a.pat.length ≤ 1048576) (hn : -9223372036854775808 ≤ x.n ∧ x.n ≤ 9223372036854775807) (hz : (restL k x).length ≤ 70368744177664) (w : World) (hT : NumT w) (hA : ArS w P m x.arms) :
    Calls Tryz.prog 34 #[.agg #[.string (strB x.label), .int .i64 (k : Int), .string (strB x.text), .slice P m c, .int .i64 x.n, .string (strB x.dst), .int .i64 x.pos]] w fun e w' => e = .returned (.string (strB (restL k x))) ∧ Below w.heap.size w w' := by
  obtain ⟨w1, hw1⟩ : ∃ w1, w.alloc (.cells #[.string (strB x.label), .int .i64 (k : Int), .string (strB x.text), .slice P m c, .int .i64 x.n, .string (strB x.dst), .int .i64 x.pos] 36) = w1 := ⟨_, rfl⟩
  have hK1 : Blk w1 w.heap.size 36 #[.string (strB x.label), .int .i64 (k : Int), .string (strB x.text), .slice P m c, .int .i64 x.n, .string (strB x.dst), .int .i64 x.pos] := by rw [← hw1]; exact Blk.new w _ _
  have hB1 : Below w.heap.size w w1 := by rw [← hw1]; exact (Below.refl _ _).alloc (Nat.le_refl _) _
  have HT1 := keepHid (hT.below hB1 (Nat.le_refl _))
  have HA1 := keepHid (hA.below hB1 (Nat.le_refl _))
  have HB1 := keepHid hB1
  have c1 : w1.cell? ⟨w.heap.size, 1, none⟩ = some (.int .i64 (k : Int)) := hK1.cell 1
  clear hA hT hB1
  rcases (by omega : k = 0 ∨ k = 1 ∨ k = 2 ∨ k = 3 ∨ k = 4 ∨ k = 5) with rfl | rfl | rfl | rfl | rfl | rfl
  · rw [rest0] at hz
    have c2 : w1.cell? ⟨w.heap.size, 2, none⟩ = some (.string (strB x.text)) := hK1.cell 2
    have HQ := keepHid (fun w => quoted_any x.text ht w)
    have k1 : ∀ w, (Op.stringOp .add ⟨#[32]⟩ (strB (quoE x.text))).run Tryz.prog w = .ok (.string (strB ([32] ++ quoE x.text))) w := fun w => run_strAdd [32] _ (by rw [List.length_append] at hz; omega) w
    have HR : Hid (strB (restL 0 x) = strB ([32] ++ quoE x.text)) := keepHid rfl
    rw [show ((0 : Nat) : Int) = 0 from rfl] at *
    clear hz ht hp hn hK1
    generalize strB (restL 0 x) = R0 at *
    generalize strB ([32] ++ quoE x.text) = R at *
    generalize strB (quoE x.text) = Q at *
    generalize strB x.text = X at *
    go_enter Tryz.func34, Tryz.ntmps34
    go_wp2_with fail
    try rw [hw1]
    refine (HQ.out _).mono ?_
    rintro e w2 ⟨rfl, hb2⟩
    have HB2 := keepHid (HB1.out.trans (hb2.mono HB1.out.size))
    clear hb2 c1 c2
    go_wp2
    go_ret
    exact ⟨by rw [HR.out]; rfl, HB2.out⟩
  · rw [rest1] at hz
    simp only [List.length_append, len1, lenGo, lenAfter] at hz
    have HQ := keepHid (fun w h => darms_any x.arms P m c hp (by omega) w h)
    have HI := keepHid (fun w hT => itoa_any x.n hn w hT)
    have k1 : ∀ w, (Op.stringOp .add ⟨#[32]⟩ (strB (armsL x.arms))).run Tryz.prog w = .ok (.string (strB ([32] ++ armsL x.arms))) w := fun w => run_strAdd [32] _ (by rw [len1]; omega) w
    have k2 : ∀ w, (Op.stringOp .add (strB ([32] ++ armsL x.arms)) ⟨#[32, 97, 102, 116, 101, 114, 32]⟩).run Tryz.prog w = .ok (.string (strB ([32] ++ armsL x.arms ++ cAfter))) w := fun w => run_strAdd _ cAfter (by simp only [List.length_append, len1, lenAfter]; omega) w
    have k3 : ∀ w, (Op.stringOp .add (strB ([32] ++ armsL x.arms ++ cAfter)) (strB (numL 10 x.n))).run Tryz.prog w = .ok (.string (strB ([32] ++ armsL x.arms ++ cAfter ++ numL 10 x.n))) w := fun w => run_strAdd _ _ (by simp only [List.length_append, len1, lenAfter]; omega) w
    have k4 : ∀ w, (Op.stringOp .add (strB ([32] ++ armsL x.arms ++ cAfter ++ numL 10 x.n)) ⟨#[32, 103, 111, 32]⟩).run Tryz.prog w = .ok (.string (strB ([32] ++ armsL x.arms ++ cAfter ++ numL 10 x.n ++ cGo))) w := fun w => run_strAdd _ cGo (by simp only [List.length_append, len1, lenAfter, lenGo]; omega) w
    have k5 : ∀ w, (Op.stringOp .add (strB ([32] ++ armsL x.arms ++ cAfter ++ numL 10 x.n ++ cGo)) (strB x.dst)).run Tryz.prog w = .ok (.string (strB ([32] ++ armsL x.arms ++ cAfter ++ numL 10 x.n ++ cGo ++ x.dst))) w := fun w => run_strAdd _ _ (by simp only [List.length_append, len1, lenAfter, lenGo]; omega) w
    have HR : Hid (strB (restL 1 x) = strB ([32] ++ armsL x.arms ++ cAfter ++ numL 10 x.n ++ cGo ++ x.dst)) := keepHid rfl
    rw [show ((1 : Nat) : Int) = 1 from rfl] at *
    have d3 := fun q os => cell_regrown (show w1.cell? ⟨w.heap.size, 3, none⟩ = some (.slice P m c) from hK1.cell 3) q os
    have d4 := fun q os => cell_regrown (show w1.cell? ⟨w.heap.size, 4, none⟩ = some (.int .i64 x.n) from hK1.cell 4) q os
    have d5 := fun q os => cell_regrown (show w1.cell? ⟨w.heap.size, 5, none⟩ = some (.string (strB x.dst)) from hK1.cell 5) q os
    have CA := keepHid (fun d os => Calls.regrown_of (HQ.out (Sort.grow (redrawn w1 d) os) (HA1.out.below (below_regrown w1 d os) (Nat.le_refl _))))
    have CI := keepHid (fun d os => Calls.regrown_of (HI.out (Sort.grow (redrawn w1 d) os) (HT1.out.below (below_regrown w1 d os) (Nat.le_refl _))))
    clear hz ht hp hn hK1 HQ HI
    generalize strB (restL 1 x) = R0 at *
    generalize strB ([32] ++ armsL x.arms ++ cAfter ++ numL 10 x.n ++ cGo ++ x.dst) = R5 at *
    generalize strB ([32] ++ armsL x.arms ++ cAfter ++ numL 10 x.n ++ cGo) = R4 at *
    generalize strB ([32] ++ armsL x.arms ++ cAfter ++ numL 10 x.n) = R3 at *
    generalize strB ([32] ++ armsL x.arms ++ cAfter) = R2 at *
    generalize strB ([32] ++ armsL x.arms) = R1 at *
    generalize strB (armsL x.arms) = Q1 at *
    generalize strB (numL 10 x.n) = Q2 at *
    generalize strB x.text = X at *
    generalize strB x.dst = D at *
    generalize x.n = NN at *
    go_enter Tryz.func34, Tryz.ntmps34
    go_upto_region 5 with fail
    try rw [hw1]
    clear hw1 c1
    refine wp_region_quiet_below (by kernel_rfl) (by kernel_rfl) ?_
    repeat (go_big_quiet_step (first | (with_reducible exact CA.out _ _) | (with_reducible exact CI.out _ _)))
    refine wpQuiet_nil ?_
    intro _ hw'
    obtain ⟨⟨dq, osq⟩, hw''⟩ := hw'
    subst hw''
    have HB3 := keepHid (HB1.out.trans ((below_regrown w1 dq osq).mono HB1.out.size))
    clear d3 d4 d5 CA CI
    go_wp2
    go_ret
    exact ⟨by rw [HR.out]; rfl, HB3.out⟩
  · rw [rest2] at hz
    simp only [List.length_append, len1] at hz
    have c5 : w1.cell? ⟨w.heap.size, 5, none⟩ = some (.string (strB x.dst)) := hK1.cell 5
    have k1 : ∀ w, (Op.stringOp .add ⟨#[32]⟩ (strB x.dst)).run Tryz.prog w = .ok (.string (strB ([32] ++ x.dst))) w := fun w => run_strAdd [32] _ (by rw [len1]; omega) w
    have HR : Hid (strB (restL 2 x) = strB ([32] ++ x.dst)) := keepHid rfl
    rw [show ((2 : Nat) : Int) = 2 from rfl] at *
    clear hz ht hp hn hK1
    generalize strB (restL 2 x) = R0 at *
    generalize strB ([32] ++ x.dst) = R at *
    generalize strB x.dst = D at *
    go_enter Tryz.func34, Tryz.ntmps34
    go_wp2
    try rw [hw1]
    go_ret
    exact ⟨by rw [HR.out]; rfl, HB1.out⟩
  · rw [rest3] at hz
    simp only [List.length_append, len1, lenGo] at hz
    have HI := keepHid (fun w hT => itoa_any x.n hn w hT)
    have k1 : ∀ w, (Op.stringOp .add ⟨#[32]⟩ (strB (numL 10 x.n))).run Tryz.prog w = .ok (.string (strB ([32] ++ numL 10 x.n))) w := fun w => run_strAdd [32] _ (by rw [len1]; omega) w
    have k4 : ∀ w, (Op.stringOp .add (strB ([32] ++ numL 10 x.n)) ⟨#[32, 103, 111, 32]⟩).run Tryz.prog w = .ok (.string (strB ([32] ++ numL 10 x.n ++ cGo))) w := fun w => run_strAdd _ cGo (by simp only [List.length_append, len1, lenGo]; omega) w
    have k5 : ∀ w, (Op.stringOp .add (strB ([32] ++ numL 10 x.n ++ cGo)) (strB x.dst)).run Tryz.prog w = .ok (.string (strB ([32] ++ numL 10 x.n ++ cGo ++ x.dst))) w := fun w => run_strAdd _ _ (by simp only [List.length_append, len1, lenGo]; omega) w
    have HR : Hid (strB (restL 3 x) = strB ([32] ++ numL 10 x.n ++ cGo ++ x.dst)) := keepHid rfl
    rw [show ((3 : Nat) : Int) = 3 from rfl] at *
    have d4 := fun q os => cell_regrown (show w1.cell? ⟨w.heap.size, 4, none⟩ = some (.int .i64 x.n) from hK1.cell 4) q os
    have d5 := fun q os => cell_regrown (show w1.cell? ⟨w.heap.size, 5, none⟩ = some (.string (strB x.dst)) from hK1.cell 5) q os
    have CI := keepHid (fun d os => Calls.regrown_of (HI.out (Sort.grow (redrawn w1 d) os) (HT1.out.below (below_regrown w1 d os) (Nat.le_refl _))))
    clear hz ht hp hn hK1 HI
    generalize strB (restL 3 x) = R0 at *
    generalize strB ([32] ++ numL 10 x.n ++ cGo ++ x.dst) = R5 at *
    generalize strB ([32] ++ numL 10 x.n ++ cGo) = R4 at *
    generalize strB ([32] ++ numL 10 x.n) = R3 at *
    generalize strB (numL 10 x.n) = Q2 at *
    generalize strB x.text = X at *
    generalize strB x.dst = D at *
    generalize x.n = NN at *
    go_enter Tryz.func34, Tryz.ntmps34
    go_upto_region 9 with fail
    try rw [hw1]
    clear hw1 c1
    refine wp_region_quiet_below (by kernel_rfl) (by kernel_rfl) ?_
    repeat (go_big_quiet_step (first | (with_reducible exact CI.out _ _)))
    refine wpQuiet_nil ?_
    intro _ hw'
    obtain ⟨⟨dq, osq⟩, hw''⟩ := hw'
    subst hw''
    have HB3 := keepHid (HB1.out.trans ((below_regrown w1 dq osq).mono HB1.out.size))
    clear d4 d5 CI
    go_wp2
    go_ret
    exact ⟨by rw [HR.out]; rfl, HB3.out⟩
  · rw [show ((4 : Nat) : Int) = 4 from rfl] at *
    go_enter Tryz.func34, Tryz.ntmps34
    go_wp2
    try rw [hw1]
    go_ret
    exact ⟨by rw [rest4]; rfl, HB1.out⟩
  · rw [show ((5 : Nat) : Int) = 5 from rfl] at *
    go_enter Tryz.func34, Tryz.ntmps34
    go_wp2
    try rw [hw1]
    go_ret
    exact ⟨by rw [rest5]; rfl, HB1.out⟩
theorem kind_mm (k : Int) : min (max k 0) 5 = (kindK k : Int) ∧ kindK k ≤ 5 := by
  unfold kindK
  split
  · omega
  · split
    · omega
    · omega
theorem word_at {k : Nat} (hk : k ≤ 5) : wordsL[k]? = some (wordK k) := by
  rcases (by omega : k = 0 ∨ k = 1 ∨ k = 2 ∨ k = 3 ∨ k = 4 ∨ k = 5) with rfl | rfl | rfl | rfl | rfl | rfl <;> rfl
theorem line_is (x : Sp) : lineS x = labL x ++ wordK (kindK x.kind) ++ restL (kindK x.kind) x ++ [59, 10] := rfl
set_option maxRecDepth 100000 in
set_option maxHeartbeats 8000000 in
theorem dline_any (x : Sp) (hF : SpF x) (P : Option Addr) (m c : Nat) (w : World) (hT : NumT w) (hA : ArS w P m x.arms) :
    Calls Tryz.prog 24 #[.agg #[.string (strB x.label), .int .i64 x.kind, .string (strB x.text), .slice P m c, .int .i64 x.n, .string (strB x.dst), .int .i64 x.pos]] w fun e w' => e = .returned (.string (strB (lineS x))) ∧ Below w.heap.size w w' := by
  obtain ⟨hmm, hk5⟩ := kind_mm x.kind
  have hz := hF.size
  rw [line_is] at hz
  obtain ⟨M1, hM1⟩ : ∃ M1, max x.kind 0 = M1 := ⟨_, rfl⟩
  rw [hM1] at hmm
  have qm1 := fun ts t W => max_z ts t x.kind 0 M1 hM1 W
  obtain ⟨k, hk⟩ : ∃ k, kindK x.kind = k := ⟨_, rfl⟩
  rw [hk] at hmm hk5 hz
  have qm2 := fun ts t W => min_z ts t M1 5 (k : Int) hmm W
  have HLN : Hid (lineS x = labL x ++ wordK k ++ restL k x ++ [59, 10]) := keepHid (by rw [← hk]; rfl)
  simp only [List.length_append, List.length_cons, List.length_nil] at hz
  have HRA := keepHid (fun w hT hA => rest_any x k hk5 P m c hF.text hF.pats hF.n (by omega) w hT hA)
  have k1 : ∀ w, (Op.stringOp .add (strB (labL x)) (strB (wordK k))).run Tryz.prog w = .ok (.string (strB (labL x ++ wordK k))) w := fun w => run_strAdd _ _ (by omega) w
  have k2 : ∀ w, (Op.stringOp .add (strB (labL x ++ wordK k)) (strB (restL k x))).run Tryz.prog w = .ok (.string (strB (labL x ++ wordK k ++ restL k x))) w := fun w => run_strAdd _ _ (by rw [List.length_append]; omega) w
  have k3 : ∀ w, (Op.stringOp .add (strB (labL x ++ wordK k ++ restL k x)) ⟨#[59, 10]⟩).run Tryz.prog w = .ok (.string (strB (lineS x))) w := fun w => by rw [HLN.out]; exact run_strAdd _ [59, 10] (by simp only [List.length_append, List.length_cons, List.length_nil]; omega) w
  have hkI : (k : Int) < 6 := by omega
  obtain ⟨w1, hw1⟩ : ∃ w1, w.alloc (.cells #[.string (strB x.label), .int .i64 x.kind, .string (strB x.text), .slice P m c, .int .i64 x.n, .string (strB x.dst), .int .i64 x.pos] 36) = w1 := ⟨_, rfl⟩
  have hK1 : Blk w1 w.heap.size 36 #[.string (strB x.label), .int .i64 x.kind, .string (strB x.text), .slice P m c, .int .i64 x.n, .string (strB x.dst), .int .i64 x.pos] := by rw [← hw1]; exact Blk.new w _ _
  have hB1 : Below w.heap.size w w1 := by rw [← hw1]; exact (Below.refl _ _).alloc (Nat.le_refl _) _
  have c0 : w1.cell? ⟨w.heap.size, 0, none⟩ = some (.string (strB x.label)) := hK1.cell 0
  have c1 : w1.cell? ⟨w.heap.size, 1, none⟩ = some (.int .i64 x.kind) := hK1.cell 1
  have cf := hK1.frozen 1
  obtain ⟨w4, hw4⟩ : ∃ w4, w1.setCell ⟨w.heap.size, 1, none⟩ (.int .i64 (k : Int)) = w4 := ⟨_, rfl⟩
  have hK4 : Blk w4 w.heap.size 36 #[.string (strB x.label), .int .i64 (k : Int), .string (strB x.text), .slice P m c, .int .i64 x.n, .string (strB x.dst), .int .i64 x.pos] := by rw [← hw4]; exact hK1.put 1 _
  have hB4 : Below w.heap.size w w4 := by rw [← hw4]; exact hB1.setCell (p := ⟨w.heap.size, 1, none⟩) (Nat.le_refl _) _
  have HB4 := keepHid hB4
  have HT4 := keepHid (hT.below hB4 (Nat.le_refl _))
  have HA4 := keepHid (hA.below hB4 (Nat.le_refl _))
  have HWD : Hid (∀ w', Calls Tryz.prog 33 #[] w' fun e w'' => (∃ G, e = .returned (.slice (some ⟨G, 0, none⟩) 6 6) ∧ w''.cell? ⟨G, k, none⟩ = some (.string (strB (wordK k)))) ∧ Below w'.heap.size w' w'') := keepHid (fun w' => (words_any w').mono fun e w'' ⟨h1, h2, h3⟩ => ⟨⟨_, h1, h3.2 k _ (word_at hk5)⟩, h2⟩)
  have HRE : Hid (∀ w', Below w4.heap.size w4 w' → Calls Tryz.prog 34 #[.agg #[.string (strB x.label), .int .i64 (k : Int), .string (strB x.text), .slice P m c, .int .i64 x.n, .string (strB x.dst), .int .i64 x.pos]] w' fun e w'' => e = .returned (.string (strB (restL k x))) ∧ Below w'.heap.size w' w'') := keepHid (fun w' hb => HRA.out w' (HT4.out.below hb (Nat.le_refl _)) (HA4.out.below hb (Nat.le_refl _)))
  have p0 : w4.cell? ⟨w.heap.size, 0, none⟩ = some (.string (strB x.label)) := hK4.cell 0
  have p1 : w4.cell? ⟨w.heap.size, 1, none⟩ = some (.int .i64 (k : Int)) := hK4.cell 1
  have p2 : w4.cell? ⟨w.heap.size, 2, none⟩ = some (.string (strB x.text)) := hK4.cell 2
  have p3 : w4.cell? ⟨w.heap.size, 3, none⟩ = some (.slice P m c) := hK4.cell 3
  have p4 : w4.cell? ⟨w.heap.size, 4, none⟩ = some (.int .i64 x.n) := hK4.cell 4
  have p5 : w4.cell? ⟨w.heap.size, 5, none⟩ = some (.string (strB x.dst)) := hK4.cell 5
  have p6 : w4.cell? ⟨w.heap.size, 6, none⟩ = some (.int .i64 x.pos) := hK4.cell 6
  have HCL : Hid (∀ w', Below w4.heap.size w4 w' → ∀ w5, Below w'.heap.size w' w5 → Below w4.heap.size w4 w5 ∧ w5.cell? ⟨w.heap.size, 0, none⟩ = some (.string (strB x.label)) ∧ w5.cell? ⟨w.heap.size, 1, none⟩ = some (.int .i64 (k : Int)) ∧ w5.cell? ⟨w.heap.size, 2, none⟩ = some (.string (strB x.text)) ∧ w5.cell? ⟨w.heap.size, 3, none⟩ = some (.slice P m c) ∧ w5.cell? ⟨w.heap.size, 4, none⟩ = some (.int .i64 x.n) ∧ w5.cell? ⟨w.heap.size, 5, none⟩ = some (.string (strB x.dst)) ∧ w5.cell? ⟨w.heap.size, 6, none⟩ = some (.int .i64 x.pos)) := keepHid (fun w' h w5 h5 => by
    have hb : Below w4.heap.size w4 w5 := h.trans (h5.mono h.size)
    have hk := hK4.below hb hK4.lt
    exact ⟨hb, hk.cell 0, hk.cell 1, hk.cell 2, hk.cell 3, hk.cell 4, hk.cell 5, hk.cell 6⟩)
  have HFI : Hid (∀ w5, Below w4.heap.size w4 w5 → Below w.heap.size w w5) := keepHid (fun w5 h => hB4.trans (h.mono hB4.size))
  have hlab : (x.label = [] ∧ labL x = []) ∨ (x.label ≠ [] ∧ labL x = x.label ++ [58, 32]) := by
    unfold labL
    by_cases h : x.label = []
    · exact .inl ⟨h, by rw [if_pos h]⟩
    · exact .inr ⟨h, by rw [if_neg h]⟩
  have hse : (strB x.label).toList = x.label := strB_toList _
  have hlk : ∀ w, labL x = x.label ++ [58, 32] → (Op.stringOp .add (strB x.label) ⟨#[58, 32]⟩).run Tryz.prog w = .ok (.string (strB (labL x))) w := fun w h => by rw [h]; exact run_strAdd _ [58, 32] (by rw [h] at hz; simp only [List.length_append, List.length_cons, List.length_nil] at hz ⊢; omega) w
  clear hz hF hT hA hB1 hB4 hK1 hK4 HRA hk5 HT4 HA4 hM1 hmm hk HLN
  obtain ⟨LL, hLL⟩ : ∃ LL, strB (labL x) = LL := ⟨_, rfl⟩
  rw [hLL] at k1 hlk
  have HLB : Hid ((LL = ⟨#[]⟩ ∧ (strB x.label).toList = [] ∧ (strB x.label).toList.isEmpty = true) ∨ (¬ (strB x.label).toList = [] ∧ (strB x.label).toList.isEmpty = false ∧ ∀ w, (Op.stringOp .add (strB x.label) ⟨#[58, 32]⟩).run Tryz.prog w = .ok (.string LL) w)) := keepHid (by
    rcases hlab with ⟨h1, h2⟩ | ⟨h1, h2⟩
    · exact .inl ⟨by rw [← hLL, h2]; rfl, by rw [hse]; exact h1, by rw [hse, h1]; rfl⟩
    · exact .inr ⟨by rw [hse]; exact h1, by rw [hse]; simpa using h1, fun w => hlk w h2⟩)
  clear hlab hse hlk hLL
  generalize strB (lineS x) = S4 at *
  generalize strB (labL x ++ wordK k ++ restL k x) = S3 at *
  generalize strB (labL x ++ wordK k) = S2 at *
  generalize strB (wordK k) = WK at *
  generalize strB (restL k x) = RS at *
  generalize strB x.label = LB at *
  generalize strB x.text = TX at *
  generalize strB x.dst = DD at *
  go_enter Tryz.func24, Tryz.ntmps24
  go_upto_if 6 with fail
  go_cut [3] (fun s wx => s = .string LL ∧ wx = w1)
  case first =>
    try rw [hw1]
    clear hw4 HCL HWD HRE HFI p0 p1 p2 p3 p4 p5 p6 cf qm1 qm2 k1 k2 k3
    rcases HLB.out with ⟨rfl, h1, h2⟩ | ⟨h1, h2, h3⟩
    all_goals
      simp only [h2, Bool.not_true, Bool.not_false]
      go_wp2_with fail
      go_meet
      case rel => exact ⟨rfl, rfl⟩
  case rest =>
    obtain ⟨rfl, rfl⟩ := hcut
    clear HLB
    go_upto_region 5 with fail
    try rw [hw4]
    clear hw1 hw4 c0 c1 cf
    go_region_with (first
      | (go_at_call 33; (with_reducible refine (HWD.out _).mono ?_); rintro e w6 ⟨⟨G6, rfl, hc6⟩, hb6⟩; obtain ⟨hbw, q0, q1, q2, q3, q4, q5, q6⟩ := HCL.out _ (by first | exact Below.refl _ _ | exact (Below.refl _ _).drew | exact HBR.out | exact HBR.out.drew) _ hb6; have HBW := keepHid hbw; have HG6 := keepHid (World.block_lt_of_cell? _ _ hc6); clear hbw hb6)
      | (go_at_call 34; (with_reducible refine (HRE.out _ (by first | exact Below.refl _ _ | exact (Below.refl _ _).drew | exact HBW.out | exact HBW.out.drew)).mono ?_); rintro e w7 ⟨rfl, hb7⟩; (try (have hc7 := (hb7.cell HG6.out).trans hc6)); obtain ⟨hbr, r0, r1, r2, r3, r4, r5, r6⟩ := HCL.out _ (by first | exact Below.refl _ _ | exact (Below.refl _ _).drew | exact HBW.out | exact HBW.out.drew) _ hb7; have HBR := keepHid hbr; clear hbr hb7))
    all_goals
      go_wp2
      go_ret
      first
        | exact ⟨rfl, HFI.out _ HBR.out⟩
        | exact ⟨rfl, HFI.out _ (below_drewN HBR.out _)⟩


theorem text_stake {ss : List Sp} {k : Nat} {x : Sp} (h : ss[k]? = some x) : textS (ss.take (k + 1)) = textS (ss.take k) ++ lineS x := by
  unfold textS
  rw [List.take_succ_of h, List.flatMap_append]; simp
theorem text_stake_le (ss : List Sp) (k : Nat) : (textS (ss.take k)).length ≤ (textS ss).length := by
  have h : textS ss = textS (ss.take k) ++ textS (ss.drop k) := by
    unfold textS
    rw [← List.flatMap_append, List.take_append_drop]
  rw [h, List.length_append]; omega
set_option maxRecDepth 100000 in
set_option maxHeartbeats 4000000 in
theorem dtext_any (ss : List Sp) (A : Option Addr) (n c : Nat) (hF : ∀ x ∈ ss, SpF x) (ht : (textS ss).length ≤ 70368744177664) (w : World) (hT : NumT w) (hS : StS w A n ss) :
    Calls Tryz.prog 10 #[.slice A n c] w fun r w' => r = .returned (.string (strB (textS ss))) ∧ Below w.heap.size w w' := by
  obtain ⟨w1, hw1⟩ : ∃ w1, w.alloc (.cells #[.pointer none, .slice none 0 0] 67) = w1 := ⟨_, rfl⟩
  have HI1 : Hid (Bld w1 w.heap.size (textS (ss.take 0))) := keepHid (by rw [← hw1]; exact Lib.IsBuilderF.of (Lib.fresh_isBuilder _ _ w))
  have HB1 : Hid (Below w.heap.size w w1) := keepHid (by rw [← hw1]; exact (Below.refl _ w).alloc (Nat.le_refl _) _)
  have HS := keepHid hS
  have HT := keepHid hT
  have HF := keepHid hF
  have HTL := keepHid ht
  have HN := keepHid hS.len
  have hn : n ≤ 9223372036854775807 := hS.2.1
  clear hS hT hF ht
  go_enter Tryz.func10, Tryz.ntmps10
  go_wp2_with fail
  try rw [hw1]
  clear hw1
  go_loopw [8] (fun iv wr => ∃ k : Nat, k ≤ n ∧ iv = .int .i64 (k : Int) ∧ Hid (Bld wr w.heap.size (textS (ss.take k))) ∧ Hid (Below w.heap.size w wr)) (fun iv _ => n - (intOf iv).toNat)
  case atStart => exact ⟨0, Nat.zero_le _, rfl, HI1, HB1⟩
  case round =>
    obtain ⟨k, hk, rfl, HI, HB⟩ := hrel
    generalize wr = wq at *
    by_cases hlt : k < n
    · obtain ⟨x, hx⟩ : ∃ x, ss[k]? = some x := ⟨_, List.getElem?_eq_getElem (by rw [HN.out]; exact hlt)⟩
      have hf := HF.out x (List.mem_of_getElem? hx)
      obtain ⟨ad, P, m, cc, rfl, hadl, a0, a1, a2, a3, a4, a5, a6, hA, hmc⟩ := (HS.out.below HB.out (Nat.le_refl _)).at_ hx
      have HTK := keepHid (text_stake hx)
      have HLN : Hid ((textS (ss.take k)).length + (lineS x).length ≤ 140737488355328) := keepHid (by
        have h1 := text_stake_le ss (k + 1)
        rw [HTK.out, List.length_append] at h1
        have := HTL.out
        omega)
      have hk' : (k : Int) < (n : Int) := by omega
      have HLA := keepHid (fun w hT hA => dline_any x hf P m cc w hT hA)
      have HWS := keepHid (fun w' h1 h2 => write_str w.heap.size (textS (ss.take k)) (lineS x) w' h1 HLN.out h2)
      obtain ⟨w2, hw2⟩ : ∃ w2, wq.alloc (.cells #[.string (strB x.label), .int .i64 x.kind, .string (strB x.text), .slice P m cc, .int .i64 x.n, .string (strB x.dst), .int .i64 x.pos] 36) = w2 := ⟨_, rfl⟩
      have hK2 : Blk w2 wq.heap.size 36 #[.string (strB x.label), .int .i64 x.kind, .string (strB x.text), .slice P m cc, .int .i64 x.n, .string (strB x.dst), .int .i64 x.pos] := by rw [← hw2]; exact Blk.new wq _ _
      have hB2 : Below wq.heap.size wq w2 := by rw [← hw2]; exact (Below.refl _ _).alloc (Nat.le_refl _) _
      have b0 := hK2.cell 0
      have b1 := hK2.cell 1
      have b2 := hK2.cell 2
      have b3 := hK2.cell 3
      have b4 := hK2.cell 4
      have b5 := hK2.cell 5
      have b6 := hK2.cell 6
      simp at b0 b1 b2 b3 b4 b5 b6
      have HA2 := keepHid (hA.below hB2 (Nat.le_refl _))
      have HI2 := keepHid (bld_below HI.out hB2)
      have HB2 := keepHid (HB.out.trans (hB2.mono HB.out.size))
      have HT2 := keepHid (HT.out.below HB2.out (Nat.le_refl _))
      clear hx hK2 hB2 HI hf hA hmc
      generalize strB x.label = LB at *
      generalize strB x.text = TX at *
      generalize strB x.dst = DD at *
      generalize lineS x = LN at *
      go_wp2_with fail
      refine (HLA.out _ HT2.out HA2.out).mono ?_
      rintro r w3 ⟨rfl, hb3⟩
      have HI3 := keepHid (bld_below HI2.out hb3)
      have HB3 := keepHid (HB2.out.trans (hb3.mono HB2.out.size))
      clear hb3 b0 b1 b2 b3 b4 b5 b6 HI2
      go_wp2_with fail
      refine (HWS.out _ HI3.out HB3.out.size).mono ?_
      rintro r w4 ⟨rfl, hi4, hb4⟩
      have HI4 := keepHid hi4
      have HB4 := keepHid (HB3.out.trans hb4)
      clear hi4 hb4 hw2
      go_wp2
      go_roundw
      case rel => exact ⟨k + 1, by omega, by go_num, keepHid (by rw [HTK.out]; exact HI4.out), HB4⟩
      case measure => simp [intOf]; omega
    · obtain rfl : k = n := by omega
      have hall : ss.take k = ss := List.take_of_length_le (by rw [HN.out]; exact Nat.le_refl _)
      rw [hall] at HI
      have HSS := keepHid (btext_any w.heap.size (textS ss) wq HI.out HB.out.size)
      clear hall
      go_wp2_with fail
      refine HSS.out.mono ?_
      rintro r w2 ⟨rfl, hb2⟩
      have HB2 := keepHid (HB.out.trans hb2)
      clear hb2
      go_wp2
      go_ret
      exact ⟨rfl, HB2.out⟩

/-! ### where a label is -/
def findG (ls : List (List UInt8)) (l : List UInt8) (i : Nat) : Int := match ls with
  | [] => -1
  | x :: r => if x = l then (i : Int) else findG r l (i + 1)
def findS (ss : List Sp) (l : List UInt8) : Int := if l = [] then -1 else findG (ss.map Sp.label) l 0
theorem find_drop {ss : List Sp} {k : Nat} {x : Sp} {l : List UInt8} (h : ss[k]? = some x) : findG ((ss.drop k).map Sp.label) l k = if x.label = l then (k : Int) else findG ((ss.drop (k + 1)).map Sp.label) l (k + 1) := by
  obtain ⟨hlt, rfl⟩ := List.getElem?_eq_some_iff.1 h
  rw [List.drop_eq_getElem_cons hlt, List.map_cons]
  rfl
set_option maxRecDepth 100000 in
set_option maxHeartbeats 4000000 in
theorem dfind_any (ss : List Sp) (l : List UInt8) (A : Option Addr) (n c : Nat) (w : World) (hS : StS w A n ss) :
    Calls Tryz.prog 16 #[.slice A n c, .string (strB l)] w fun r w' => r = .returned (.int .i64 (findS ss l)) ∧ Below w.heap.size w w' := by
  have hse : (strB l).toList = l := strB_toList _
  have hbeq := fun y => strB_beq y l
  by_cases h0 : l = []
  · have hR : findS ss l = -1 := by unfold findS; rw [if_pos h0]
    rw [hR]
    have hse2 : (strB l).toList = [] := by rw [hse]; exact h0
    have hse3 : (strB l).toList.isEmpty = true := by rw [hse2]; rfl
    clear hbeq hse hS hR h0
    generalize strB l = X at *
    go_enter Tryz.func16, Tryz.ntmps16
    go_wp2
    go_ret
    exact ⟨rfl, Below.refl _ _⟩
  have hse2 : ¬ (strB l).toList = [] := by rw [hse]; exact h0
  have hse3 : (strB l).toList.isEmpty = false := by rw [hse]; simpa using h0
  have HS := keepHid hS
  have HN := keepHid hS.len
  have hn : n ≤ 9223372036854775807 := hS.2.1
  have HR : Hid (findS ss l = findG ((ss.drop 0).map Sp.label) l 0) := keepHid (by unfold findS; rw [if_neg h0]; rfl)
  clear hS hse h0
  generalize strB l = X at *
  go_enter Tryz.func16, Tryz.ntmps16
  go_wp2_with fail
  go_loopw [11] (fun iv wr => ∃ k : Nat, k ≤ n ∧ iv = .int .i64 (k : Int) ∧ Hid (findS ss l = findG ((ss.drop k).map Sp.label) l k) ∧ Hid (Below w.heap.size w wr)) (fun iv _ => n - (intOf iv).toNat)
  case atStart => exact ⟨0, Nat.zero_le _, rfl, HR, keepHid (Below.refl _ _)⟩
  case round =>
    obtain ⟨k, hk, rfl, HK, HB⟩ := hrel
    generalize wr = wq at *
    by_cases hlt : k < n
    · obtain ⟨x, hx⟩ : ∃ x, ss[k]? = some x := ⟨_, List.getElem?_eq_getElem (by rw [HN.out]; exact hlt)⟩
      obtain ⟨ad, P, m, cc, rfl, hadl, a0, a1, a2, a3, a4, a5, a6, hA, hmc⟩ := (HS.out.below HB.out (Nat.le_refl _)).at_ hx
      have HFD := keepHid (find_drop (l := l) hx)
      have hk' : (k : Int) < (n : Int) := by omega
      obtain ⟨w2, hw2⟩ : ∃ w2, wq.alloc (.cells #[.string (strB x.label), .int .i64 x.kind, .string (strB x.text), .slice P m cc, .int .i64 x.n, .string (strB x.dst), .int .i64 x.pos] 36) = w2 := ⟨_, rfl⟩
      have hK2 : Blk w2 wq.heap.size 36 #[.string (strB x.label), .int .i64 x.kind, .string (strB x.text), .slice P m cc, .int .i64 x.n, .string (strB x.dst), .int .i64 x.pos] := by rw [← hw2]; exact Blk.new wq _ _
      have hB2 : Below wq.heap.size wq w2 := by rw [← hw2]; exact (Below.refl _ _).alloc (Nat.le_refl _) _
      have b0 := hK2.cell 0
      simp at b0
      have HB2 := keepHid (HB.out.trans (hB2.mono HB.out.size))
      have hq := hbeq x.label
      clear hx hK2 hB2 hA hmc
      generalize hLB : strB x.label = LB at *
      generalize strB x.text = TX at *
      generalize strB x.dst = DD at *
      by_cases hl : x.label = l
      · rw [decide_eq_true hl] at hq
        have HV : Hid (findS ss l = (k : Int)) := keepHid (by rw [HK.out, HFD.out, if_pos hl])
        clear hl hbeq hLB
        go_wp2
        try rw [hw2]
        go_ret
        exact ⟨by rw [HV.out]; rfl, HB2.out⟩
      · rw [decide_eq_false hl] at hq
        have HV : Hid (findS ss l = findG ((ss.drop (k + 1)).map Sp.label) l (k + 1)) := keepHid (by rw [HK.out, HFD.out, if_neg hl])
        clear hl hbeq hLB
        go_wp2
        try rw [hw2]
        go_roundw
        case rel => exact ⟨k + 1, by omega, by go_num, HV, HB2⟩
        case measure => simp [intOf]; omega
    · obtain rfl : k = n := by omega
      have HV : Hid (findS ss l = -1) := keepHid (by
        rw [HK.out, List.drop_of_length_le (by rw [HN.out]; exact Nat.le_refl _)]; rfl)
      clear hbeq
      go_wp2
      go_ret
      exact ⟨by rw [HV.out]; rfl, HB.out⟩
end Go.Proofs.YtdjmfapbaoddoaaGreatDoor
