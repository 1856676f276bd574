/-
  Numbers and lines of a board: how they are written, and read.
-/
import Derived.Test.YtonloefjhofeeaaGreatDoorBoardPlain
import Derived.Test.YtonloefjhofeeaaGreatDoorHexNum
import Derived.Test.YtonloefjhofeeaaGreatDoorHeaderParse
import Derived.Test.YtonloefjhofeeaaGreatDoorWays
import Derived.Test.YtonloefjhofeeaaGreatDoorMinMax
import Derived.Lib.QuietBelow
import Derived.Deep.DeepCutAuto
import Derived.Handy
namespace Go.Proofs.YtonloefjhofeeaaGreatDoor
open Go.RowKit
set_option linter.unusedVariables false

theorem dig_sixteen {n : Nat} (h : n < 9223372036854775808) : (digL 16 n).length ≤ 16 := digL_len (by omega) n 15 (by omega)
theorem digits_any (u : Nat) (hu : u < 9223372036854775808) (w : World) (h : Four w) :
    Calls Tryz.prog 37 #[.int .i64 (u : Int)] w fun e w' => e = .returned (.string (strB (digL 16 u))) ∧ Below w.heap.size w w' := by
  have HB := keepHid (hex16_any u hu w h)
  clear hu
  go_enter Tryz.func37, Tryz.ntmps37
  go_wp2_with (refine HB.out.mono ?_; rintro e w' ⟨rfl, hb⟩; have HB2 := keepHid hb; clear hb)
  go_ret
  exact ⟨rfl, HB2.out⟩
def PH (bs : List UInt8) (w : World) (e : Ending) (w' : World) : Prop :=
  ((∃ a : Nat, e = .returned (.tuple #[.int .u64 (a : Int), .nilIface]) ∧ a ≤ 4294967295 ∧ (Hx bs → valB 16 bs 0 = a)) ∨
   (∃ (a : Nat) (te : TypeId) (pe : Value), e = .returned (.tuple #[.int .u64 (a : Int), .iface te pe]) ∧ a ≤ 4294967295 ∧ ¬ Hx bs)) ∧ Below w.heap.size w w'
set_option maxRecDepth 100000 in
set_option maxHeartbeats 4000000 in
theorem phex_any (bs : List UInt8) (hl : bs.length ≤ 65536) (w : World) (hE : Errs w) :
    Calls Tryz.prog 95 #[.string (strB bs), .int .i64 16, .int .i64 32] w (PH bs w) := by
  have HE := keepHid hE
  clear hE
  go_enter Tryz.func95, Tryz.ntmps95
  go_wp2_with fail
  refine (uhex_any bs hl _).mono ?_
  rintro e w1 ⟨⟨a, rfl, ha, hgood⟩ | ⟨a, k, rfl, ha, hk, hno⟩, hb⟩
  · have HB := keepHid hb
    have HG := keepHid hgood
    have HA := keepHid ha
    clear hb hgood ha
    go_wp2
    go_ret2
    exact ⟨.inl ⟨a, rfl, HA.out, HG.out⟩, HB.out⟩
  · have HB := keepHid hb
    have HNO := keepHid hno
    have HA := keepHid ha
    obtain ⟨⟨te, pe, h2⟩, tr, pr, h3⟩ := HE.out.below hb (Nat.le_refl _)
    clear hb hno ha
    have hlim : (strB bs).size ≤ 281474976710656 := by rw [strB_size]; omega
    rcases hk with rfl | rfl
    · go_wp2_with fail
      refine (Tryz.strconv_toError_range _ _ _ _ _ _ hlim h3 (.inr ⟨_, _, rfl⟩)).mono ?_
      rintro e w2 ⟨N, rfl, _, _, hb2⟩
      have HB2 := keepHid (HB.out.trans (hb2.mono HB.out.size))
      clear hb2
      go_wp2
      go_ret2
      exact ⟨.inr ⟨a, _, _, rfl, HA.out, HNO.out⟩, HB2.out⟩
    · go_wp2_with fail
      refine (Tryz.strconv_toError_syntax _ _ _ _ _ _ hlim h2 (.inr ⟨_, _, rfl⟩)).mono ?_
      rintro e w2 ⟨N, rfl, _, _, hb2⟩
      have HB2 := keepHid (HB.out.trans (hb2.mono HB.out.size))
      clear hb2
      go_wp2
      go_ret2
      exact ⟨.inr ⟨a, _, _, rfl, HA.out, HNO.out⟩, HB2.out⟩
/-- What a word's number comes to. -/
def NumP (bs : List UInt8) (w : World) (e : Ending) (w' : World) : Prop :=
  ∃ (a : Nat) (ok : Bool), e = .returned (.tuple #[.int .i64 (a : Int), .bool ok]) ∧ a ≤ 4294967295 ∧ (ok = true → hexN bs = some a) ∧ (ok = false → hexN bs = none) ∧ Below w.heap.size w w'
theorem hexN_hx {bs : List UInt8} {n : Nat} (h : hexN bs = some n) : Hx bs ∧ valB 16 bs 0 = n := by
  obtain ⟨h1, rfl⟩ := hexN_is h
  exact ⟨hx_dig h1, val_dig (b := 16) (.inr rfl) n⟩
theorem str_eqB (a b : List UInt8) : ((strB a).toList == (strB b).toList) = decide (a = b) := by
  rw [strB_toList, strB_toList]
  by_cases h : a = b
  · simp [h]
  · rw [decide_eq_false h]; exact beq_eq_false_iff_ne.2 h
set_option maxRecDepth 100000 in
set_option maxHeartbeats 4000000 in
theorem number_any (bs : List UInt8) (hl : bs.length ≤ 65536) (w : World) (hE : Errs w) (h4 : Four w) :
    Calls Tryz.prog 83 #[.string (strB bs)] w (NumP bs w) := by
  have HP := keepHid (phex_any bs hl w hE)
  have H4 := keepHid h4
  clear hE h4 hl
  go_enter Tryz.func83, Tryz.ntmps83
  go_wp2_with fail
  refine HP.out.mono ?_
  rintro e w1 ⟨⟨a, rfl, ha, hgood⟩ | ⟨a, te, pe, rfl, ha, hno⟩, hb⟩
  · have HB := keepHid hb
    have ha2 : (a : Int) ≤ 4294967295 := by omega
    have hw : IntKind.i64.wrap (a : Int) = (a : Int) := by rw [IntKind.wrap_i64]; omega
    have HD := keepHid (digits_any a (by omega) w1 (H4.out.below hb (Nat.le_refl _)))
    have hq := str_eqB (digL 16 a) bs
    have HY : Hid (decide (digL 16 a = bs) = true → hexN bs = some a) := keepHid (fun e => by
      have := of_decide_eq_true e
      rw [← this]; exact hexN_dig (by omega))
    have HN : Hid (decide (digL 16 a = bs) = false → hexN bs = none) := keepHid (fun e => by
      cases hh : hexN bs with
      | none => rfl
      | some n =>
        have h1 := hexN_hx hh
        have h2 := hgood h1.1
        have h3 := (hexN_is hh).2
        exact absurd (by rw [h3, ← h1.2, h2]) (of_decide_eq_false e))
    have HA := keepHid ha
    clear hb hgood ha
    generalize decide (digL 16 a = bs) = ok at *
    generalize strB (digL 16 a) = X at *
    go_wp2_with fail
    refine HD.out.mono ?_
    rintro e w2 ⟨rfl, hb2⟩
    have HB2 := keepHid (HB.out.trans (hb2.mono HB.out.size))
    clear hb2
    go_wp2
    go_ret2
    exact ⟨a, ok, rfl, HA.out, HY.out, HN.out, HB2.out⟩
  · have HB := keepHid hb
    have ha2 : (a : Int) ≤ 4294967295 := by omega
    have hw : IntKind.i64.wrap (a : Int) = (a : Int) := by rw [IntKind.wrap_i64]; omega
    have HNO : Hid (hexN bs = none) := keepHid (by
      cases hh : hexN bs with
      | none => rfl
      | some n => exact absurd (hexN_hx hh).1 hno)
    have HA := keepHid ha
    clear hb hno ha
    go_wp2
    go_ret2
    exact ⟨a, false, rfl, HA.out, (fun e => by cases e), fun _ => HNO.out, HB.out⟩

/-! ### Lines -/
theorem ask_is (a n : Nat) : askL a n ++ [13] = [115, 117, 109, 32] ++ digL 16 a ++ [32] ++ digL 16 n ++ [13] := by simp [askL, wSum]
theorem load_is (k : Int) (a : Nat) : loadL k a ++ [13] = [108, 111, 97, 100, 32] ++ wayL k ++ [32] ++ digL 16 a ++ [13] := by simp [loadL, wLoad]
theorem lin_is (a n p : Nat) : lin20 a n p = [115, 117, 109, 32] ++ digL 16 a ++ [32] ++ digL 16 n ++ [32] ++ digL 16 p ++ [13, 10] := by simp [lin20]
set_option maxRecDepth 100000 in
theorem ask_any20 (a n : Nat) (ha : a < 9223372036854775808) (hn : n < 9223372036854775808) (w : World) (h4 : Four w) :
    Calls Tryz.prog 21 #[.int .i64 (a : Int), .int .i64 (n : Int)] w fun e w' => e = .returned (.string (strB (askL a n ++ [13]))) ∧ Below w.heap.size w w' := by
  have la := dig_sixteen ha
  have ln := dig_sixteen hn
  have H4 := keepHid h4
  have HA := keepHid (digits_any a ha w h4)
  have HN := keepHid (fun w h => digits_any n hn w h)
  have k1 : ∀ w, (Op.stringOp .add ⟨#[115, 117, 109, 32]⟩ (strB (digL 16 a))).run Tryz.prog w = .ok (.string (strB ([115, 117, 109, 32] ++ digL 16 a))) w := fun w => run_strAdd [115, 117, 109, 32] _ (by simp only [List.length_cons, List.length_nil]; omega) w
  have k2 : ∀ w, (Op.stringOp .add (strB ([115, 117, 109, 32] ++ digL 16 a)) ⟨#[32]⟩).run Tryz.prog w = .ok (.string (strB ([115, 117, 109, 32] ++ digL 16 a ++ [32]))) w := fun w => run_strAdd _ [32] (by simp only [List.length_append, List.length_cons, List.length_nil]; omega) w
  have k3 : ∀ w, (Op.stringOp .add (strB ([115, 117, 109, 32] ++ digL 16 a ++ [32])) (strB (digL 16 n))).run Tryz.prog w = .ok (.string (strB ([115, 117, 109, 32] ++ digL 16 a ++ [32] ++ digL 16 n))) w := fun w => run_strAdd _ _ (by simp only [List.length_append, List.length_cons, List.length_nil]; omega) w
  have k4 : ∀ w, (Op.stringOp .add (strB ([115, 117, 109, 32] ++ digL 16 a ++ [32] ++ digL 16 n)) ⟨#[13]⟩).run Tryz.prog w = .ok (.string (strB ([115, 117, 109, 32] ++ digL 16 a ++ [32] ++ digL 16 n ++ [13]))) w := fun w => run_strAdd _ [13] (by simp only [List.length_append, List.length_cons, List.length_nil]; omega) w
  rw [ask_is]
  generalize strB ([115, 117, 109, 32] ++ digL 16 a ++ [32] ++ digL 16 n ++ [13]) = R4 at *
  generalize strB ([115, 117, 109, 32] ++ digL 16 a ++ [32] ++ digL 16 n) = R3 at *
  generalize strB ([115, 117, 109, 32] ++ digL 16 a ++ [32]) = R2 at *
  generalize strB ([115, 117, 109, 32] ++ digL 16 a) = R1 at *
  generalize strB (digL 16 a) = X at *
  generalize strB (digL 16 n) = Y at *
  clear ha hn la ln h4
  go_enter Tryz.func21, Tryz.ntmps21
  go_wp2_with fail
  refine HA.out.mono ?_
  rintro e w1 ⟨rfl, hb⟩
  have HB := keepHid hb
  have H41 := keepHid (H4.out.below hb (Nat.le_refl _))
  clear hb
  go_wp2_with fail
  refine (HN.out w1 H41.out).mono ?_
  rintro e w2 ⟨rfl, hb2⟩
  have HB2 := keepHid (HB.out.trans (hb2.mono HB.out.size))
  clear hb2
  go_wp2
  go_ret
  exact ⟨rfl, HB2.out⟩
/-- The Way that a number comes to. -/
def way20 (z : Int) : Int := min (max z 0) 3
theorem way20_le (z : Int) : ∃ k : Nat, way20 z = (k : Int) ∧ k ≤ 3 := ⟨(way20 z).toNat, by unfold way20; omega, by unfold way20; omega⟩
set_option maxRecDepth 100000 in
theorem load_any20 (z : Int) (a : Nat) (hz : -9223372036854775808 ≤ z ∧ z ≤ 9223372036854775807) (ha : a < 9223372036854775808) (w : World) (h4 : Four w) :
    Calls Tryz.prog 20 #[.int .i64 z, .int .i64 (a : Int)] w fun e w' => e = .returned (.string (strB (loadL (way20 z) a ++ [13]))) ∧ Below w.heap.size w w' := by
  have la := dig_sixteen ha
  have H4 := keepHid h4
  have HA := keepHid (fun w h => digits_any a ha w h)
  obtain ⟨k, hk, hk3⟩ := way20_le z
  have lw := (way_noblank (way20 z)).2
  rw [hk] at lw ⊢
  have k1 : ∀ w, (Op.stringOp .add ⟨#[108, 111, 97, 100, 32]⟩ (strB (wayL (k : Int)))).run Tryz.prog w = .ok (.string (strB ([108, 111, 97, 100, 32] ++ wayL (k : Int)))) w := fun w => run_strAdd [108, 111, 97, 100, 32] _ (by simp only [List.length_cons, List.length_nil]; omega) w
  have k2 : ∀ w, (Op.stringOp .add (strB ([108, 111, 97, 100, 32] ++ wayL (k : Int))) ⟨#[32]⟩).run Tryz.prog w = .ok (.string (strB ([108, 111, 97, 100, 32] ++ wayL (k : Int) ++ [32]))) w := fun w => run_strAdd _ [32] (by simp only [List.length_append, List.length_cons, List.length_nil]; omega) w
  have k3 : ∀ w, (Op.stringOp .add (strB ([108, 111, 97, 100, 32] ++ wayL (k : Int) ++ [32])) (strB (digL 16 a))).run Tryz.prog w = .ok (.string (strB ([108, 111, 97, 100, 32] ++ wayL (k : Int) ++ [32] ++ digL 16 a))) w := fun w => run_strAdd _ _ (by simp only [List.length_append, List.length_cons, List.length_nil]; omega) w
  have k4 : ∀ w, (Op.stringOp .add (strB ([108, 111, 97, 100, 32] ++ wayL (k : Int) ++ [32] ++ digL 16 a)) ⟨#[13]⟩).run Tryz.prog w = .ok (.string (strB ([108, 111, 97, 100, 32] ++ wayL (k : Int) ++ [32] ++ digL 16 a ++ [13]))) w := fun w => run_strAdd _ [13] (by simp only [List.length_append, List.length_cons, List.length_nil]; omega) w
  have HW : Hid (∀ w : World, Calls Tryz.prog 38 #[] w fun e w' => e = .returned (.slice (some ⟨w.heap.size, 0, none⟩) 4 4) ∧ w'.cell? ⟨w.heap.size, k, none⟩ = some (.string (strB (wayL (k : Int)))) ∧ Below w.heap.size w w') := keepHid (fun w => (ways_any w).mono fun e w' h => ⟨h.1, h.2.2.at_ hk3, h.2.1⟩)
  rw [load_is]
  generalize strB ([108, 111, 97, 100, 32] ++ wayL (k : Int) ++ [32] ++ digL 16 a ++ [13]) = R4 at *
  generalize strB ([108, 111, 97, 100, 32] ++ wayL (k : Int) ++ [32] ++ digL 16 a) = R3 at *
  generalize strB ([108, 111, 97, 100, 32] ++ wayL (k : Int) ++ [32]) = R2 at *
  generalize strB ([108, 111, 97, 100, 32] ++ wayL (k : Int)) = R1 at *
  generalize strB (digL 16 a) = X at *
  generalize strB (wayL (k : Int)) = Y at *
  have hmm : min (max z 0) 3 = (k : Int) := hk
  clear ha la lw h4 hk
  go_enter Tryz.func20, Tryz.ntmps20
  go_wp2_with fail
  refine (HW.out w).mono ?_
  rintro e w1 ⟨rfl, hc, hb⟩
  have HB := keepHid hb
  have H41 := keepHid (H4.out.below hb (Nat.le_refl _))
  have hk4 : (k : Int) < 4 := by omega
  generalize w.heap.size = g at hc ⊢
  clear hb
  go_wp2_with fail
  refine (HA.out w1 H41.out).mono ?_
  rintro e w2 ⟨rfl, hb2⟩
  have HB2 := keepHid (HB.out.trans (hb2.mono HB.out.size))
  clear hb2
  go_wp2
  go_ret
  exact ⟨rfl, HB2.out⟩
set_option maxRecDepth 100000 in
set_option maxHeartbeats 4000000 in
theorem line_any20 (a n p : Nat) (ha : a < 9223372036854775808) (hn : n < 9223372036854775808) (hp : p < 4294967296) (w : World) (h4 : Four w) :
    Calls Tryz.prog 19 #[.agg #[.int .i64 (a : Int), .int .i64 (n : Int), .int .u32 (p : Int)]] w fun e w' => e = .returned (.string (strB (lin20 a n p))) ∧ Below w.heap.size w w' := by
  have la := dig_sixteen ha
  have ln := dig_sixteen hn
  have lp := dig_sixteen (n := p) (by omega)
  have HA := keepHid (fun w h => digits_any a ha w h)
  have HN := keepHid (fun w h => digits_any n hn w h)
  have HP := keepHid (fun w h => digits_any p (by omega) w h)
  have k1 : ∀ w, (Op.stringOp .add ⟨#[115, 117, 109, 32]⟩ (strB (digL 16 a))).run Tryz.prog w = .ok (.string (strB ([115, 117, 109, 32] ++ digL 16 a))) w := fun w => run_strAdd [115, 117, 109, 32] _ (by simp only [List.length_cons, List.length_nil]; omega) w
  have k2 : ∀ w, (Op.stringOp .add (strB ([115, 117, 109, 32] ++ digL 16 a)) ⟨#[32]⟩).run Tryz.prog w = .ok (.string (strB ([115, 117, 109, 32] ++ digL 16 a ++ [32]))) w := fun w => run_strAdd _ [32] (by simp only [List.length_append, List.length_cons, List.length_nil]; omega) w
  have k3 : ∀ w, (Op.stringOp .add (strB ([115, 117, 109, 32] ++ digL 16 a ++ [32])) (strB (digL 16 n))).run Tryz.prog w = .ok (.string (strB ([115, 117, 109, 32] ++ digL 16 a ++ [32] ++ digL 16 n))) w := fun w => run_strAdd _ _ (by simp only [List.length_append, List.length_cons, List.length_nil]; omega) w
  have k4 : ∀ w, (Op.stringOp .add (strB ([115, 117, 109, 32] ++ digL 16 a ++ [32] ++ digL 16 n)) ⟨#[32]⟩).run Tryz.prog w = .ok (.string (strB ([115, 117, 109, 32] ++ digL 16 a ++ [32] ++ digL 16 n ++ [32]))) w := fun w => run_strAdd _ [32] (by simp only [List.length_append, List.length_cons, List.length_nil]; omega) w
  have k5 : ∀ w, (Op.stringOp .add (strB ([115, 117, 109, 32] ++ digL 16 a ++ [32] ++ digL 16 n ++ [32])) (strB (digL 16 p))).run Tryz.prog w = .ok (.string (strB ([115, 117, 109, 32] ++ digL 16 a ++ [32] ++ digL 16 n ++ [32] ++ digL 16 p))) w := fun w => run_strAdd _ _ (by simp only [List.length_append, List.length_cons, List.length_nil]; omega) w
  have k6 : ∀ w, (Op.stringOp .add (strB ([115, 117, 109, 32] ++ digL 16 a ++ [32] ++ digL 16 n ++ [32] ++ digL 16 p)) ⟨#[13, 10]⟩).run Tryz.prog w = .ok (.string (strB ([115, 117, 109, 32] ++ digL 16 a ++ [32] ++ digL 16 n ++ [32] ++ digL 16 p ++ [13, 10]))) w := fun w => run_strAdd _ [13, 10] (by simp only [List.length_append, List.length_cons, List.length_nil]; omega) w
  rw [lin_is]
  generalize strB ([115, 117, 109, 32] ++ digL 16 a ++ [32] ++ digL 16 n ++ [32] ++ digL 16 p ++ [13, 10]) = R6 at *
  generalize strB ([115, 117, 109, 32] ++ digL 16 a ++ [32] ++ digL 16 n ++ [32] ++ digL 16 p) = R5 at *
  generalize strB ([115, 117, 109, 32] ++ digL 16 a ++ [32] ++ digL 16 n ++ [32]) = R4 at *
  generalize strB ([115, 117, 109, 32] ++ digL 16 a ++ [32] ++ digL 16 n) = R3 at *
  generalize strB ([115, 117, 109, 32] ++ digL 16 a ++ [32]) = R2 at *
  generalize strB ([115, 117, 109, 32] ++ digL 16 a) = R1 at *
  generalize strB (digL 16 a) = X at *
  generalize strB (digL 16 n) = Y at *
  generalize strB (digL 16 p) = Z at *
  obtain ⟨w1, hw1⟩ : ∃ w1, w.alloc (.cells #[.int .i64 (a : Int), .int .i64 (n : Int), .int .u32 (p : Int)] 54) = w1 := ⟨_, rfl⟩
  have hb1 : Below w.heap.size w w1 := by rw [← hw1]; exact (Below.refl _ _).alloc (Nat.le_refl _) _
  have hK1 : Blk w1 w.heap.size 54 #[.int .i64 (a : Int), .int .i64 (n : Int), .int .u32 (p : Int)] := by rw [← hw1]; exact Blk.new w _ _
  have H41 := keepHid (h4.below hb1 (Nat.le_refl _))
  have HB1 := keepHid hb1
  have d0 := fun q os => cell_regrown (show w1.cell? ⟨w.heap.size, 0, none⟩ = some (.int .i64 (a : Int)) from hK1.cell 0) q os
  have d1 := fun q os => cell_regrown (show w1.cell? ⟨w.heap.size, 1, none⟩ = some (.int .i64 (n : Int)) from hK1.cell 1) q os
  have d2 := fun q os => cell_regrown (show w1.cell? ⟨w.heap.size, 2, none⟩ = some (.int .u32 (p : Int)) from hK1.cell 2) q os
  have hwr : IntKind.i64.wrap (p : Int) = (p : Int) := by rw [IntKind.wrap_i64]; omega
  have CA := keepHid (fun d os => Calls.regrown_of (HA.out (Sort.grow (redrawn w1 d) os) (H41.out.below (below_regrown w1 d os) (Nat.le_refl _))))
  have CN := keepHid (fun d os => Calls.regrown_of (HN.out (Sort.grow (redrawn w1 d) os) (H41.out.below (below_regrown w1 d os) (Nat.le_refl _))))
  have CP := keepHid (fun d os => Calls.regrown_of (HP.out (Sort.grow (redrawn w1 d) os) (H41.out.below (below_regrown w1 d os) (Nat.le_refl _))))
  clear ha hn hp la ln lp h4 hb1 hK1 HA HN HP
  go_enter Tryz.func19, Tryz.ntmps19
  go_upto_region 1 with fail
  try rw [hw1]
  clear hw1
  refine wp_region_quiet_below (by kernel_rfl) (by kernel_rfl) ?_
  repeat (go_big_quiet_step (first | (with_reducible exact CA.out _ _) | (with_reducible exact CN.out _ _) | (with_reducible exact CP.out _ _)))
  refine wpQuiet_nil ?_
  intro _ hw'
  obtain ⟨⟨dq, osq⟩, hw''⟩ := hw'
  subst hw''
  have HB3 := keepHid (HB1.out.trans ((below_regrown w1 dq osq).mono HB1.out.size))
  clear d0 d1 d2 CA CN CP
  go_wp2
  go_ret
  exact ⟨rfl, HB3.out⟩
end Go.Proofs.YtonloefjhofeeaaGreatDoor
