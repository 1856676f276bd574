/-
  The token that begins a text: what its reader answers.
-/
import Derived.Test.YtkhhcclomjfliaaGreatDoorTokenText
import Derived.Test.YtkhhcclomjfliaaGreatDoorTokenPlay
namespace Go.Proofs.YtkhhcclomjfliaaGreatDoor
open Go.RowKit
set_option linter.unusedVariables false

theorem resV_form (x : Option (Tk × Nat)) : ∃ (k : Int) (S : ByteArray) (v q n : Int), resV x = .tuple #[.agg #[.int .i64 k, .string S, .int .i64 v, .int .i64 q], .int .i64 n] := by
  cases x with
  | none => exact ⟨0, ⟨#[]⟩, 0, 0, 0, rfl⟩
  | some y => exact ⟨y.1.kind, strB y.1.text, y.1.val, y.1.pos, y.2, rfl⟩
theorem tnumber_any (l : List UInt8) (hl : l.length ≤ 4096) (w : World) (hE : Errs w) :
    Calls Tryz.prog 50 #[.string (strB l)] w fun e w' => e = .returned (resV (numT l)) ∧ Below w.heap.size w w' := by
  cases hx : isHex l with
  | false => exact number10 l hl hx w hE
  | true => exact number16 l hl hx w hE
theorem quo_let : letL.contains 34 = false := by decide
theorem quo_dec : decL.contains 34 = false := by decide

set_option maxRecDepth 100000 in
set_option maxHeartbeats 4000000 in
theorem first_any (c : UInt8) (r : List UInt8) (hl : (c :: r).length ≤ 4096) (w : World) (hE : Errs w) :
    Calls Tryz.prog 29 #[.string (strB (c :: r))] w fun e w' => e = .returned (resV (firstT (c :: r))) ∧ Below w.heap.size w w' := by
  obtain ⟨w1, hw1⟩ : ∃ w1, w.alloc (.cells #[.int .i64 0, .string ⟨#[]⟩, .int .i64 0, .int .i64 0] 52) = w1 := ⟨_, rfl⟩
  have HR := keepHid (tok_new w w1 hw1)
  have HE := keepHid (hE.below HR.out.2 (Nat.le_refl _))
  have hidx := fun w => run_idx (l := c :: r) (k := 0) (c := c) rfl 0 rfl w
  have H1 : Hid (∀ w, Calls Tryz.prog 27 #[.string ⟨#[97, 98, 99, 100, 101, 102, 103, 104, 105, 106, 107, 108, 109, 110, 111, 112, 113, 114, 115, 116, 117, 118, 119, 120, 121, 122]⟩, .int .u8 (c.toNat : Int)] w fun e w' => e = .returned (.bool (letL.contains c)) ∧ w' = w) := keepHid (has_any letL c)
  have H2 : Hid (∀ w, Calls Tryz.prog 27 #[.string ⟨#[48, 49, 50, 51, 52, 53, 54, 55, 56, 57]⟩, .int .u8 (c.toNat : Int)] w fun e w' => e = .returned (.bool (decL.contains c)) ∧ w' = w) := keepHid (has_any decL c)
  have H3 : Hid (∀ w, Calls Tryz.prog 27 #[.string ⟨#[58, 59, 44, 123, 125]⟩, .int .u8 (c.toNat : Int)] w fun e w' => e = .returned (.bool (signL.contains c)) ∧ w' = w) := keepHid (has_any signL c)
  have HP := keepHid (plain_any 1 (c :: r) (runOf wordL (c :: r)).length (runOf_len _ _) (by omega))
  have HRUN : Hid (∀ w, Calls Tryz.prog 49 #[.string (strB (c :: r)), .string ⟨#[97, 98, 99, 100, 101, 102, 103, 104, 105, 106, 107, 108, 109, 110, 111, 112, 113, 114, 115, 116, 117, 118, 119, 120, 121, 122, 48, 49, 50, 51, 52, 53, 54, 55, 56, 57, 45]⟩] w fun e w' => e = .returned (.int .i64 ((runOf wordL (c :: r)).length : Int)) ∧ Below w.heap.size w w') := keepHid (run_any (c :: r) wordL (by decide) asc_word (by omega))
  have HN := keepHid (tnumber_any (c :: r) hl)
  have HT := keepHid (text_any (c :: r) hl (by simp))
  have HSG := keepHid (plain_any 4 (c :: r) 1 (by simp) (by omega))
  obtain ⟨k, S, v, q, n, hres⟩ := resV_form (firstT (c :: r))
  have HRES := keepHid hres
  have HQ : Hid ((c = 34) ↔ c.toNat = 34) := keepHid ⟨fun h => by rw [h]; rfl, fun h => UInt8.toNat_inj.1 h⟩
  rw [hres]
  cases hb1 : letL.contains c with
  | true =>
    have hf := hres
    rw [first_let (c := c) (r := r) hb1] at hf
    have hk : S = strB ((c :: r).take (runOf wordL (c :: r)).length) ∧ k = 1 ∧ v = 0 ∧ q = 0 ∧ n = ((runOf wordL (c :: r)).length : Int) := by
      rw [runOf_take]
      simp [resV, tkA] at hf
      exact ⟨hf.1.2.1.symm, hf.1.1.symm, hf.1.2.2.1.symm, hf.1.2.2.2.symm, hf.2.symm⟩
    obtain ⟨rfl, rfl, rfl, rfl, rfl⟩ := hk
    unfold tkA at HP
    rw [hb1] at H1
    generalize strB ((c :: r).take (runOf wordL (c :: r)).length) = S at *
    generalize ((runOf wordL (c :: r)).length : Int) = n at *
    generalize strB (c :: r) = X at *
    generalize (c.toNat : Int) = cn at *
    clear hf hres hb1 H2 H3 HN HT HSG hE HRES
    go_enter Tryz.func29, Tryz.ntmps29
    go_wp2_with ((with_reducible refine (H1.out _).mono ?_); rintro e w' ⟨rfl, rfl⟩)
    clear hw1
    refine (HRUN.out _).mono ?_
    rintro e w2 ⟨rfl, hb2⟩
    have HB2 := keepHid (HR.out.2.trans (hb2.mono HR.out.2.size))
    have HK2 := keepHid (HR.out.1.below hb2 HR.out.1.lt)
    clear hb2
    go_wp2_with fail
    refine (HP.out _).mono ?_
    rintro e w3 ⟨rfl, hb3⟩
    have HB3 := keepHid (HB2.out.trans (hb3.mono HB2.out.size))
    have HK3 := keepHid (HK2.out.below hb3 HK2.out.lt)
    obtain ⟨c0, c1, c2, c3, cf⟩ := blk4 HK3.out
    clear hb3
    go_wp2
    refine bodyPost_ret (tok_res rfl _ _ w.heap.size 1 S 0 0 (put4 HK3.out) rfl _ rfl) rfl ?_
    exact ⟨rfl, set4 HB3.out (Nat.le_refl _) _ _ _ _⟩
  | false =>
    rw [hb1] at H1
    cases hb2 : decL.contains c with
    | true =>
      rw [first_dec (c := c) (r := r) hb1 hb2] at hres
      rw [hres] at HN
      rw [hb2] at H2
      generalize strB (c :: r) = X at *
      generalize (c.toNat : Int) = cn at *
      clear hres hb1 hb2 H3 HRUN HP HT HSG hE HRES
      go_enter Tryz.func29, Tryz.ntmps29
      go_wp2_with (first | ((with_reducible refine (H1.out _).mono ?_); rintro e w' ⟨rfl, rfl⟩) | ((with_reducible refine (H2.out _).mono ?_); rintro e w' ⟨rfl, rfl⟩))
      clear hw1
      refine (HN.out _ HE.out).mono ?_
      rintro e w3 ⟨rfl, hb3⟩
      have HB3 := keepHid (HR.out.2.trans (hb3.mono HR.out.2.size))
      have HK3 := keepHid (HR.out.1.below hb3 HR.out.1.lt)
      obtain ⟨c0, c1, c2, c3, cf⟩ := blk4 HK3.out
      clear hb3
      go_wp2
      refine bodyPost_ret (tok_res rfl _ _ w.heap.size k S v q (put4 HK3.out) rfl _ rfl) rfl ?_
      exact ⟨rfl, set4 HB3.out (Nat.le_refl _) _ _ _ _⟩
    | false =>
      rw [hb2] at H2
      by_cases h34 : c = 34
      · rw [first_quo (c := c) (r := r) h34] at hres
        rw [hres] at HT
        subst h34
        have hidx' : ∀ w, (Instr.index 9 (.string (strB (34 :: r))) (.int .i64 0)).run Tryz.prog w = .ok (.int .u8 34) w := hidx
        have H1' : Hid (∀ w, Calls Tryz.prog 27 #[.string ⟨#[97, 98, 99, 100, 101, 102, 103, 104, 105, 106, 107, 108, 109, 110, 111, 112, 113, 114, 115, 116, 117, 118, 119, 120, 121, 122]⟩, .int .u8 34] w fun e w' => e = .returned (.bool false) ∧ w' = w) := keepHid H1.out
        have H2' : Hid (∀ w, Calls Tryz.prog 27 #[.string ⟨#[48, 49, 50, 51, 52, 53, 54, 55, 56, 57]⟩, .int .u8 34] w fun e w' => e = .returned (.bool false) ∧ w' = w) := keepHid H2.out
        generalize strB (34 :: r) = X at *
        clear hres hb1 hb2 H3 HRUN HP HN HSG hE HRES H1 H2 hidx HQ
        go_enter Tryz.func29, Tryz.ntmps29
        go_wp2_with (first | ((with_reducible refine (H1'.out _).mono ?_); rintro e w' ⟨rfl, rfl⟩) | ((with_reducible refine (H2'.out _).mono ?_); rintro e w' ⟨rfl, rfl⟩))
        clear hw1
        refine (HT.out _).mono ?_
        rintro e w3 ⟨rfl, hb3⟩
        have HB3 := keepHid (HR.out.2.trans (hb3.mono HR.out.2.size))
        have HK3 := keepHid (HR.out.1.below hb3 HR.out.1.lt)
        obtain ⟨c0, c1, c2, c3, cf⟩ := blk4 HK3.out
        clear hb3
        go_wp2
        refine bodyPost_ret (tok_res rfl _ _ w.heap.size k S v q (put4 HK3.out) rfl _ rfl) rfl ?_
        exact ⟨rfl, set4 HB3.out (Nat.le_refl _) _ _ _ _⟩
      · have e34 : ¬ c.toNat = 34 := fun h => h34 (HQ.out.2 h)
        have i34 : ((c.toNat : Int) == 34) = false := by simp; omega
        cases hb3 : signL.contains c with
        | true =>
          rw [first_sign (c := c) (r := r) hb1 hb2 h34 hb3] at hres
          have hk : S = strB ((c :: r).take 1) ∧ k = 4 ∧ v = 0 ∧ q = 0 ∧ n = 1 := by
            simp [resV, tkA] at hres
            exact ⟨hres.1.2.1.symm, hres.1.1.symm, hres.1.2.2.1.symm, hres.1.2.2.2.symm, hres.2.symm⟩
          obtain ⟨rfl, rfl, rfl, rfl, rfl⟩ := hk
          have HSG' : Hid (∀ w, Calls Tryz.prog 48 #[.int .i64 4, .string (strB (c :: r)), .int .i64 1] w fun e w' => e = .returned (.tuple #[.agg #[.int .i64 4, .string (strB ((c :: r).take 1)), .int .i64 0, .int .i64 0], .int .i64 1]) ∧ Below w.heap.size w w') := keepHid HSG.out
          rw [hb3] at H3
          generalize strB ((c :: r).take 1) = S at *
          generalize strB (c :: r) = X at *
          generalize (c.toNat : Int) = cn at *
          clear hres hb1 hb2 hb3 HRUN HP HN HT HSG hE HRES h34 e34
          go_enter Tryz.func29, Tryz.ntmps29
          go_wp2_with (first | ((with_reducible refine (H1.out _).mono ?_); rintro e w' ⟨rfl, rfl⟩) | ((with_reducible refine (H2.out _).mono ?_); rintro e w' ⟨rfl, rfl⟩) | ((with_reducible refine (H3.out _).mono ?_); rintro e w' ⟨rfl, rfl⟩))
          clear hw1
          refine (HSG'.out _).mono ?_
          rintro e w3 ⟨rfl, hb3⟩
          have HB3 := keepHid (HR.out.2.trans (hb3.mono HR.out.2.size))
          have HK3 := keepHid (HR.out.1.below hb3 HR.out.1.lt)
          obtain ⟨c0, c1, c2, c3, cf⟩ := blk4 HK3.out
          clear hb3
          go_wp2
          refine bodyPost_ret (tok_res rfl _ _ w.heap.size 4 S 0 0 (put4 HK3.out) rfl _ rfl) rfl ?_
          exact ⟨rfl, set4 HB3.out (Nat.le_refl _) _ _ _ _⟩
        | false =>
          rw [first_no (c := c) (r := r) hb1 hb2 h34 hb3] at hres
          have HRES0 := keepHid hres
          rw [hb3] at H3
          generalize strB (c :: r) = X at *
          generalize (c.toNat : Int) = cn at *
          clear hres hb1 hb2 hb3 HRUN HP HN HT HSG hE HRES h34 e34
          obtain ⟨c0, c1, c2, c3, cf⟩ := blk4 HR.out.1
          go_enter Tryz.func29, Tryz.ntmps29
          go_wp2_with (first | ((with_reducible refine (H1.out _).mono ?_); rintro e w' ⟨rfl, rfl⟩) | ((with_reducible refine (H2.out _).mono ?_); rintro e w' ⟨rfl, rfl⟩) | ((with_reducible refine (H3.out _).mono ?_); rintro e w' ⟨rfl, rfl⟩))
          refine bodyPost_ret (tok_res rfl _ _ w.heap.size 0 ⟨#[]⟩ 0 0 (put4 HR.out.1) rfl _ rfl) rfl ?_
          exact ⟨by rw [← HRES0.out]; rfl, set4 HR.out.2 (Nat.le_refl _) _ _ _ _⟩
end Go.Proofs.YtkhhcclomjfliaaGreatDoor
