/-
  What the functions of package meter answer, of meters of whole numbers from 0 to 2^40.
-/
import Derived.Test.YthfkkolnjcbhjaaChecked
import Derived.Test.YthfkkolnjcbhjaaMem
import Derived.Test.YthfkkolnjcbhjaaMeterPlain
import Derived.WalkKit
import Derived.ProofKit
import Derived.WalkLawsBesides
import Derived.IntWalk
import Derived.Deep.QuietTactic
import Derived.BigQuiet
namespace Go.Proofs.Ythfkkolnjcbhjaa
open Go.RowKit
set_option linter.unusedVariables false

theorem ret_i64 {a b : Int} (h : a = b) : Ending.returned (.int .i64 a) = .returned (.int .i64 b) := by rw [h]

/-- A part's whole number. -/
theorem whole_any (n : Nat) (hn : n ≤ 1099511627776) (w : World) :
    Calls Try.prog 17 #[.float .f64 (flt n)] w fun e w' => e = .returned (.int .i64 (n : Int)) ∧ w = w' := by
  have ho := order_flt n 0 hn (by omega)
  rw [flt_0] at ho
  have hmin := fun W ts t => min_flt (P := Try.prog) W ts t n hn
  have hcv := fun W : World => run_convert_float_int (P := Try.prog) W 36 3 .f64 .i64 (flt n) n (by rw [Try.underlying36]; rfl) Try.underlying3 (int_flt n hn)
  rcases Nat.eq_zero_or_pos n with h0 | h0
  · have hg : (FloatKind.f64.format.order (flt n) 0 == some .gt) = false := by rw [ho, h0]; rfl
    have HZ := keepHid h0
    clear h0 ho
    go_enter Try.func17, Try.ntmps17
    go_wp2
    go_ret
    exact ⟨ret_i64 (by rw [HZ.out]; rfl), rfl⟩
  · have hg : (FloatKind.f64.format.order (flt n) 0 == some .gt) = true := by rw [ho, Nat.compare_eq_gt.2 h0]; rfl
    clear h0 ho
    go_enter Try.func17, Try.ntmps17
    go_wp2
    go_ret
    exact ⟨rfl, rfl⟩

/-- The meter of two numbers. -/
def mtr (a b : Nat) : Value := .complex .f64 (flt a) (flt b)

theorem well_any (a b : Nat) (ha : a ≤ 1099511627776) (w : World) :
    Calls Try.prog 12 #[mtr a b] w fun e w' => e = .returned (.int .i64 (a : Int)) ∧ w = w' := by
  unfold mtr
  go_enter Try.func12, Try.ntmps12
  go_wp2_with (refine (whole_any _ ha _).mono ?_; rintro e w' ⟨rfl, rfl⟩)
  go_ret
  exact ⟨rfl, rfl⟩

theorem ill_any (a b : Nat) (hb : b ≤ 1099511627776) (w : World) :
    Calls Try.prog 13 #[mtr a b] w fun e w' => e = .returned (.int .i64 (b : Int)) ∧ w = w' := by
  unfold mtr
  go_enter Try.func13, Try.ntmps13
  go_wp2_with (refine (whole_any _ hb _).mono ?_; rintro e w' ⟨rfl, rfl⟩)
  go_ret
  exact ⟨rfl, rfl⟩

/-- What 'n' adds. -/
def fit (n : Int) : Nat := (min (max n 0) 1099511627776).toNat
theorem fit_le (n : Int) : fit n ≤ 1099511627776 := by unfold fit; omega
theorem fit_int (n : Int) : min (max n 0) 1099511627776 = (fit n : Int) := by unfold fit; omega
/-- A number with n more. -/
def plus (a : Nat) (n : Int) : Nat := fit ((a : Int) + (fit n : Int))
theorem plus_le (a : Nat) (n : Int) : plus a n ≤ 1099511627776 := fit_le _
theorem plus_int (a : Nat) (n : Int) : min ((a : Int) + (fit n : Int)) 1099511627776 = (plus a n : Int) := by
  have h := fit_int ((a : Int) + (fit n : Int))
  unfold plus; omega

theorem more_any (a : Nat) (n : Int) (ha : a ≤ 1099511627776) (w : World) :
    Calls Try.prog 16 #[.int .i64 (a : Int), .int .i64 n] w fun e w' => e = .returned (.float .f64 (flt (plus a n))) ∧ w = w' := by
  obtain ⟨m, hm⟩ : ∃ m, m = max n 0 := ⟨_, rfl⟩
  have h1 : ∀ (W : World) ts t, (Builtin.max_ ts t #[.int .i64 n, .int .i64 0]).run Try.prog W = .ok (.int .i64 m) W := fun W ts t => by
    rw [run_max_int2, hm]; congr 2; split <;> omega
  have h2 : ∀ (W : World) ts t, (Builtin.min_ ts t #[.int .i64 m, .int .i64 1099511627776]).run Try.prog W = .ok (.int .i64 (fit n : Int)) W := fun W ts t => by
    rw [run_min_int2, ← fit_int, hm]; congr 2; split <;> omega
  have hf := fit_le n
  have h3 : ∀ (W : World) ts t, (Builtin.min_ ts t #[.int .i64 ((a : Int) + (fit n : Int)), .int .i64 1099511627776]).run Try.prog W = .ok (.int .i64 (plus a n : Int)) W := fun W ts t => by
    rw [run_min_int2, ← plus_int]; congr 2; split <;> omega
  have h4 : ∀ (W : World), (convert 3 36 (.int .i64 (plus a n : Int))).run Try.prog W = .ok (.float .f64 (flt (plus a n))) W := fun W => by
    rw [run_convert_int_float (P := Try.prog) W 3 36 .i64 .f64 _ (by rw [Try.underlying3]; rfl) Try.underlying36, floatOf]
  clear hm
  generalize fit n = f at *
  generalize plus a n = p at *
  go_enter Try.func16, Try.ntmps16
  go_wp2
  go_ret
  exact ⟨rfl, rfl⟩

theorem add_any (a b : Nat) (m n : Int) (ha : a ≤ 1099511627776) (hb : b ≤ 1099511627776) (w : World) :
    Calls Try.prog 10 #[mtr a b, .int .i64 m, .int .i64 n] w fun e w' => e = .returned (mtr (plus a m) (plus b n)) ∧ w = w' := by
  go_enter Try.func10, Try.ntmps10
  go_wp2_with (first | (refine (well_any a b ha _).mono ?_; rintro e w' ⟨rfl, rfl⟩) | (refine (ill_any a b hb _).mono ?_; rintro e w' ⟨rfl, rfl⟩) | (refine (more_any _ _ (by assumption) _).mono ?_; rintro e w' ⟨rfl, rfl⟩))
  go_ret
  exact ⟨rfl, rfl⟩

/-- Of a hundred so many went well. -/
def share (a b : Nat) : Nat := if a + b = 0 then 100 else 100 * a / (a + b)
theorem share_le (a b : Nat) : share a b ≤ 100 := by
  unfold share
  split
  · omega
  · exact Nat.div_le_of_le_mul (by rw [Nat.mul_comm]; exact Nat.mul_le_mul_right _ (by omega))
theorem share_none {a b : Nat} (h : a + b = 0) : share a b = 100 := by unfold share; rw [if_pos h]
theorem share_some {a b : Nat} (h : 0 < a + b) : ((100 * a : Nat) : Int) / ((a + b : Nat) : Int) = (share a b : Int) := by unfold share; rw [if_neg (by omega)]; omega

theorem share_any (a b : Nat) (ha : a ≤ 1099511627776) (hb : b ≤ 1099511627776) (w : World) :
    Calls Try.prog 14 #[mtr a b] w fun e w' => e = .returned (.int .i64 (share a b : Int)) ∧ w = w' := by
  by_cases h0 : a + b = 0
  · have HS := keepHid (share_none h0)
    have h1 : (a : Int) + (b : Int) = 0 := by omega
    have h2 : ((a : Int) + (b : Int) == 0) = true := by rw [h1]; rfl
    clear h0 h1
    go_enter Try.func14, Try.ntmps14
    go_wp2_with (first | (refine (well_any a b ha _).mono ?_; rintro e w' ⟨rfl, rfl⟩) | (refine (ill_any a b hb _).mono ?_; rintro e w' ⟨rfl, rfl⟩))
    go_ret
    exact ⟨ret_i64 (by rw [HS.out]; rfl), rfl⟩
  · have HS := keepHid (share_some (a := a) (b := b) (by omega))
    have h1 : 0 < (a : Int) + (b : Int) := by omega
    have h2 : ((a : Int) + (b : Int) == 0) = false := by simp; omega
    clear h0
    go_enter Try.func14, Try.ntmps14
    go_wp2_with (first | (refine (well_any a b ha _).mono ?_; rintro e w' ⟨rfl, rfl⟩) | (refine (ill_any a b hb _).mono ?_; rintro e w' ⟨rfl, rfl⟩))
    go_ret
    exact ⟨ret_i64 (by rw [← HS.out]; simp), rfl⟩

/-- Whether one is worse. -/
def wrs (a b c d : Nat) : Bool := decide ((share a b : Int) < (share c d : Int) ∨ (share a b : Int) = (share c d : Int) ∧ (d : Int) < (b : Int))
theorem ret_bool {a b : Bool} (h : a = b) : Ending.returned (.bool a) = .returned (.bool b) := by rw [h]

theorem worse_any (a b c d : Nat) (ha : a ≤ 1099511627776) (hb : b ≤ 1099511627776) (hc : c ≤ 1099511627776) (hd : d ≤ 1099511627776) (w : World) :
    Calls Try.prog 15 #[mtr a b, mtr c d] w fun e w' => e = .returned (.bool (wrs a b c d)) ∧ w = w' := by
  have hw : (wrs a b c d = decide ((share a b : Int) < (share c d : Int) ∨ (share a b : Int) = (share c d : Int) ∧ (d : Int) < (b : Int))) := rfl
  have K1 := fun W => share_any a b ha hb W
  have K2 := fun W => share_any c d hc hd W
  have K3 := fun W => ill_any a b hb W
  have K4 := fun W => ill_any c d hd W
  generalize (share a b : Int) = s at *
  generalize (share c d : Int) = t at *
  generalize wrs a b c d = r at *
  generalize mtr a b = x at *
  generalize mtr c d = y at *
  generalize (b : Int) = p at *
  generalize (d : Int) = q at *
  have HW := keepHid hw
  have HK1 := keepHid K1
  have HK2 := keepHid K2
  have HK3 := keepHid K3
  have HK4 := keepHid K4
  clear K1 K2 K3 K4 hw
  by_cases h : s = t
  · have HE := keepHid h
    have hne : (s != t) = false := by simp [h]
    clear h
    go_enter Try.func15, Try.ntmps15
    go_wp2_with (first | ((with_reducible refine (HK1.out _).mono ?_); rintro e w' ⟨rfl, rfl⟩) | ((with_reducible refine (HK2.out _).mono ?_); rintro e w' ⟨rfl, rfl⟩) | ((with_reducible refine (HK3.out _).mono ?_); rintro e w' ⟨rfl, rfl⟩) | ((with_reducible refine (HK4.out _).mono ?_); rintro e w' ⟨rfl, rfl⟩))
    go_ret
    exact ⟨ret_bool (by rw [HW.out, HE.out]; simp), rfl⟩
  · have hne : (s != t) = true := by simp [h]
    have HE := keepHid h
    clear h
    go_enter Try.func15, Try.ntmps15
    go_wp2_with (first | ((with_reducible refine (HK1.out _).mono ?_); rintro e w' ⟨rfl, rfl⟩) | ((with_reducible refine (HK2.out _).mono ?_); rintro e w' ⟨rfl, rfl⟩) | ((with_reducible refine (HK3.out _).mono ?_); rintro e w' ⟨rfl, rfl⟩) | ((with_reducible refine (HK4.out _).mono ?_); rintro e w' ⟨rfl, rfl⟩))
    go_ret
    exact ⟨ret_bool (by rw [HW.out]; simp [HE.out]), rfl⟩

/-! ### The statements' own helpers -/
theorem make_any (a b : Nat) (ha : a ≤ 65535) (hb : b ≤ 65535) (w : World) :
    Calls Try.prog 9 #[.int .u16 (a : Int), .int .u16 (b : Int)] w fun e w' => e = .returned (mtr a b) ∧ w = w' := by
  have h : ∀ (W : World) (n : Nat), (convert 22 36 (.int .u16 (n : Int))).run Try.prog W = .ok (.float .f64 (flt n)) W := fun W n => by
    rw [run_convert_int_float (P := Try.prog) W 22 36 .u16 .f64 _ (by rw [Try.underlying22]; rfl) Try.underlying36, floatOf]
  have h1 := fun W => h W a
  have h2 := fun W => h W b
  clear h
  go_enter Try.func9, Try.ntmps9
  go_wp2
  go_ret
  exact ⟨rfl, rfl⟩

theorem ex_1 : plus 0 3 = 3 := by decide +kernel
theorem ex_2 : plus 0 1 = 1 := by decide +kernel
theorem ex_3 : share 3 1 = 75 := by decide +kernel
theorem ex_4 : (FloatKind.f64.format.order (flt 3) 4613937818241073152 == some .eq) = true := by rw [← flt_3, order_flt 3 3 (by decide) (by decide)]; rfl
theorem ex_5 : (FloatKind.f64.format.order (flt 1) 4607182418800017408 == some .eq) = true := by rw [← flt_1, order_flt 1 1 (by decide) (by decide)]; rfl

theorem awake_any (w : World) :
    Calls Try.prog 8 #[] w fun e w' => e = .returned (.bool true) ∧ w = w' := by
  have h0 : Value.complex .f64 0 0 = mtr 0 0 := by unfold mtr; rw [flt_0]
  have h1 := fun W => add_any 0 0 3 1 (by decide) (by decide) W
  rw [ex_1, ex_2, ← h0] at h1
  have h2 := fun W => share_any 3 1 (by decide) (by decide) W
  rw [ex_3, show ((75 : Nat) : Int) = 75 from rfl] at h2
  have h3 := fun W => well_any 3 1 (by decide) W
  rw [show ((3 : Nat) : Int) = 3 from rfl] at h3
  have h4 : ∀ W : World, (binOp .eql 25 (mtr 3 1) (.complex .f64 4613937818241073152 4607182418800017408)).run Try.prog W = .ok (.bool true) W := fun W => by
    unfold mtr; rw [run_eql_complex, ex_4, ex_5]; rfl
  have h5 : ∀ t x y v, eqGuard .eql t x y (mtr 3 1) v = pure () := fun t x y v => rfl
  generalize mtr 3 1 = m at *
  have H1 := keepHid h1
  have H2 := keepHid h2
  have H3 := keepHid h3
  clear h0 h1 h2 h3
  go_enter Try.func8, Try.ntmps8
  go_wp2_with (first | ((with_reducible refine (H1.out _).mono ?_); rintro e w' ⟨rfl, rfl⟩) | ((with_reducible refine (H2.out _).mono ?_); rintro e w' ⟨rfl, rfl⟩) | ((with_reducible refine (H3.out _).mono ?_); rintro e w' ⟨rfl, rfl⟩))
  go_ret
  exact ⟨rfl, rfl⟩

theorem fit_any (n : Int) (w : World) :
    Calls Try.prog 11 #[.int .i64 n] w fun e w' => e = .returned (.int .i64 (fit n : Int)) ∧ w = w' := by
  obtain ⟨m, hm⟩ : ∃ m, m = min n 1099511627776 := ⟨_, rfl⟩
  have h1 : ∀ (W : World) ts t, (Builtin.min_ ts t #[.int .i64 n, .int .i64 1099511627776]).run Try.prog W = .ok (.int .i64 m) W := fun W ts t => by
    rw [run_min_int2, hm]; congr 2; split <;> omega
  have h2 : ∀ (W : World) ts t, (Builtin.max_ ts t #[.int .i64 0, .int .i64 m]).run Try.prog W = .ok (.int .i64 (fit n : Int)) W := fun W ts t => by
    rw [run_max_int2, ← fit_int, hm]; congr 2; split <;> omega
  clear hm
  generalize fit n = f at *
  go_enter Try.func11, Try.ntmps11
  go_wp2
  go_ret
  exact ⟨rfl, rfl⟩
end Go.Proofs.Ythfkkolnjcbhjaa
