/-
  The floats that stand for the whole numbers from 0 to 2^40: they are read back as these, and stand to each other as these do.
-/
import Derived.Laws.FloatArith
import Derived.Laws.Cover3
import Derived.Laws.Small
namespace Go.Proofs.Ythfkkolnjcbhjaa
open Ieee
set_option linter.unusedVariables false

/-- The float of n. -/
def flt (n : Nat) : Nat := Ieee.double.nearest false n 0

theorem floatOf (n : Nat) : floatOfInt .f64 (n : Int) = flt n := by
  unfold floatOfInt FloatKind.nearest FloatKind.encode flt
  show Ieee.double.nearest (decide ((n : Int) < 0)) n 0 = _
  rw [decide_eq_false (by omega)]

theorem gap_zero (way : Toward) (neg : Bool) (n : Nat) : way.cut neg n 0 = n := by
  unfold Toward.cut
  cases way <;> simp [Nat.mod_one]

theorem shl_mul (a b : Nat) : a <<< b = a * 2 ^ b := Nat.shiftLeft_eq a b

theorem d_least : Ieee.double.leastPlace = -1074 := by decide +kernel
theorem d_frac : Ieee.double.fractionBits = 52 := rfl
theorem d_bin : Ieee.double.binade = 4503599627370496 := by decide +kernel
theorem d_inf : Ieee.double.infRung = 9218868437227405312 := by decide +kernel
theorem d_sign : Ieee.double.signWeight = 9223372036854775808 := by decide +kernel
theorem p52 : 2 ^ 52 = 4503599627370496 := by decide +kernel
theorem p53 : 2 ^ 53 = 9007199254740992 := by decide +kernel

theorem low_rung (l m : Nat) (hl : l ≤ 40) (hm : m < 9007199254740992) : min ((l + 1022) * 4503599627370496 + m) 9218868437227405312 = (l + 1022) * 4503599627370496 + m :=
  Nat.min_eq_left (by omega)

/-- What the word of n > 0 is. -/
theorem flt_pos (n l : Nat) (h0 : 2 ^ l ≤ n) (h1 : n < 2 ^ (l + 1)) (hl : l ≤ 40) : flt n = (l + 1022) * 2 ^ 52 + n * 2 ^ (52 - l) := by
  have hn : n ≠ 0 := by have := Nat.two_pow_pos l; omega
  have hlog : n.log2 = l := (Nat.log2_eq_iff hn).2 ⟨h0, h1⟩
  have hup : n * 2 ^ (52 - l) < 2 ^ 53 := by
    have h2 : n * 2 ^ (52 - l) < 2 ^ (l + 1) * 2 ^ (52 - l) := Nat.mul_lt_mul_of_pos_right h1 (Nat.two_pow_pos _)
    rw [← Nat.pow_add, show l + 1 + (52 - l) = 53 by omega] at h2
    exact h2
  unfold flt Ieee.Format.nearest
  rw [if_neg hn]
  simp only [hlog]
  rw [d_frac, d_least, d_bin, d_inf]
  have e1 : max (0 + (l : Int) - ((52 : Nat) : Int)) (-1074) = (l : Int) - 52 := by omega
  rw [e1]
  have e2 : ((l : Int) - 52 - 0).toNat = 0 := by omega
  have e3 : (0 - ((l : Int) - 52)).toNat = 52 - l := by omega
  have e4 : ((l : Int) - 52 - -1074).toNat = l + 1022 := by omega
  rw [e2, e3, e4, gap_zero, shl_mul, p52]
  rw [p53] at hup
  generalize n * 2 ^ (52 - l) = m at *
  rw [low_rung l m hl hup]
  rfl

theorem read_pos (n l : Nat) (h0 : 2 ^ l ≤ n) (h1 : n < 2 ^ (l + 1)) (hl : l ≤ 40) : Ieee.double.read (flt n) = .number false (n * 2 ^ (52 - l)) ((l : Int) - 52) := by
  have hlo : 2 ^ 52 ≤ n * 2 ^ (52 - l) := by
    have h2 : 2 ^ l * 2 ^ (52 - l) ≤ n * 2 ^ (52 - l) := Nat.mul_le_mul_right _ h0
    rw [← Nat.pow_add, show l + (52 - l) = 52 by omega] at h2
    exact h2
  have hup : n * 2 ^ (52 - l) < 2 ^ 53 := by
    have h2 : n * 2 ^ (52 - l) < 2 ^ (l + 1) * 2 ^ (52 - l) := Nat.mul_lt_mul_of_pos_right h1 (Nat.two_pow_pos _)
    rw [← Nat.pow_add, show l + 1 + (52 - l) = 53 by omega] at h2
    exact h2
  rw [flt_pos n l h0 h1 hl]
  rw [p52] at hlo ⊢
  rw [p53] at hup
  generalize n * 2 ^ (52 - l) = m at *
  unfold Ieee.Format.read
  simp only [d_bin, d_inf, d_sign, d_least]
  have r1 : ((l + 1022) * 4503599627370496 + m) / 9223372036854775808 = 0 := by omega
  have r2 : ((l + 1022) * 4503599627370496 + m) % 9223372036854775808 = (l + 1022) * 4503599627370496 + m := by omega
  have r3 : 4503599627370496 + ((l + 1022) * 4503599627370496 + m) % 4503599627370496 = m := by omega
  have r4 : ((l + 1022) * 4503599627370496 + m) / 4503599627370496 - 1 = l + 1022 := by omega
  rw [r1, r2, if_neg (by omega), if_pos (by omega), r3, r4]
  simp only [Datum.number.injEq]
  exact ⟨rfl, trivial, by omega⟩

theorem read_zero : Ieee.double.read (flt 0) = .number false 0 (-1074) := by decide +kernel

/-- The place of the first digit. -/
theorem has_log (n : Nat) (h0 : 0 < n) (h : n ≤ 1099511627776) : ∃ l, 2 ^ l ≤ n ∧ n < 2 ^ (l + 1) ∧ l ≤ 40 := by
  refine ⟨n.log2, Nat.log2_self_le (by omega), Nat.lt_log2_self, ?_⟩
  have h2 : n.log2 < 41 := (Nat.log2_lt (by omega)).2 (by omega)
  omega

theorem cmp_nat (a b : Nat) : compare ((a : Nat) : Int) ((b : Nat) : Int) = compare a b := by
  rcases Nat.lt_trichotomy a b with h | rfl | h
  · rw [Nat.compare_eq_lt.2 h, Int.compare_eq_lt.2 (by omega)]
  · rw [Nat.compare_eq_eq.2 rfl, Int.compare_eq_eq.2 rfl]
  · rw [Nat.compare_eq_gt.2 h, Int.compare_eq_gt.2 (by omega)]

theorem cmp_mul (a b c : Nat) (h : 0 < c) : compare (a * c) (b * c) = compare a b := by
  rcases Nat.lt_trichotomy a b with h' | rfl | h'
  · rw [Nat.compare_eq_lt.2 h', Nat.compare_eq_lt.2 (Nat.mul_lt_mul_of_pos_right h' h)]
  · rw [Nat.compare_eq_eq.2 rfl, Nat.compare_eq_eq.2 rfl]
  · rw [Nat.compare_eq_gt.2 h', Nat.compare_eq_gt.2 (Nat.mul_lt_mul_of_pos_right h' h)]

theorem order_num (m n : Nat) (i j : Int) : Datum.order (.number false m i) (.number false n j) = some (compare (m * 2 ^ (i - min i j).toNat) (n * 2 ^ (j - min i j).toNat)) := by
  unfold Datum.order signed
  simp only [Bool.false_eq_true, if_false, shl_mul]
  rw [cmp_nat]

/-- Floats of whole numbers stand to each other as these do. -/
theorem order_flt (a b : Nat) (ha : a ≤ 1099511627776) (hb : b ≤ 1099511627776) : FloatKind.f64.format.order (flt a) (flt b) = some (compare a b) := by
  show Datum.order (Ieee.double.read (flt a)) (Ieee.double.read (flt b)) = _
  have pos : ∀ k : Nat, 0 < 2 ^ k := fun k => Nat.two_pow_pos k
  rcases Nat.eq_zero_or_pos a with rfl | h0a <;> rcases Nat.eq_zero_or_pos b with rfl | h0b
  · rw [read_zero]; decide +kernel
  · obtain ⟨l, h1, h2, h3⟩ := has_log b h0b hb
    rw [read_zero, read_pos b l h1 h2 h3, order_num]
    congr 1
    rw [Nat.zero_mul, Nat.compare_eq_lt.2 h0b, Nat.compare_eq_lt]
    exact Nat.mul_pos (Nat.mul_pos h0b (pos _)) (pos _)
  · obtain ⟨l, h1, h2, h3⟩ := has_log a h0a ha
    rw [read_zero, read_pos a l h1 h2 h3, order_num]
    congr 1
    rw [Nat.zero_mul, Nat.compare_eq_gt.2 h0a, Nat.compare_eq_gt]
    exact Nat.mul_pos (Nat.mul_pos h0a (pos _)) (pos _)
  · obtain ⟨l, h1, h2, h3⟩ := has_log a h0a ha
    obtain ⟨k, k1, k2, k3⟩ := has_log b h0b hb
    rw [read_pos a l h1 h2 h3, read_pos b k k1 k2 k3, order_num]
    congr 1
    rcases Nat.le_total l k with hlk | hlk
    · have e1 : ((l : Int) - 52 - min ((l : Int) - 52) ((k : Int) - 52)).toNat = 0 := by omega
      have e2 : ((k : Int) - 52 - min ((l : Int) - 52) ((k : Int) - 52)).toNat = k - l := by omega
      rw [e1, e2, Nat.pow_zero, Nat.mul_one, Nat.mul_assoc, ← Nat.pow_add, show 52 - k + (k - l) = 52 - l by omega]
      exact cmp_mul _ _ _ (pos _)
    · have e1 : ((l : Int) - 52 - min ((l : Int) - 52) ((k : Int) - 52)).toNat = l - k := by omega
      have e2 : ((k : Int) - 52 - min ((l : Int) - 52) ((k : Int) - 52)).toNat = 0 := by omega
      rw [e1, e2, Nat.pow_zero, Nat.mul_one, Nat.mul_assoc, ← Nat.pow_add, show 52 - l + (l - k) = 52 - k by omega]
      exact cmp_mul _ _ _ (pos _)

/-- The float of n, as an int. -/
theorem int_flt (n : Nat) (h : n ≤ 1099511627776) : floatToIntVal .f64 (flt n) .i64 = some (n : Int) := by
  have key : (Ieee.double.read (flt n)).toInt .zero = some (n : Int) := by
    rcases Nat.eq_zero_or_pos n with rfl | h0
    · rw [read_zero]; decide +kernel
    · obtain ⟨l, h1, h2, h3⟩ := has_log n h0 h
      rw [read_pos n l h1 h2 h3]
      unfold Datum.toInt Datum.integral
      simp only
      have e1 : ((l : Int) - 52).toNat = 0 := by omega
      have e2 : (-((l : Int) - 52)).toNat = 52 - l := by omega
      rw [e1, e2]
      have hlo : 2 ^ 52 ≤ n * 2 ^ (52 - l) := by
        have h2 : 2 ^ l * 2 ^ (52 - l) ≤ n * 2 ^ (52 - l) := Nat.mul_le_mul_right _ h1
        rw [← Nat.pow_add, show l + (52 - l) = 52 by omega] at h2
        exact h2
      have hlog : 52 ≤ (n * 2 ^ (52 - l)).log2 := (Nat.le_log2 (by have := Nat.two_pow_pos 52; omega)).2 hlo
      have hc : Toward.zero.cut false ((n * 2 ^ (52 - l)) <<< 0) (52 - l) = n := by
        unfold Toward.cut
        simp only [Nat.shiftLeft_zero]
        rw [Nat.min_eq_left (by omega), shl_mul, Nat.one_mul, Nat.mul_div_cancel _ (Nat.two_pow_pos _)]
        simp
      rw [hc]
      unfold signed
      simp
  unfold floatToIntVal
  show (match (Ieee.double.read (flt n)).toInt .zero with | some n => if IntKind.i64.min ≤ n ∧ n ≤ IntKind.i64.max then some n else none | none => none) = _
  rw [key]
  simp only [IntKind.min, IntKind.max, IntKind.signed, IntKind.bits]
  rw [if_pos]
  have hb : (n : Int) ≤ 1099511627776 := by omega
  constructor
  · exact Int.le_trans (by decide) (Int.natCast_nonneg n)
  · exact Int.le_trans hb (by decide)

theorem flt_most : flt 1099511627776 = 4787326403894837248 := by decide +kernel
theorem flt_0 : flt 0 = 0 := by decide +kernel
theorem flt_1 : flt 1 = 4607182418800017408 := by decide +kernel
theorem flt_3 : flt 3 = 4613937818241073152 := by decide +kernel

/-- 'min' of a float of up to 2^40, and of 2^40's. -/
theorem min_flt {P : Program} (w : World) (ts : Array TypeId) (t : TypeId) (n : Nat) (h : n ≤ 1099511627776) :
    (Builtin.min_ ts t #[.float .f64 (flt n), .float .f64 4787326403894837248]).run P w = .ok (.float .f64 (flt n)) w := by
  have ho := order_flt n 1099511627776 h (Nat.le_refl _)
  rw [flt_most] at ho
  rcases Nat.lt_or_eq_of_le h with hl | rfl
  · rw [Nat.compare_eq_lt.2 hl] at ho
    simp [Builtin.min_, Builtin.min2, ho]
  · rw [Nat.compare_eq_eq.2 rfl] at ho
    rw [flt_most]
    rw [flt_most] at ho
    simp [Builtin.min_, Builtin.min2, ho]
end Go.Proofs.Ythfkkolnjcbhjaa
