/-
  Numbers in a base, plainly: written, and read again.
-/
import Derived.Test.YtkhhcclomjfliaaGreatDoorTokenPlain
namespace Go.Proofs.YtkhhcclomjfliaaGreatDoor
set_option linter.unusedVariables false

def chr (k : Nat) : UInt8 := hexL.getD k 0
def digL (b n : Nat) : List UInt8 := if h : n < b ∨ b < 2 then [chr n] else digL b (n / b) ++ [chr (n % b)]
termination_by n
decreasing_by exact Nat.div_lt_self (by omega) (by omega)
theorem digL_lt {b n : Nat} (h : n < b) : digL b n = [chr n] := by rw [digL, dif_pos (Or.inl h)]
theorem digL_ge {b n : Nat} (h : b ≤ n) (hb : 2 ≤ b) : digL b n = digL b (n / b) ++ [chr (n % b)] := by rw [digL, dif_neg (by omega)]
theorem digL_ne (b n : Nat) : digL b n ≠ [] := by
  rw [digL]
  split
  · simp
  · simp
theorem digL_len {b : Nat} (hb : 2 ≤ b) : ∀ n k, n < b ^ (k + 1) → (digL b n).length ≤ k + 1 := by
  intro n k
  induction k generalizing n with
  | zero => intro h; rw [digL_lt (by simpa using h)]; simp
  | succ k ih =>
    intro h
    rcases Nat.lt_or_ge n b with hn | hn
    · rw [digL_lt hn]; simp
    · rw [digL_ge hn hb, List.length_append]
      have := ih (n / b) (by rw [Nat.div_lt_iff_lt_mul (by omega)]; rw [Nat.pow_succ] at h; exact h)
      simp; omega
def setB (b : Nat) : List UInt8 := if b = 16 then hexL else decL
theorem chr16 : ∀ k, k < 16 → hexL.contains (chr k) = true ∧ dgt (chr k) = k ∧ (chr k = 48 → k = 0) := by decide
theorem chr10 : ∀ k, k < 10 → decL.contains (chr k) = true ∧ dgt (chr k) = k ∧ (chr k = 48 → k = 0) := by decide
theorem dgt16 : ∀ c ∈ hexL, chr (dgt c) = c ∧ dgt c < 16 ∧ (c ≠ 48 → 1 ≤ dgt c) := by decide
theorem dgt10 : ∀ c ∈ decL, chr (dgt c) = c ∧ dgt c < 10 ∧ (c ≠ 48 → 1 ≤ dgt c) := by decide
/-- A base that the document has. -/
def Base (b : Nat) : Prop := b = 10 ∨ b = 16
theorem Base.two {b : Nat} (h : Base b) : 2 ≤ b ∧ b ≤ 16 := by rcases h with rfl | rfl <;> omega
theorem Base.ch {b : Nat} (h : Base b) {k : Nat} (hk : k < b) : (setB b).contains (chr k) = true ∧ dgt (chr k) = k ∧ (chr k = 48 → k = 0) := by
  rcases h with rfl | rfl
  · exact chr10 k hk
  · exact chr16 k hk
theorem Base.dg {b : Nat} (h : Base b) {c : UInt8} (hc : (setB b).contains c = true) : chr (dgt c) = c ∧ dgt c < b ∧ (c ≠ 48 → 1 ≤ dgt c) := by
  rcases h with rfl | rfl
  · exact dgt10 c (List.contains_iff_mem.1 hc)
  · exact dgt16 c (List.contains_iff_mem.1 hc)
theorem valB_ge {b : Nat} (hb : 1 ≤ b) : ∀ (l : List UInt8) (v : Nat), v ≤ valB b l v
  | [], v => Nat.le_refl _
  | c :: r, v => by
    have h1 := valB_ge hb r (v * b + dgt c)
    have h2 : v * 1 ≤ v * b := Nat.mul_le_mul_left v hb
    show v ≤ valB b r (v * b + dgt c)
    omega
theorem valB_snoc (b : Nat) : ∀ (l : List UInt8) (c : UInt8) (v : Nat), valB b (l ++ [c]) v = valB b l v * b + dgt c
  | [], c, v => rfl
  | a :: r, c, v => valB_snoc b r c (v * b + dgt a)
theorem digL_all {b : Nat} (h : Base b) (n : Nat) : ∀ c ∈ digL b n, (setB b).contains c = true := by
  induction n using Nat.strongRecOn with
  | _ n ih =>
    intro c hc
    have h2 := h.two
    rcases Nat.lt_or_ge n b with hn | hn
    · rw [digL_lt hn] at hc
      rw [List.mem_singleton.1 hc]
      exact (h.ch hn).1
    · rw [digL_ge hn h2.1] at hc
      rcases List.mem_append.1 hc with hc | hc
      · exact ih (n / b) (Nat.div_lt_self (by omega) (by omega)) c hc
      · rw [List.mem_singleton.1 hc]
        exact (h.ch (Nat.mod_lt _ (by omega))).1
theorem val_dig {b : Nat} (h : Base b) (n : Nat) : valB b (digL b n) 0 = n := by
  induction n using Nat.strongRecOn with
  | _ n ih =>
    have h2 := h.two
    rcases Nat.lt_or_ge n b with hn | hn
    · rw [digL_lt hn]
      show 0 * b + dgt (chr n) = n
      rw [(h.ch hn).2.1]; omega
    · rw [digL_ge hn h2.1, valB_snoc, ih (n / b) (Nat.div_lt_self (by omega) (by omega)), (h.ch (Nat.mod_lt _ (by omega))).2.1, Nat.mul_comm]
      exact Nat.div_add_mod n b
theorem dig_head {b : Nat} (h : Base b) (n : Nat) (hn : 1 ≤ n) : (digL b n).head? ≠ some 48 := by
  induction n using Nat.strongRecOn with
  | _ n ih =>
    have h2 := h.two
    rcases Nat.lt_or_ge n b with hb | hb
    · rw [digL_lt hb]
      intro e
      have := (h.ch hb).2.2 (by simpa using e)
      omega
    · rw [digL_ge hb h2.1]
      have h1 := ih (n / b) (Nat.div_lt_self (by omega) (by omega)) ((Nat.le_div_iff_mul_le (by omega)).2 (by omega))
      cases hd : digL b (n / b) with
      | nil => exact absurd hd (digL_ne _ _)
      | cons a r => rw [hd] at h1; simpa using h1
/-- A number as it is to be: with a sign, and none of them a nought ahead. -/
def okN (l : List UInt8) : Bool := !l.isEmpty && !(l.head? == some 48 && decide (1 < l.length))
theorem ok_dig {b : Nat} (h : Base b) (n : Nat) : okN (digL b n) = true := by
  unfold okN
  have h1 : (digL b n).isEmpty = false := by
    cases hd : digL b n with
    | nil => exact absurd hd (digL_ne _ _)
    | cons a r => rfl
  rw [h1]
  rcases Nat.eq_zero_or_pos n with rfl | hn
  · rw [digL_lt (by have := h.two; omega)]; simp
  · have := dig_head h n hn
    simp [this]
theorem dig_ok {b : Nat} (h : Base b) : ∀ (k : Nat) (l : List UInt8), l.length = k → (∀ c ∈ l, (setB b).contains c = true) → okN l = true → digL b (valB b l 0) = l := by
  intro k
  induction k with
  | zero => intro l hl _ ho; rw [List.eq_nil_of_length_eq_zero hl] at ho; simp [okN] at ho
  | succ k ih =>
    intro l hl hc ho
    have h2 := h.two
    have hne : l ≠ [] := fun e => by rw [e] at hl; simp at hl
    obtain ⟨r, c, rfl⟩ : ∃ r c, l = r ++ [c] := ⟨l.dropLast, l.getLast hne, (List.dropLast_concat_getLast hne).symm⟩
    have hcc := h.dg (hc c (by simp))
    rw [valB_snoc]
    cases r with
    | nil =>
      show digL b (0 * b + dgt c) = [c]
      rw [Nat.zero_mul, Nat.zero_add, digL_lt hcc.2.1, hcc.1]
    | cons a q =>
      have ha := h.dg (hc a (by simp))
      have hh : a ≠ 48 := by
        intro e
        subst e
        simp [okN] at ho
      have hv : 1 ≤ valB b (a :: q) 0 := by
        have h3 := valB_ge (by omega : 1 ≤ b) q (0 * b + dgt a)
        have h4 := ha.2.2 hh
        show 1 ≤ valB b q (0 * b + dgt a)
        omega
      have hd : (valB b (a :: q) 0 * b + dgt c) / b = valB b (a :: q) 0 := by
        rw [Nat.mul_comm, Nat.mul_add_div (by omega), Nat.div_eq_of_lt hcc.2.1]; rfl
      have hm : (valB b (a :: q) 0 * b + dgt c) % b = dgt c := by
        rw [Nat.mul_comm, Nat.mul_add_mod, Nat.mod_eq_of_lt hcc.2.1]
      have hge : b ≤ valB b (a :: q) 0 * b + dgt c := by
        have := Nat.mul_le_mul_right b hv
        omega
      rw [digL_ge hge h2.1, hd, hm, hcc.1, ih (a :: q) (by simpa using hl) (fun x hx => hc x (List.mem_append_left _ hx)) (by simp [okN, hh])]
/-- The law's own test of a number. -/
theorem dig_test {b : Nat} (h : Base b) (l : List UInt8) (hc : ∀ c ∈ l, (setB b).contains c = true) : decide (digL b (valB b l 0) = l) = okN l := by
  cases ho : okN l with
  | true => exact decide_eq_true (dig_ok h l.length l rfl hc ho)
  | false => exact decide_eq_false (fun e => by rw [← e, ok_dig h] at ho; cases ho)
theorem base_n (s : List UInt8) : Base (baseN s) := by unfold baseN; split <;> simp [Base]
theorem set_n (s : List UInt8) : setB (baseN s) = digN s := by unfold setB baseN digN; cases isHex s <;> rfl
theorem body_all (s : List UInt8) : ∀ c ∈ bodyN s, (setB (baseN s)).contains c = true := fun c hc => by rw [set_n]; exact runOf_mem hc
theorem numBad_is (s : List UInt8) : numBad s = (!okN (bodyN s) || decide (4294967296 ≤ valB (baseN s) (bodyN s) 0) || letAt s (sizeN s)) := by
  unfold numBad okN
  generalize decide (4294967296 ≤ valB (baseN s) (bodyN s) 0) = x
  generalize letAt s (sizeN s) = y
  generalize ((bodyN s).head? == some 48 && decide (1 < (bodyN s).length)) = z
  cases (bodyN s).isEmpty <;> cases x <;> cases y <;> cases z <;> rfl
end Go.Proofs.YtkhhcclomjfliaaGreatDoor
