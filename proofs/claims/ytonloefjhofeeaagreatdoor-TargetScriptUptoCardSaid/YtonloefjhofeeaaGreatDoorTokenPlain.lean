/-
  Tokens, plainly: what a text is cut into.
-/
import Derived.Test.YtonloefjhofeeaaGreatDoorTurn
namespace Go.Proofs.YtonloefjhofeeaaGreatDoor
set_option linter.unusedVariables false

def letL : List UInt8 := [97, 98, 99, 100, 101, 102, 103, 104, 105, 106, 107, 108, 109, 110, 111, 112, 113, 114, 115, 116, 117, 118, 119, 120, 121, 122]
def decL : List UInt8 := [48, 49, 50, 51, 52, 53, 54, 55, 56, 57]
def hexL : List UInt8 := [48, 49, 50, 51, 52, 53, 54, 55, 56, 57, 97, 98, 99, 100, 101, 102]
def wordL : List UInt8 := [97, 98, 99, 100, 101, 102, 103, 104, 105, 106, 107, 108, 109, 110, 111, 112, 113, 114, 115, 116, 117, 118, 119, 120, 121, 122, 48, 49, 50, 51, 52, 53, 54, 55, 56, 57, 45]
def blankL : List UInt8 := [32, 9, 10]
def signL : List UInt8 := [58, 59, 44, 123, 125]
def denL : List UInt8 := [34, 92, 13, 10]
def escL : List UInt8 := [34, 92, 114, 110]
def prn (c : UInt8) : Bool := decide (32 ≤ c.toNat) && decide (c.toNat ≤ 126)
def runOf (set s : List UInt8) : List UInt8 := s.takeWhile fun c => set.contains c

structure Tk where
  kind : Nat
  text : List UInt8
  val : Nat
  pos : Nat
  deriving DecidableEq
def dgt (c : UInt8) : Nat := if c.toNat ≤ 57 then c.toNat - 48 else c.toNat - 87
def valB (b : Nat) : List UInt8 → Nat → Nat
  | [], v => v
  | c :: r, v => valB b r (v * b + dgt c)
def isHex (s : List UInt8) : Bool := [48, 120].isPrefixOf s
def leadN (s : List UInt8) : Nat := if isHex s then 2 else 0
def baseN (s : List UInt8) : Nat := if isHex s then 16 else 10
def digN (s : List UInt8) : List UInt8 := if isHex s then hexL else decL
def bodyN (s : List UInt8) : List UInt8 := runOf (digN s) (s.drop (leadN s))
def sizeN (s : List UInt8) : Nat := leadN s + (bodyN s).length
def letAt (s : List UInt8) (i : Nat) : Bool := match s[i]? with
  | some c => letL.contains c
  | none => false
def numBad (s : List UInt8) : Bool :=
  (bodyN s).isEmpty || decide (4294967296 ≤ valB (baseN s) (bodyN s) 0) || ((bodyN s).head? == some 48 && decide (1 < (bodyN s).length)) || letAt s (sizeN s)
def numT (s : List UInt8) : Option (Tk × Nat) :=
  if numBad s then none else some (⟨2, s.take (sizeN s), valB (baseN s) (bodyN s) 0, 0⟩, sizeN s)
def escD (c : UInt8) : Option UInt8 := if c = 34 then some 34 else if c = 92 then some 92 else if c = 114 then some 13 else if c = 110 then some 10 else none
/-- What stands behind the quote: its text, and how many bytes it takes. -/
def strT : List UInt8 → Option (List UInt8 × Nat)
  | [] => none
  | [c] => if c = 34 then some ([], 1) else none
  | c :: e :: r => if c = 34 then some ([], 1) else if c = 92 then (match escD e with
      | some d => (strT r).map fun x => (d :: x.1, x.2 + 2)
      | none => none) else if prn c then (strT (e :: r)).map fun x => (c :: x.1, x.2 + 1) else none
def firstT (s : List UInt8) : Option (Tk × Nat) := match s with
  | [] => none
  | c :: r =>
    if letL.contains c then some (⟨1, runOf wordL s, 0, 0⟩, (runOf wordL s).length)
    else if decL.contains c then numT s
    else if c = 34 then (strT r).map fun x => (⟨3, x.1, 0, 0⟩, x.2 + 1)
    else if signL.contains c then some (⟨4, [c], 0, 0⟩, 1) else none
def comN (s : List UInt8) : Nat := (s.takeWhile fun c => !(c == 10)).length
/-- The tokens of what is left, at a place; or where there is none. -/
def cutR : List UInt8 → Nat → Except Nat (List Tk)
  | [], p => .ok [⟨0, [], 0, p⟩]
  | c :: r, p => if blankL.contains c then cutR r (p + 1) else if c = 35 then cutR (r.drop (comN (c :: r) - 1)) (p + comN (c :: r)) else match firstT (c :: r) with
    | none => .error p
    | some (t, n) => match cutR (r.drop (n - 1)) (p + n) with
      | .error q => .error q
      | .ok l => .ok ({ t with pos := p } :: l)
termination_by s => s.length
decreasing_by all_goals (simp; try omega)

/-! ### a run -/
theorem runOf_len (set s : List UInt8) : (runOf set s).length ≤ s.length := (List.takeWhile_prefix _).length_le
theorem runOf_take (set s : List UInt8) : s.take (runOf set s).length = runOf set s := by
  exact (List.prefix_iff_eq_take.1 (List.takeWhile_prefix (l := s) fun c => set.contains c)).symm
theorem runOf_mem {set : List UInt8} {c : UInt8} : ∀ {s : List UInt8}, c ∈ runOf set s → set.contains c = true
  | [], h => by simp [runOf] at h
  | a :: r, h => by
    unfold runOf at h
    by_cases ha : set.contains a = true
    · rw [List.takeWhile_cons_of_pos (by simpa using ha)] at h
      rcases List.mem_cons.1 h with rfl | h
      · exact ha
      · exact runOf_mem (s := r) h
    · rw [List.takeWhile_cons_of_neg (by simpa using ha)] at h
      cases h
theorem comN_le (s : List UInt8) : comN s ≤ s.length := (List.takeWhile_prefix _).length_le
theorem comN_pos (r : List UInt8) : 1 ≤ comN (35 :: r) := by
  unfold comN
  rw [List.takeWhile_cons_of_pos (by decide)]
  simp
theorem runOf_pos {set : List UInt8} {c : UInt8} (r : List UInt8) (h : set.contains c = true) : 1 ≤ (runOf set (c :: r)).length := by
  unfold runOf
  rw [List.takeWhile_cons_of_pos (by simpa using h)]
  simp
theorem let_word : ∀ c ∈ letL, wordL.contains c = true := by decide
theorem lead_le (s : List UInt8) : leadN s ≤ s.length := by
  unfold leadN
  split
  · rename_i h
    have := (List.isPrefixOf_iff_prefix.1 h).length_le
    simpa using this
  · omega
theorem size_le (s : List UInt8) : sizeN s ≤ s.length := by
  have h1 := lead_le s
  have h2 := runOf_len (digN s) (s.drop (leadN s))
  unfold sizeN bodyN
  rw [List.length_drop] at h2
  omega
theorem strT_le : ∀ (r : List UInt8) (x : List UInt8 × Nat), strT r = some x → 1 ≤ x.2 ∧ x.2 ≤ r.length ∧ x.1.length < x.2
  | [], x, h => by simp [strT] at h
  | [c], x, h => by
    simp only [strT] at h
    split at h
    · cases h; simp
    · cases h
  | c :: e :: r, x, h => by
    simp only [strT] at h
    split at h
    · cases h; simp
    · split at h
      · split at h
        · rename_i d hd
          cases hr : strT r with
          | none => rw [hr] at h; cases h
          | some y =>
            rw [hr] at h
            cases h
            have := strT_le r y hr
            simp; omega
        · cases h
      · split at h
        · cases hr : strT (e :: r) with
          | none => rw [hr] at h; cases h
          | some y =>
            rw [hr] at h
            cases h
            have := strT_le (e :: r) y hr
            simp at this ⊢; omega
        · cases h
/-- A token takes a byte at least, and no more than there are; unless it is a String its text is what it takes. -/
theorem firstT_le {s : List UInt8} {x : Tk × Nat} (h : firstT s = some x) : 1 ≤ x.2 ∧ x.2 ≤ s.length ∧ x.1.text.length ≤ x.2 ∧ x.1.kind ≠ 0 ∧ x.1.kind ≤ 4 ∧ x.1.val < 4294967296 ∧ (x.1.kind ≠ 3 → x.1.text = s.take x.2) := by
  unfold firstT at h
  split at h
  · cases h
  · rename_i c r
    split at h
    · rename_i hc
      cases h
      have h1 := runOf_pos r (let_word c (List.contains_iff_mem.1 hc))
      have h2 := runOf_len wordL (c :: r)
      refine ⟨h1, h2, Nat.le_refl _, by simp, by simp, by simp, fun _ => (runOf_take _ _).symm⟩
    · split at h
      · unfold numT at h
        split at h
        · cases h
        · rename_i hb
          cases h
          have h2 := size_le (c :: r)
          simp only [numBad, Bool.or_eq_true, not_or, Bool.not_eq_true] at hb
          have h3 : 1 ≤ (bodyN (c :: r)).length := by
            cases hB : bodyN (c :: r) with
            | nil => rw [hB] at hb; simp at hb
            | cons a b => simp
          have h4 : valB (baseN (c :: r)) (bodyN (c :: r)) 0 < 4294967296 := by have := of_decide_eq_false hb.1.1.2; omega
          refine ⟨by simp only [sizeN]; omega, h2, by simp; omega, by simp, by simp, h4, fun _ => rfl⟩
      · split at h
        · cases hr : strT r with
          | none => rw [hr] at h; cases h
          | some y =>
            rw [hr] at h
            cases h
            have := strT_le r y hr
            refine ⟨by simp, by simp; omega, by simp; omega, by simp, by simp, by simp, fun h => absurd rfl h⟩
        · split at h
          · cases h
            refine ⟨by simp, by simp, by simp, by simp, by simp, by simp, fun _ => rfl⟩
          · cases h
/-! ### how what is left goes on -/
theorem cut_nil (p : Nat) : cutR [] p = .ok [⟨0, [], 0, p⟩] := by rw [cutR]
theorem cut_blank {c : UInt8} {r : List UInt8} {p : Nat} (h : blankL.contains c = true) : cutR (c :: r) p = cutR r (p + 1) := by rw [cutR, if_pos h]
theorem drop_pred {s r : List UInt8} {c : UInt8} {n : Nat} (h : 1 ≤ n) (hs : s = c :: r) : r.drop (n - 1) = s.drop n := by
  subst hs
  obtain ⟨k, rfl⟩ : ∃ k, n = k + 1 := ⟨n - 1, by omega⟩
  rfl
theorem cut_com {r : List UInt8} {p : Nat} : cutR (35 :: r) p = cutR ((35 :: r).drop (comN (35 :: r))) (p + comN (35 :: r)) := by
  rw [cutR, if_neg (by decide), if_pos rfl, drop_pred (comN_pos r) rfl]
theorem cut_none {c : UInt8} {r : List UInt8} {p : Nat} (h1 : blankL.contains c = false) (h2 : c ≠ 35) (h : firstT (c :: r) = none) : cutR (c :: r) p = .error p := by
  rw [cutR, if_neg (by rw [h1]; decide), if_neg h2, h]
theorem cut_some {c : UInt8} {r : List UInt8} {p n : Nat} {t : Tk} (h1 : blankL.contains c = false) (h2 : c ≠ 35) (h : firstT (c :: r) = some (t, n)) :
    cutR (c :: r) p = match cutR ((c :: r).drop n) (p + n) with
      | .error q => .error q
      | .ok l => .ok ({ t with pos := p } :: l) := by
  rw [cutR, if_neg (by rw [h1]; decide), if_neg h2, h]
  simp only
  rw [drop_pred (firstT_le h).1 rfl]
/-- What was found before, ahead of what is left. -/
def preT (acc : List Tk) : Except Nat (List Tk) → Except Nat (List Tk)
  | .error q => .error q
  | .ok l => .ok (acc ++ l)
theorem preT_nil (x : Except Nat (List Tk)) : preT [] x = x := by cases x <;> rfl
theorem preT_some {c : UInt8} {r : List UInt8} {p n : Nat} {t : Tk} (acc : List Tk) (h1 : blankL.contains c = false) (h2 : c ≠ 35) (h : firstT (c :: r) = some (t, n)) :
    preT acc (cutR (c :: r) p) = preT (acc ++ [{ t with pos := p }]) (cutR ((c :: r).drop n) (p + n)) := by
  rw [cut_some h1 h2 h]
  cases cutR ((c :: r).drop n) (p + n) with
  | error q => rfl
  | ok l => simp [preT]


def chr (k : Nat) : UInt8 := hexL.getD k 0
def digL (b n : Nat) : List UInt8 := if h : n < b ∨ b < 2 then [chr n] else digL b (n / b) ++ [chr (n % b)]
termination_by n
decreasing_by exact Nat.div_lt_self (by omega) (by omega)
theorem digL_lt {b n : Nat} (h : n < b) : digL b n = [chr n] := by rw [digL, dif_pos (Or.inl h)]
theorem digL_ge {b n : Nat} (h : b ≤ n) (hb : 2 ≤ b) : digL b n = digL b (n / b) ++ [chr (n % b)] := by rw [digL, dif_neg (by omega)]
theorem digL_ne (b n : Nat) : digL b n ≠ [] := by
  rw [digL]
  split
  · simp
  · simp
theorem digL_len {b : Nat} (hb : 2 ≤ b) : ∀ n k, n < b ^ (k + 1) → (digL b n).length ≤ k + 1 := by
  intro n k
  induction k generalizing n with
  | zero => intro h; rw [digL_lt (by simpa using h)]; simp
  | succ k ih =>
    intro h
    rcases Nat.lt_or_ge n b with hn | hn
    · rw [digL_lt hn]; simp
    · rw [digL_ge hn hb, List.length_append]
      have := ih (n / b) (by rw [Nat.div_lt_iff_lt_mul (by omega)]; rw [Nat.pow_succ] at h; exact h)
      simp; omega
def setB (b : Nat) : List UInt8 := if b = 16 then hexL else decL
theorem chr16 : ∀ k, k < 16 → hexL.contains (chr k) = true ∧ dgt (chr k) = k ∧ (chr k = 48 → k = 0) := by decide
theorem chr10 : ∀ k, k < 10 → decL.contains (chr k) = true ∧ dgt (chr k) = k ∧ (chr k = 48 → k = 0) := by decide
theorem dgt16 : ∀ c ∈ hexL, chr (dgt c) = c ∧ dgt c < 16 ∧ (c ≠ 48 → 1 ≤ dgt c) := by decide
theorem dgt10 : ∀ c ∈ decL, chr (dgt c) = c ∧ dgt c < 10 ∧ (c ≠ 48 → 1 ≤ dgt c) := by decide
/-- A base that the document has. -/
def Base (b : Nat) : Prop := b = 10 ∨ b = 16
theorem Base.two {b : Nat} (h : Base b) : 2 ≤ b ∧ b ≤ 16 := by rcases h with rfl | rfl <;> omega
theorem Base.ch {b : Nat} (h : Base b) {k : Nat} (hk : k < b) : (setB b).contains (chr k) = true ∧ dgt (chr k) = k ∧ (chr k = 48 → k = 0) := by
  rcases h with rfl | rfl
  · exact chr10 k hk
  · exact chr16 k hk
theorem Base.dg {b : Nat} (h : Base b) {c : UInt8} (hc : (setB b).contains c = true) : chr (dgt c) = c ∧ dgt c < b ∧ (c ≠ 48 → 1 ≤ dgt c) := by
  rcases h with rfl | rfl
  · exact dgt10 c (List.contains_iff_mem.1 hc)
  · exact dgt16 c (List.contains_iff_mem.1 hc)
theorem valB_ge {b : Nat} (hb : 1 ≤ b) : ∀ (l : List UInt8) (v : Nat), v ≤ valB b l v
  | [], v => Nat.le_refl _
  | c :: r, v => by
    have h1 := valB_ge hb r (v * b + dgt c)
    have h2 : v * 1 ≤ v * b := Nat.mul_le_mul_left v hb
    show v ≤ valB b r (v * b + dgt c)
    omega
theorem valB_snoc (b : Nat) : ∀ (l : List UInt8) (c : UInt8) (v : Nat), valB b (l ++ [c]) v = valB b l v * b + dgt c
  | [], c, v => rfl
  | a :: r, c, v => valB_snoc b r c (v * b + dgt a)
theorem digL_all {b : Nat} (h : Base b) (n : Nat) : ∀ c ∈ digL b n, (setB b).contains c = true := by
  induction n using Nat.strongRecOn with
  | _ n ih =>
    intro c hc
    have h2 := h.two
    rcases Nat.lt_or_ge n b with hn | hn
    · rw [digL_lt hn] at hc
      rw [List.mem_singleton.1 hc]
      exact (h.ch hn).1
    · rw [digL_ge hn h2.1] at hc
      rcases List.mem_append.1 hc with hc | hc
      · exact ih (n / b) (Nat.div_lt_self (by omega) (by omega)) c hc
      · rw [List.mem_singleton.1 hc]
        exact (h.ch (Nat.mod_lt _ (by omega))).1
theorem val_dig {b : Nat} (h : Base b) (n : Nat) : valB b (digL b n) 0 = n := by
  induction n using Nat.strongRecOn with
  | _ n ih =>
    have h2 := h.two
    rcases Nat.lt_or_ge n b with hn | hn
    · rw [digL_lt hn]
      show 0 * b + dgt (chr n) = n
      rw [(h.ch hn).2.1]; omega
    · rw [digL_ge hn h2.1, valB_snoc, ih (n / b) (Nat.div_lt_self (by omega) (by omega)), (h.ch (Nat.mod_lt _ (by omega))).2.1, Nat.mul_comm]
      exact Nat.div_add_mod n b
theorem dig_head {b : Nat} (h : Base b) (n : Nat) (hn : 1 ≤ n) : (digL b n).head? ≠ some 48 := by
  induction n using Nat.strongRecOn with
  | _ n ih =>
    have h2 := h.two
    rcases Nat.lt_or_ge n b with hb | hb
    · rw [digL_lt hb]
      intro e
      have := (h.ch hb).2.2 (by simpa using e)
      omega
    · rw [digL_ge hb h2.1]
      have h1 := ih (n / b) (Nat.div_lt_self (by omega) (by omega)) ((Nat.le_div_iff_mul_le (by omega)).2 (by omega))
      cases hd : digL b (n / b) with
      | nil => exact absurd hd (digL_ne _ _)
      | cons a r => rw [hd] at h1; simpa using h1
/-- A number as it is to be: with a sign, and none of them a nought ahead. -/
def okN (l : List UInt8) : Bool := !l.isEmpty && !(l.head? == some 48 && decide (1 < l.length))
theorem ok_dig {b : Nat} (h : Base b) (n : Nat) : okN (digL b n) = true := by
  unfold okN
  have h1 : (digL b n).isEmpty = false := by
    cases hd : digL b n with
    | nil => exact absurd hd (digL_ne _ _)
    | cons a r => rfl
  rw [h1]
  rcases Nat.eq_zero_or_pos n with rfl | hn
  · rw [digL_lt (by have := h.two; omega)]; simp
  · have := dig_head h n hn
    simp [this]
theorem dig_ok {b : Nat} (h : Base b) : ∀ (k : Nat) (l : List UInt8), l.length = k → (∀ c ∈ l, (setB b).contains c = true) → okN l = true → digL b (valB b l 0) = l := by
  intro k
  induction k with
  | zero => intro l hl _ ho; rw [List.eq_nil_of_length_eq_zero hl] at ho; simp [okN] at ho
  | succ k ih =>
    intro l hl hc ho
    have h2 := h.two
    have hne : l ≠ [] := fun e => by rw [e] at hl; simp at hl
    obtain ⟨r, c, rfl⟩ : ∃ r c, l = r ++ [c] := ⟨l.dropLast, l.getLast hne, (List.dropLast_concat_getLast hne).symm⟩
    have hcc := h.dg (hc c (by simp))
    rw [valB_snoc]
    cases r with
    | nil =>
      show digL b (0 * b + dgt c) = [c]
      rw [Nat.zero_mul, Nat.zero_add, digL_lt hcc.2.1, hcc.1]
    | cons a q =>
      have ha := h.dg (hc a (by simp))
      have hh : a ≠ 48 := by
        intro e
        subst e
        simp [okN] at ho
      have hv : 1 ≤ valB b (a :: q) 0 := by
        have h3 := valB_ge (by omega : 1 ≤ b) q (0 * b + dgt a)
        have h4 := ha.2.2 hh
        show 1 ≤ valB b q (0 * b + dgt a)
        omega
      have hd : (valB b (a :: q) 0 * b + dgt c) / b = valB b (a :: q) 0 := by
        rw [Nat.mul_comm, Nat.mul_add_div (by omega), Nat.div_eq_of_lt hcc.2.1]; rfl
      have hm : (valB b (a :: q) 0 * b + dgt c) % b = dgt c := by
        rw [Nat.mul_comm, Nat.mul_add_mod, Nat.mod_eq_of_lt hcc.2.1]
      have hge : b ≤ valB b (a :: q) 0 * b + dgt c := by
        have := Nat.mul_le_mul_right b hv
        omega
      rw [digL_ge hge h2.1, hd, hm, hcc.1, ih (a :: q) (by simpa using hl) (fun x hx => hc x (List.mem_append_left _ hx)) (by simp [okN, hh])]
/-- The law's own test of a number. -/
theorem dig_test {b : Nat} (h : Base b) (l : List UInt8) (hc : ∀ c ∈ l, (setB b).contains c = true) : decide (digL b (valB b l 0) = l) = okN l := by
  cases ho : okN l with
  | true => exact decide_eq_true (dig_ok h l.length l rfl hc ho)
  | false => exact decide_eq_false (fun e => by rw [← e, ok_dig h] at ho; cases ho)
theorem base_n (s : List UInt8) : Base (baseN s) := by unfold baseN; split <;> simp [Base]
theorem set_n (s : List UInt8) : setB (baseN s) = digN s := by unfold setB baseN digN; cases isHex s <;> rfl
theorem body_all (s : List UInt8) : ∀ c ∈ bodyN s, (setB (baseN s)).contains c = true := fun c hc => by rw [set_n]; exact runOf_mem hc
theorem numBad_is (s : List UInt8) : numBad s = (!okN (bodyN s) || decide (4294967296 ≤ valB (baseN s) (bodyN s) 0) || letAt s (sizeN s)) := by
  unfold numBad okN
  generalize decide (4294967296 ≤ valB (baseN s) (bodyN s) 0) = x
  generalize letAt s (sizeN s) = y
  generalize ((bodyN s).head? == some 48 && decide (1 < (bodyN s).length)) = z
  cases (bodyN s).isEmpty <;> cases x <;> cases y <;> cases z <;> rfl


/-- What holds of all texts, by their cutting. -/
theorem cut_ind (P : List UInt8 → Nat → Except Nat (List Tk) → Prop) (h_nil : ∀ p, P [] p (.ok [⟨0, [], 0, p⟩]))
    (h_skip : ∀ l p k, 1 ≤ k → k ≤ l.length → P (l.drop k) (p + k) (cutR (l.drop k) (p + k)) → P l p (cutR (l.drop k) (p + k)))
    (h_none : ∀ c r p, P (c :: r) p (.error p))
    (h_err : ∀ l p t n q, firstT l = some (t, n) → P (l.drop n) (p + n) (.error q) → P l p (.error q))
    (h_tok : ∀ l p t n ts, firstT l = some (t, n) → P (l.drop n) (p + n) (.ok ts) → P l p (.ok ({ t with pos := p } :: ts))) : ∀ l p, P l p (cutR l p) := by
  intro l
  induction hn : l.length using Nat.strongRecOn generalizing l with
  | _ m ih =>
    intro p
    cases l with
    | nil => rw [cut_nil]; exact h_nil p
    | cons c r =>
      by_cases hb : blankL.contains c = true
      · rw [cut_blank hb]
        exact h_skip (c :: r) p 1 (Nat.le_refl _) (by simp) (ih r.length (by rw [← hn]; simp) r rfl (p + 1))
      · have hb' : blankL.contains c = false := by simpa using hb
        by_cases h35 : c = 35
        · subst h35
          rw [cut_com]
          have h1 := comN_pos r
          have h2 := comN_le (35 :: r)
          exact h_skip (35 :: r) p _ h1 h2 (ih _ (by rw [← hn, List.length_drop]; simp at *; omega) _ rfl _)
        · cases hf : firstT (c :: r) with
          | none => rw [cut_none hb' h35 hf]; exact h_none c r p
          | some x =>
            obtain ⟨t, n⟩ := x
            have hx := firstT_le hf
            have hrec := ih ((c :: r).drop n).length (by rw [← hn, List.length_drop]; simp at *; omega) ((c :: r).drop n) rfl (p + n)
            rw [cut_some hb' h35 hf]
            cases hc : cutR ((c :: r).drop n) (p + n) with
            | error q => rw [hc] at hrec; exact h_err _ _ t n q hf hrec
            | ok ts => rw [hc] at hrec; exact h_tok _ _ t n ts hf hrec

/-- An error stands within the text. -/
theorem cut_err (l : List UInt8) (p : Nat) : ∀ q, cutR l p = .error q → p ≤ q ∧ q ≤ p + l.length := by
  refine cut_ind (fun l p x => ∀ q, x = .error q → p ≤ q ∧ q ≤ p + l.length) ?_ ?_ ?_ ?_ ?_ l p
  · intro p q h; cases h
  · intro l p k h1 h2 h q hq
    have := h q hq
    rw [List.length_drop] at this
    omega
  · intro c r p q h; cases h; simp
  · intro l p t n q hf h q' hq
    cases hq
    have := h q rfl
    have hx := firstT_le hf
    rw [List.length_drop] at this
    simp at hx
    omega
  · intro l p t n ts hf h q hq; cases hq

/-- Where tokens stand. -/
structure Placed (l : List UInt8) (p : Nat) (ts : List Tk) : Prop where
  last : ∃ us, ts = us ++ [⟨0, [], 0, p + l.length⟩]
  first : ∀ t, ts[0]? = some t → p ≤ t.pos
  up : ∀ j s t, ts[j]? = some s → ts[j + 1]? = some t → s.pos < t.pos
  in_ : ∀ t ∈ ts, p ≤ t.pos ∧ t.pos ≤ p + l.length ∧ (t.kind ≠ 3 → t.pos - p + t.text.length ≤ l.length ∧ (l.drop (t.pos - p)).take t.text.length = t.text)
theorem placed_skip {l : List UInt8} {p k : Nat} {ts : List Tk} (hk : k ≤ l.length) (h : Placed (l.drop k) (p + k) ts) : Placed l p ts := by
  obtain ⟨us, hus⟩ := h.last
  rw [List.length_drop] at hus
  refine ⟨⟨us, by rw [hus, show p + k + (l.length - k) = p + l.length by omega]⟩, fun t ht => by have := h.first t ht; omega, h.up, fun t ht => ?_⟩
  obtain ⟨h1, h2, h3⟩ := h.in_ t ht
  rw [List.length_drop] at h2 h3
  refine ⟨by omega, by omega, fun hk3 => ?_⟩
  obtain ⟨h4, h5⟩ := h3 hk3
  rw [List.drop_drop, show k + (t.pos - (p + k)) = t.pos - p by omega] at h5
  exact ⟨by omega, h5⟩
theorem cut_placed (l : List UInt8) (p : Nat) : ∀ ts, cutR l p = .ok ts → Placed l p ts := by
  refine cut_ind (fun l p x => ∀ ts, x = .ok ts → Placed l p ts) ?_ ?_ ?_ ?_ ?_ l p
  · intro p ts h
    cases h
    refine ⟨⟨[], by simp⟩, fun t ht => by simp at ht; rw [← ht]; exact Nat.le_refl _, fun j s t hs ht => ?_, fun t ht => ?_⟩
    · cases j with
      | zero => simp at ht
      | succ j => simp at hs
    · simp at ht
      subst ht
      simp
  · intro l p k h1 h2 h ts hts
    exact placed_skip h2 (h ts hts)
  · intro c r p ts h; cases h
  · intro l p t n q hf h ts hts; cases hts
  · intro l p t n ts hf h us hus
    cases hus
    have hx := firstT_le hf
    have hp := h ts rfl
    have hq := placed_skip hx.2.1 hp
    obtain ⟨us, hus⟩ := hq.last
    refine ⟨⟨{ t with pos := p } :: us, by rw [hus]; rfl⟩, fun s hs => by simp at hs; rw [← hs]; exact Nat.le_refl _, fun j a b ha hb => ?_, fun s hs => ?_⟩
    · cases j with
      | zero =>
        simp at ha hb
        have := hp.first b (by simpa using hb)
        rw [← ha]
        show p < b.pos
        omega
      | succ j => exact hp.up j a b (by simpa using ha) (by simpa using hb)
    · rcases List.mem_cons.1 hs with rfl | hs
      · refine ⟨Nat.le_refl _, by simp, fun h3 => ?_⟩
        have h7 := hx.2.2.2.2.2.2 h3
        have h2 := hx.2.1
        simp only [Nat.sub_self, List.drop_zero, Nat.zero_add]
        have hl : t.text.length = n := by
          have := congrArg List.length h7
          simp at this h2
          omega
        exact ⟨by rw [hl]; exact h2, by rw [hl]; exact h7.symm⟩
      · exact hq.in_ s hs

/-- Further on in a greater text: the same, further on. -/
def shE (d : Nat) : Except Nat (List Tk) → Except Nat (List Tk)
  | .error q => .error (q + d)
  | .ok l => .ok (l.map fun t => { t with pos := t.pos + d })
theorem cut_shift (d : Nat) (l : List UInt8) : ∀ p, cutR l (p + d) = shE d (cutR l p) := by
  induction hn : l.length using Nat.strongRecOn generalizing l with
  | _ m ih =>
    intro p
    cases l with
    | nil => rw [cut_nil, cut_nil]; rfl
    | cons c r =>
      by_cases hb : blankL.contains c = true
      · rw [cut_blank hb, cut_blank hb, ← ih r.length (by rw [← hn]; simp) r rfl (p + 1)]
        congr 1; omega
      · have hb' : blankL.contains c = false := by simpa using hb
        by_cases h35 : c = 35
        · subst h35
          have h1 := comN_pos r
          have h2 := comN_le (35 :: r)
          rw [cut_com, cut_com, ← ih _ (by rw [← hn, List.length_drop]; simp at *; omega) _ rfl _]
          congr 1; omega
        · cases hf : firstT (c :: r) with
          | none => rw [cut_none hb' h35 hf, cut_none hb' h35 hf]; rfl
          | some x =>
            obtain ⟨t, n⟩ := x
            have hx := firstT_le hf
            rw [cut_some hb' h35 hf, cut_some hb' h35 hf, show p + d + n = p + n + d by omega, ih ((c :: r).drop n).length (by rw [← hn, List.length_drop]; simp at *; omega) ((c :: r).drop n) rfl (p + n)]
            cases cutR ((c :: r).drop n) (p + n) <;> rfl
/-! ### a line feed between -/
theorem run_app {set : List UInt8} (h : set.contains 10 = false) (b : List UInt8) : ∀ (a : List UInt8), runOf set (a ++ 10 :: b) = runOf set a
  | [] => by unfold runOf; rw [List.nil_append, List.takeWhile_cons_of_neg (by rw [h]; decide)]; rfl
  | c :: r => by
    have ih := run_app h b r
    unfold runOf at ih ⊢
    by_cases hc : set.contains c = true
    · rw [List.cons_append, List.takeWhile_cons_of_pos (by simpa using hc), List.takeWhile_cons_of_pos (by simpa using hc), ih]
    · rw [List.cons_append, List.takeWhile_cons_of_neg (by simpa using hc), List.takeWhile_cons_of_neg (by simpa using hc)]
theorem com_app (b : List UInt8) : ∀ (a : List UInt8), comN (a ++ 10 :: b) = comN a
  | [] => by unfold comN; rw [List.nil_append, List.takeWhile_cons_of_neg (by decide)]; rfl
  | c :: r => by
    have ih := com_app b r
    unfold comN at ih ⊢
    by_cases hc : (!(c == 10)) = true
    · rw [List.cons_append, List.takeWhile_cons_of_pos (p := fun c => !(c == 10)) hc, List.takeWhile_cons_of_pos (p := fun c => !(c == 10)) hc, List.length_cons, List.length_cons, ih]
    · rw [List.cons_append, List.takeWhile_cons_of_neg (p := fun c => !(c == 10)) hc, List.takeWhile_cons_of_neg (p := fun c => !(c == 10)) hc]
theorem strT_two (c e : UInt8) (r : List UInt8) : strT (c :: e :: r) = if c = 34 then some ([], 1) else if c = 92 then (match escD e with
      | some d => (strT r).map fun x => (d :: x.1, x.2 + 2)
      | none => none) else if prn c then (strT (e :: r)).map fun x => (c :: x.1, x.2 + 1) else none := by rw [strT] <;> rfl
theorem str_app (b : List UInt8) : ∀ (a : List UInt8), strT (a ++ 10 :: b) = strT a
  | [] => by
    cases b with
    | nil => simp [strT]
    | cons x y => rw [List.nil_append, strT_two, if_neg (by decide), if_neg (by decide), if_neg (by decide)]; rfl
  | [c] => by
    show strT (c :: 10 :: b) = strT [c]
    rw [strT_two]
    by_cases h1 : c = 34
    · subst h1; simp [strT]
    · by_cases h2 : c = 92
      · subst h2
        simp [strT, escD]
      · have ih := str_app b []
        rw [List.nil_append] at ih
        rw [if_neg h1, if_neg h2, ih]
        simp [strT, h1]
  | c :: e :: r => by
    show strT (c :: e :: (r ++ 10 :: b)) = strT (c :: e :: r)
    have ih1 := str_app b r
    have ih2 := str_app b (e :: r)
    rw [List.cons_append] at ih2
    rw [strT_two, strT_two, ih1, ih2]
theorem hex_app (b : List UInt8) : ∀ (a : List UInt8), isHex (a ++ 10 :: b) = isHex a
  | [] => by simp [isHex, List.isPrefixOf]
  | [c] => by simp [isHex, List.isPrefixOf]
  | c :: e :: r => by simp [isHex, List.isPrefixOf]
theorem num_app (a b : List UInt8) : numT (a ++ 10 :: b) = numT a := by
  have hh := hex_app b a
  have h1 : leadN (a ++ 10 :: b) = leadN a := by unfold leadN; rw [hh]
  have h2 : baseN (a ++ 10 :: b) = baseN a := by unfold baseN; rw [hh]
  have h3 : digN (a ++ 10 :: b) = digN a := by unfold digN; rw [hh]
  have hl := lead_le a
  have h4 : bodyN (a ++ 10 :: b) = bodyN a := by
    unfold bodyN
    rw [h1, h3, List.drop_append_of_le_length hl]
    exact run_app (by unfold digN; split <;> decide) b _
  have h5 : sizeN (a ++ 10 :: b) = sizeN a := by unfold sizeN; rw [h1, h4]
  have hs := size_le a
  have h6 : letAt (a ++ 10 :: b) (sizeN a) = letAt a (sizeN a) := by
    unfold letAt
    rcases Nat.lt_or_ge (sizeN a) a.length with h | h
    · rw [List.getElem?_append_left h]
    · rw [List.getElem?_append_right h, List.getElem?_eq_none h, show sizeN a - a.length = 0 by omega]
      rfl
  have h7 : numBad (a ++ 10 :: b) = numBad a := by unfold numBad; rw [h2, h4, h5, h6]
  unfold numT
  rw [h7, h5, h2, h4, List.take_append_of_le_length hs]
theorem first_app (c : UInt8) (r b : List UInt8) : firstT ((c :: r) ++ 10 :: b) = firstT (c :: r) := by
  have h1 := run_app (set := wordL) (by decide) b (c :: r)
  have h2 := num_app (c :: r) b
  have h3 := str_app b r
  rw [List.cons_append] at h1 h2 ⊢
  unfold firstT
  dsimp only
  rw [h1, h2, h3]
theorem cut_app (b a : List UInt8) : ∀ p, (∀ q, cutR a p = .error q → cutR (a ++ 10 :: b) p = .error q) ∧ (∀ ts, cutR a p = .ok ts → cutR (a ++ 10 :: b) p = preT ts.dropLast (cutR b (p + a.length + 1))) := by
  induction hn : a.length using Nat.strongRecOn generalizing a with
  | _ m ih =>
    intro p
    subst hn
    cases a with
    | nil =>
      rw [cut_nil]
      refine ⟨fun q h => (by cases h), fun ts h => ?_⟩
      cases h
      rw [List.nil_append, cut_blank (by decide)]
      show cutR b (p + 1) = preT [] _
      rw [preT_nil]; rfl
    | cons c r =>
      by_cases hb : blankL.contains c = true
      · have h := ih r.length (by simp) r rfl (p + 1)
        rw [List.cons_append, cut_blank hb, cut_blank hb]
        refine ⟨h.1, fun ts hts => ?_⟩
        rw [h.2 ts hts]
        congr 2; simp; omega
      · have hb' : blankL.contains c = false := by simpa using hb
        by_cases h35 : c = 35
        · subst h35
          have h1 := comN_pos r
          have h2 := comN_le (35 :: r)
          have hc := com_app b (35 :: r)
          have h := ih ((35 :: r).drop (comN (35 :: r))).length (by rw [List.length_drop]; simp at *; omega) _ rfl (p + comN (35 :: r))
          have hd : ((35 :: r) ++ 10 :: b).drop (comN (35 :: r)) = (35 :: r).drop (comN (35 :: r)) ++ 10 :: b := List.drop_append_of_le_length h2
          rw [List.cons_append] at hc hd ⊢
          rw [cut_com, cut_com, hc, hd]
          refine ⟨h.1, fun ts hts => ?_⟩
          rw [h.2 ts hts, List.length_drop]
          congr 2; omega
        · have hfa := first_app c r b
          cases hf : firstT (c :: r) with
          | none =>
            rw [hf, List.cons_append] at hfa
            rw [List.cons_append, cut_none hb' h35 hf, cut_none hb' h35 hfa]
            exact ⟨fun q h => h, fun ts h => (by cases h)⟩
          | some x =>
            obtain ⟨t, n⟩ := x
            have hx := firstT_le hf
            have hn1 : n ≤ (c :: r).length := hx.2.1
            have hn0 : 1 ≤ n := hx.1
            rw [hf, List.cons_append] at hfa
            have h := ih ((c :: r).drop n).length (by rw [List.length_drop]; simp at *; omega) _ rfl (p + n)
            have hd : ((c :: r) ++ 10 :: b).drop n = (c :: r).drop n ++ 10 :: b := List.drop_append_of_le_length hn1
            rw [List.cons_append] at hd
            rw [List.cons_append, cut_some hb' h35 hf, cut_some hb' h35 hfa, hd]
            cases hc : cutR ((c :: r).drop n) (p + n) with
            | error q =>
              rw [h.1 q hc]
              exact ⟨fun q' h' => h', fun ts h' => (by cases h')⟩
            | ok us =>
              rw [h.2 us hc, List.length_drop, show p + n + ((c :: r).length - n) + 1 = p + (c :: r).length + 1 by omega]
              refine ⟨fun q' h' => (by cases h'), fun ts h' => ?_⟩
              cases h'
              have hne : us ≠ [] := by
                obtain ⟨vs, hvs⟩ := (cut_placed _ _ us hc).last
                rw [hvs]; simp
              rw [List.dropLast_cons_of_ne_nil hne]
              cases cutR b (p + (c :: r).length + 1) <;> rfl


def qe (c : UInt8) : Option UInt8 := if c = 34 then some 34 else if c = 92 then some 92 else if c = 13 then some 114 else if c = 10 then some 110 else none
def quo1 (c : UInt8) : Option (List UInt8) := match qe c with
  | some e => some [92, e]
  | none => if prn c then some [c] else none
def quoL : List UInt8 → Option (List UInt8)
  | [] => some []
  | c :: r => match quo1 c with
    | some q => (quoL r).map (q ++ ·)
    | none => none
theorem strT_quote (r : List UInt8) : strT (34 :: r) = some ([], 1) := by cases r <;> simp [strT]
theorem strT_prn {c : UInt8} {r : List UInt8} (h1 : c ≠ 34) (h2 : c ≠ 92) (h : prn c = true) : strT (c :: r) = (strT r).map fun x => (c :: x.1, x.2 + 1) := by
  cases r with
  | nil => simp [strT, h1]
  | cons e r => rw [strT, if_neg h1, if_neg h2, if_pos h]
def textT (l : List UInt8) : Option (Tk × Nat) := (strT (l.drop 1)).map fun x => (⟨3, x.1, 0, 0⟩, x.2 + 1)
theorem num_bad {l : List UInt8} (h : numBad l = true) : numT l = none := by unfold numT; rw [if_pos h]
theorem num_good {l : List UInt8} (h : numBad l = false) : numT l = some (⟨2, l.take (sizeN l), valB (baseN l) (bodyN l) 0, 0⟩, sizeN l) := by unfold numT; rw [if_neg (by rw [h]; decide)]
section
variable {c : UInt8} {r : List UInt8}
theorem first_let (h : letL.contains c = true) : firstT (c :: r) = some (⟨1, runOf wordL (c :: r), 0, 0⟩, (runOf wordL (c :: r)).length) := by
  unfold firstT; dsimp only; rw [if_pos h]
theorem first_dec (h1 : letL.contains c = false) (h : decL.contains c = true) : firstT (c :: r) = numT (c :: r) := by
  unfold firstT; dsimp only; rw [if_neg (by rw [h1]; decide), if_pos h]
theorem first_quo (h : c = 34) : firstT (c :: r) = textT (c :: r) := by
  subst h
  unfold firstT textT; dsimp only; rw [if_neg (by decide), if_neg (by decide), if_pos rfl]; rfl
theorem first_sign (h1 : letL.contains c = false) (h2 : decL.contains c = false) (h3 : c ≠ 34) (h : signL.contains c = true) : firstT (c :: r) = some (⟨4, [c], 0, 0⟩, 1) := by
  unfold firstT; dsimp only; rw [if_neg (by rw [h1]; decide), if_neg (by rw [h2]; decide), if_neg h3, if_pos h]
theorem first_no (h1 : letL.contains c = false) (h2 : decL.contains c = false) (h3 : c ≠ 34) (h : signL.contains c = false) : firstT (c :: r) = none := by
  unfold firstT; dsimp only; rw [if_neg (by rw [h1]; decide), if_neg (by rw [h2]; decide), if_neg h3, if_neg (by rw [h]; decide)]
end
theorem qe_esc (c e : UInt8) (h : qe c = some e) : escD e = some c := by
  unfold qe at h
  split at h
  · rename_i k; cases h; rw [k]; decide
  · split at h
    · rename_i k; cases h; rw [k]; decide
    · split at h
      · rename_i k; cases h; rw [k]; decide
      · split at h
        · rename_i k; cases h; rw [k]; decide
        · cases h
theorem str_quo : ∀ (l q : List UInt8), quoL l = some q → ∀ r, strT (q ++ 34 :: r) = some (l, q.length + 1)
  | [], q, h, r => by
    simp [quoL] at h
    subst h
    rw [List.nil_append, strT_quote]; rfl
  | c :: l, q, h, r => by
    simp only [quoL] at h
    split at h
    · rename_i x hx
      cases hr : quoL l with
      | none => rw [hr] at h; cases h
      | some y =>
        rw [hr] at h
        cases h
        have ih := str_quo l y hr r
        unfold quo1 at hx
        split at hx
        · rename_i e he
          cases hx
          show strT (92 :: e :: (y ++ 34 :: r)) = _
          rw [strT_two, if_neg (by decide), if_pos rfl, qe_esc c e he, ih]
          rfl
        · rename_i he
          split at hx
          · rename_i hp
            cases hx
            show strT (c :: (y ++ 34 :: r)) = _
            have h1 : c ≠ 34 := fun e => by rw [e] at he; revert he; decide
            have h2 : c ≠ 92 := fun e => by rw [e] at he; revert he; decide
            rw [strT_prn h1 h2 hp, ih]
            rfl
          · cases hx
    · cases h
theorem dec_first : ∀ c ∈ decL, blankL.contains c = false ∧ c ≠ 35 ∧ letL.contains c = false ∧ c ≠ 120 := by decide
theorem runOf_all {set : List UInt8} : ∀ {l : List UInt8}, (∀ c ∈ l, set.contains c = true) → runOf set l = l
  | [], _ => rfl
  | c :: r, h => by
    have ih := runOf_all (set := set) (l := r) fun x hx => h x (List.mem_cons_of_mem _ hx)
    unfold runOf at ih ⊢
    rw [List.takeWhile_cons_of_pos (by simpa using h c (List.mem_cons_self ..)), ih]
theorem set10 : setB 10 = decL := by decide
theorem set16 : setB 16 = hexL := by decide
end Go.Proofs.YtonloefjhofeeaaGreatDoor
