/-
  Tokens, plainly: what a text is cut into.
-/
import Derived.Test.YtgndcgknedmalaaGreatDoorTurn
namespace Go.Proofs.YtgndcgknedmalaaGreatDoor
set_option linter.unusedVariables false

def letL : List UInt8 := [97, 98, 99, 100, 101, 102, 103, 104, 105, 106, 107, 108, 109, 110, 111, 112, 113, 114, 115, 116, 117, 118, 119, 120, 121, 122]
def decL : List UInt8 := [48, 49, 50, 51, 52, 53, 54, 55, 56, 57]
def hexL : List UInt8 := [48, 49, 50, 51, 52, 53, 54, 55, 56, 57, 97, 98, 99, 100, 101, 102]
def wordL : List UInt8 := [97, 98, 99, 100, 101, 102, 103, 104, 105, 106, 107, 108, 109, 110, 111, 112, 113, 114, 115, 116, 117, 118, 119, 120, 121, 122, 48, 49, 50, 51, 52, 53, 54, 55, 56, 57, 45]
def blankL : List UInt8 := [32, 9, 10]
def signL : List UInt8 := [58, 59, 44, 123, 125]
def denL : List UInt8 := [34, 92, 13, 10]
def escL : List UInt8 := [34, 92, 114, 110]
def prn (c : UInt8) : Bool := decide (32 ≤ c.toNat) && decide (c.toNat ≤ 126)
def runOf (set s : List UInt8) : List UInt8 := s.takeWhile fun c => set.contains c

structure Tk where
  kind : Nat
  text : List UInt8
  val : Nat
  pos : Nat
  deriving DecidableEq
def dgt (c : UInt8) : Nat := if c.toNat ≤ 57 then c.toNat - 48 else c.toNat - 87
def valB (b : Nat) : List UInt8 → Nat → Nat
  | [], v => v
  | c :: r, v => valB b r (v * b + dgt c)
def isHex (s : List UInt8) : Bool := [48, 120].isPrefixOf s
def leadN (s : List UInt8) : Nat := if isHex s then 2 else 0
def baseN (s : List UInt8) : Nat := if isHex s then 16 else 10
def digN (s : List UInt8) : List UInt8 := if isHex s then hexL else decL
def bodyN (s : List UInt8) : List UInt8 := runOf (digN s) (s.drop (leadN s))
def sizeN (s : List UInt8) : Nat := leadN s + (bodyN s).length
def letAt (s : List UInt8) (i : Nat) : Bool := match s[i]? with
  | some c => letL.contains c
  | none => false
def numBad (s : List UInt8) : Bool :=
  (bodyN s).isEmpty || decide (4294967296 ≤ valB (baseN s) (bodyN s) 0) || ((bodyN s).head? == some 48 && decide (1 < (bodyN s).length)) || letAt s (sizeN s)
def numT (s : List UInt8) : Option (Tk × Nat) :=
  if numBad s then none else some (⟨2, s.take (sizeN s), valB (baseN s) (bodyN s) 0, 0⟩, sizeN s)
def escD (c : UInt8) : Option UInt8 := if c = 34 then some 34 else if c = 92 then some 92 else if c = 114 then some 13 else if c = 110 then some 10 else none
/-- What stands behind the quote: its text, and how many bytes it takes. -/
def strT : List UInt8 → Option (List UInt8 × Nat)
  | [] => none
  | [c] => if c = 34 then some ([], 1) else none
  | c :: e :: r => if c = 34 then some ([], 1) else if c = 92 then (match escD e with
      | some d => (strT r).map fun x => (d :: x.1, x.2 + 2)
      | none => none) else if prn c then (strT (e :: r)).map fun x => (c :: x.1, x.2 + 1) else none
def firstT (s : List UInt8) : Option (Tk × Nat) := match s with
  | [] => none
  | c :: r =>
    if letL.contains c then some (⟨1, runOf wordL s, 0, 0⟩, (runOf wordL s).length)
    else if decL.contains c then numT s
    else if c = 34 then (strT r).map fun x => (⟨3, x.1, 0, 0⟩, x.2 + 1)
    else if signL.contains c then some (⟨4, [c], 0, 0⟩, 1) else none
def comN (s : List UInt8) : Nat := (s.takeWhile fun c => !(c == 10)).length
/-- The tokens of what is left, at a place; or where there is none. -/
def cutR : List UInt8 → Nat → Except Nat (List Tk)
  | [], p => .ok [⟨0, [], 0, p⟩]
  | c :: r, p => if blankL.contains c then cutR r (p + 1) else if c = 35 then cutR (r.drop (comN (c :: r) - 1)) (p + comN (c :: r)) else match firstT (c :: r) with
    | none => .error p
    | some (t, n) => match cutR (r.drop (n - 1)) (p + n) with
      | .error q => .error q
      | .ok l => .ok ({ t with pos := p } :: l)
termination_by s => s.length
decreasing_by all_goals (simp; try omega)

/-! ### a run -/
theorem runOf_len (set s : List UInt8) : (runOf set s).length ≤ s.length := (List.takeWhile_prefix _).length_le
theorem runOf_take (set s : List UInt8) : s.take (runOf set s).length = runOf set s := by
  exact (List.prefix_iff_eq_take.1 (List.takeWhile_prefix (l := s) fun c => set.contains c)).symm
theorem runOf_mem {set : List UInt8} {c : UInt8} : ∀ {s : List UInt8}, c ∈ runOf set s → set.contains c = true
  | [], h => by simp [runOf] at h
  | a :: r, h => by
    unfold runOf at h
    by_cases ha : set.contains a = true
    · rw [List.takeWhile_cons_of_pos (by simpa using ha)] at h
      rcases List.mem_cons.1 h with rfl | h
      · exact ha
      · exact runOf_mem (s := r) h
    · rw [List.takeWhile_cons_of_neg (by simpa using ha)] at h
      cases h
theorem comN_le (s : List UInt8) : comN s ≤ s.length := (List.takeWhile_prefix _).length_le
theorem comN_pos (r : List UInt8) : 1 ≤ comN (35 :: r) := by
  unfold comN
  rw [List.takeWhile_cons_of_pos (by decide)]
  simp
theorem runOf_pos {set : List UInt8} {c : UInt8} (r : List UInt8) (h : set.contains c = true) : 1 ≤ (runOf set (c :: r)).length := by
  unfold runOf
  rw [List.takeWhile_cons_of_pos (by simpa using h)]
  simp
theorem let_word : ∀ c ∈ letL, wordL.contains c = true := by decide
theorem lead_le (s : List UInt8) : leadN s ≤ s.length := by
  unfold leadN
  split
  · rename_i h
    have := (List.isPrefixOf_iff_prefix.1 h).length_le
    simpa using this
  · omega
theorem size_le (s : List UInt8) : sizeN s ≤ s.length := by
  have h1 := lead_le s
  have h2 := runOf_len (digN s) (s.drop (leadN s))
  unfold sizeN bodyN
  rw [List.length_drop] at h2
  omega
theorem strT_le : ∀ (r : List UInt8) (x : List UInt8 × Nat), strT r = some x → 1 ≤ x.2 ∧ x.2 ≤ r.length ∧ x.1.length < x.2
  | [], x, h => by simp [strT] at h
  | [c], x, h => by
    simp only [strT] at h
    split at h
    · cases h; simp
    · cases h
  | c :: e :: r, x, h => by
    simp only [strT] at h
    split at h
    · cases h; simp
    · split at h
      · split at h
        · rename_i d hd
          cases hr : strT r with
          | none => rw [hr] at h; cases h
          | some y =>
            rw [hr] at h
            cases h
            have := strT_le r y hr
            simp; omega
        · cases h
      · split at h
        · cases hr : strT (e :: r) with
          | none => rw [hr] at h; cases h
          | some y =>
            rw [hr] at h
            cases h
            have := strT_le (e :: r) y hr
            simp at this ⊢; omega
        · cases h
/-- A token takes a byte at least, and no more than there are; unless it is a String its text is what it takes. -/
theorem firstT_le {s : List UInt8} {x : Tk × Nat} (h : firstT s = some x) : 1 ≤ x.2 ∧ x.2 ≤ s.length ∧ x.1.text.length ≤ x.2 ∧ x.1.kind ≠ 0 ∧ x.1.kind ≤ 4 ∧ x.1.val < 4294967296 ∧ (x.1.kind ≠ 3 → x.1.text = s.take x.2) := by
  unfold firstT at h
  split at h
  · cases h
  · rename_i c r
    split at h
    · rename_i hc
      cases h
      have h1 := runOf_pos r (let_word c (List.contains_iff_mem.1 hc))
      have h2 := runOf_len wordL (c :: r)
      refine ⟨h1, h2, Nat.le_refl _, by simp, by simp, by simp, fun _ => (runOf_take _ _).symm⟩
    · split at h
      · unfold numT at h
        split at h
        · cases h
        · rename_i hb
          cases h
          have h2 := size_le (c :: r)
          simp only [numBad, Bool.or_eq_true, not_or, Bool.not_eq_true] at hb
          have h3 : 1 ≤ (bodyN (c :: r)).length := by
            cases hB : bodyN (c :: r) with
            | nil => rw [hB] at hb; simp at hb
            | cons a b => simp
          have h4 : valB (baseN (c :: r)) (bodyN (c :: r)) 0 < 4294967296 := by have := of_decide_eq_false hb.1.1.2; omega
          refine ⟨by simp only [sizeN]; omega, h2, by simp; omega, by simp, by simp, h4, fun _ => rfl⟩
      · split at h
        · cases hr : strT r with
          | none => rw [hr] at h; cases h
          | some y =>
            rw [hr] at h
            cases h
            have := strT_le r y hr
            refine ⟨by simp, by simp; omega, by simp; omega, by simp, by simp, by simp, fun h => absurd rfl h⟩
        · split at h
          · cases h
            refine ⟨by simp, by simp, by simp, by simp, by simp, by simp, fun _ => rfl⟩
          · cases h
/-! ### how what is left goes on -/
theorem cut_nil (p : Nat) : cutR [] p = .ok [⟨0, [], 0, p⟩] := by rw [cutR]
theorem cut_blank {c : UInt8} {r : List UInt8} {p : Nat} (h : blankL.contains c = true) : cutR (c :: r) p = cutR r (p + 1) := by rw [cutR, if_pos h]
theorem drop_pred {s r : List UInt8} {c : UInt8} {n : Nat} (h : 1 ≤ n) (hs : s = c :: r) : r.drop (n - 1) = s.drop n := by
  subst hs
  obtain ⟨k, rfl⟩ : ∃ k, n = k + 1 := ⟨n - 1, by omega⟩
  rfl
theorem cut_com {r : List UInt8} {p : Nat} : cutR (35 :: r) p = cutR ((35 :: r).drop (comN (35 :: r))) (p + comN (35 :: r)) := by
  rw [cutR, if_neg (by decide), if_pos rfl, drop_pred (comN_pos r) rfl]
theorem cut_none {c : UInt8} {r : List UInt8} {p : Nat} (h1 : blankL.contains c = false) (h2 : c ≠ 35) (h : firstT (c :: r) = none) : cutR (c :: r) p = .error p := by
  rw [cutR, if_neg (by rw [h1]; decide), if_neg h2, h]
theorem cut_some {c : UInt8} {r : List UInt8} {p n : Nat} {t : Tk} (h1 : blankL.contains c = false) (h2 : c ≠ 35) (h : firstT (c :: r) = some (t, n)) :
    cutR (c :: r) p = match cutR ((c :: r).drop n) (p + n) with
      | .error q => .error q
      | .ok l => .ok ({ t with pos := p } :: l) := by
  rw [cutR, if_neg (by rw [h1]; decide), if_neg h2, h]
  simp only
  rw [drop_pred (firstT_le h).1 rfl]
/-- What was found before, ahead of what is left. -/
def preT (acc : List Tk) : Except Nat (List Tk) → Except Nat (List Tk)
  | .error q => .error q
  | .ok l => .ok (acc ++ l)
theorem preT_nil (x : Except Nat (List Tk)) : preT [] x = x := by cases x <;> rfl
theorem preT_some {c : UInt8} {r : List UInt8} {p n : Nat} {t : Tk} (acc : List Tk) (h1 : blankL.contains c = false) (h2 : c ≠ 35) (h : firstT (c :: r) = some (t, n)) :
    preT acc (cutR (c :: r) p) = preT (acc ++ [{ t with pos := p }]) (cutR ((c :: r).drop n) (p + n)) := by
  rw [cut_some h1 h2 h]
  cases cutR ((c :: r).drop n) (p + n) with
  | error q => rfl
  | ok l => simp [preT]
end Go.Proofs.YtgndcgknedmalaaGreatDoor
