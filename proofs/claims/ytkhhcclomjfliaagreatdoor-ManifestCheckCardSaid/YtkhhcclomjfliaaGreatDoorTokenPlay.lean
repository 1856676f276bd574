/-
  Tokens, plainly: what is quoted; what the first token of a text is.
-/
import Derived.Test.YtkhhcclomjfliaaGreatDoorTokenDig
import Derived.Test.YtkhhcclomjfliaaGreatDoorTokenMore
namespace Go.Proofs.YtkhhcclomjfliaaGreatDoor
set_option linter.unusedVariables false

def qe (c : UInt8) : Option UInt8 := if c = 34 then some 34 else if c = 92 then some 92 else if c = 13 then some 114 else if c = 10 then some 110 else none
def quo1 (c : UInt8) : Option (List UInt8) := match qe c with
  | some e => some [92, e]
  | none => if prn c then some [c] else none
def quoL : List UInt8 → Option (List UInt8)
  | [] => some []
  | c :: r => match quo1 c with
    | some q => (quoL r).map (q ++ ·)
    | none => none
theorem strT_quote (r : List UInt8) : strT (34 :: r) = some ([], 1) := by cases r <;> simp [strT]
theorem strT_prn {c : UInt8} {r : List UInt8} (h1 : c ≠ 34) (h2 : c ≠ 92) (h : prn c = true) : strT (c :: r) = (strT r).map fun x => (c :: x.1, x.2 + 1) := by
  cases r with
  | nil => simp [strT, h1]
  | cons e r => rw [strT, if_neg h1, if_neg h2, if_pos h]
def textT (l : List UInt8) : Option (Tk × Nat) := (strT (l.drop 1)).map fun x => (⟨3, x.1, 0, 0⟩, x.2 + 1)
theorem num_bad {l : List UInt8} (h : numBad l = true) : numT l = none := by unfold numT; rw [if_pos h]
theorem num_good {l : List UInt8} (h : numBad l = false) : numT l = some (⟨2, l.take (sizeN l), valB (baseN l) (bodyN l) 0, 0⟩, sizeN l) := by unfold numT; rw [if_neg (by rw [h]; decide)]
section
variable {c : UInt8} {r : List UInt8}
theorem first_let (h : letL.contains c = true) : firstT (c :: r) = some (⟨1, runOf wordL (c :: r), 0, 0⟩, (runOf wordL (c :: r)).length) := by
  unfold firstT; dsimp only; rw [if_pos h]
theorem first_dec (h1 : letL.contains c = false) (h : decL.contains c = true) : firstT (c :: r) = numT (c :: r) := by
  unfold firstT; dsimp only; rw [if_neg (by rw [h1]; decide), if_pos h]
theorem first_quo (h : c = 34) : firstT (c :: r) = textT (c :: r) := by
  subst h
  unfold firstT textT; dsimp only; rw [if_neg (by decide), if_neg (by decide), if_pos rfl]; rfl
theorem first_sign (h1 : letL.contains c = false) (h2 : decL.contains c = false) (h3 : c ≠ 34) (h : signL.contains c = true) : firstT (c :: r) = some (⟨4, [c], 0, 0⟩, 1) := by
  unfold firstT; dsimp only; rw [if_neg (by rw [h1]; decide), if_neg (by rw [h2]; decide), if_neg h3, if_pos h]
theorem first_no (h1 : letL.contains c = false) (h2 : decL.contains c = false) (h3 : c ≠ 34) (h : signL.contains c = false) : firstT (c :: r) = none := by
  unfold firstT; dsimp only; rw [if_neg (by rw [h1]; decide), if_neg (by rw [h2]; decide), if_neg h3, if_neg (by rw [h]; decide)]
end
theorem qe_esc (c e : UInt8) (h : qe c = some e) : escD e = some c := by
  unfold qe at h
  split at h
  · rename_i k; cases h; rw [k]; decide
  · split at h
    · rename_i k; cases h; rw [k]; decide
    · split at h
      · rename_i k; cases h; rw [k]; decide
      · split at h
        · rename_i k; cases h; rw [k]; decide
        · cases h
theorem str_quo : ∀ (l q : List UInt8), quoL l = some q → ∀ r, strT (q ++ 34 :: r) = some (l, q.length + 1)
  | [], q, h, r => by
    simp [quoL] at h
    subst h
    rw [List.nil_append, strT_quote]; rfl
  | c :: l, q, h, r => by
    simp only [quoL] at h
    split at h
    · rename_i x hx
      cases hr : quoL l with
      | none => rw [hr] at h; cases h
      | some y =>
        rw [hr] at h
        cases h
        have ih := str_quo l y hr r
        unfold quo1 at hx
        split at hx
        · rename_i e he
          cases hx
          show strT (92 :: e :: (y ++ 34 :: r)) = _
          rw [strT_two, if_neg (by decide), if_pos rfl, qe_esc c e he, ih]
          rfl
        · rename_i he
          split at hx
          · rename_i hp
            cases hx
            show strT (c :: (y ++ 34 :: r)) = _
            have h1 : c ≠ 34 := fun e => by rw [e] at he; revert he; decide
            have h2 : c ≠ 92 := fun e => by rw [e] at he; revert he; decide
            rw [strT_prn h1 h2 hp, ih]
            rfl
          · cases hx
    · cases h
theorem dec_first : ∀ c ∈ decL, blankL.contains c = false ∧ c ≠ 35 ∧ letL.contains c = false ∧ c ≠ 120 := by decide
theorem runOf_all {set : List UInt8} : ∀ {l : List UInt8}, (∀ c ∈ l, set.contains c = true) → runOf set l = l
  | [], _ => rfl
  | c :: r, h => by
    have ih := runOf_all (set := set) (l := r) fun x hx => h x (List.mem_cons_of_mem _ hx)
    unfold runOf at ih ⊢
    rw [List.takeWhile_cons_of_pos (by simpa using h c (List.mem_cons_self ..)), ih]
theorem set10 : setB 10 = decL := by decide
theorem set16 : setB 16 = hexL := by decide
end Go.Proofs.YtkhhcclomjfliaaGreatDoor
