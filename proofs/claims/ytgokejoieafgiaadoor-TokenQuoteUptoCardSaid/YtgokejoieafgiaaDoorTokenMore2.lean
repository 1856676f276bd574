/-
  Tokens, plainly: what a quoted text and a number are cut into.
-/
import Derived.Test.YtgokejoieafgiaaDoorTokenQuoL
import Derived.Test.YtgokejoieafgiaaDoorTokenFirst
import Derived.Test.YtgokejoieafgiaaDoorTokenMore
namespace Go.Proofs.YtgokejoieafgiaaDoor
set_option linter.unusedVariables false

theorem qe_esc (c e : UInt8) (h : qe c = some e) : escD e = some c := by
  unfold qe at h
  split at h
  · rename_i k; cases h; rw [k]; decide
  · split at h
    · rename_i k; cases h; rw [k]; decide
    · split at h
      · rename_i k; cases h; rw [k]; decide
      · split at h
        · rename_i k; cases h; rw [k]; decide
        · cases h
theorem str_quo : ∀ (l q : List UInt8), quoL l = some q → ∀ r, strT (q ++ 34 :: r) = some (l, q.length + 1)
  | [], q, h, r => by
    simp [quoL] at h
    subst h
    rw [List.nil_append, strT_quote]; rfl
  | c :: l, q, h, r => by
    simp only [quoL] at h
    split at h
    · rename_i x hx
      cases hr : quoL l with
      | none => rw [hr] at h; cases h
      | some y =>
        rw [hr] at h
        cases h
        have ih := str_quo l y hr r
        unfold quo1 at hx
        split at hx
        · rename_i e he
          cases hx
          show strT (92 :: e :: (y ++ 34 :: r)) = _
          rw [strT_two, if_neg (by decide), if_pos rfl, qe_esc c e he, ih]
          rfl
        · rename_i he
          split at hx
          · rename_i hp
            cases hx
            show strT (c :: (y ++ 34 :: r)) = _
            have h1 : c ≠ 34 := fun e => by rw [e] at he; revert he; decide
            have h2 : c ≠ 92 := fun e => by rw [e] at he; revert he; decide
            rw [strT_prn h1 h2 hp, ih]
            rfl
          · cases hx
    · cases h
theorem cut_quoted {l q : List UInt8} (h : quoL l = some q) : cutR (34 :: (q ++ [34])) 0 = .ok [⟨3, l, 0, 0⟩, ⟨0, [], 0, q.length + 2⟩] := by
  have hs := str_quo l q h []
  have hf : firstT (34 :: (q ++ [34])) = some (⟨3, l, 0, 0⟩, q.length + 2) := by
    rw [first_quo rfl]
    unfold textT
    show (strT (q ++ [34])).map _ = _
    rw [hs]; rfl
  rw [cut_some (by decide) (by decide) hf, List.drop_of_length_le (by simp), cut_nil]
  show Except.ok _ = _
  rw [Nat.zero_add]

/-! ### numbers -/
theorem dec_first : ∀ c ∈ decL, blankL.contains c = false ∧ c ≠ 35 ∧ letL.contains c = false ∧ c ≠ 120 := by decide
theorem runOf_all {set : List UInt8} : ∀ {l : List UInt8}, (∀ c ∈ l, set.contains c = true) → runOf set l = l
  | [], _ => rfl
  | c :: r, h => by
    have ih := runOf_all (set := set) (l := r) fun x hx => h x (List.mem_cons_of_mem _ hx)
    unfold runOf at ih ⊢
    rw [List.takeWhile_cons_of_pos (by simpa using h c (List.mem_cons_self ..)), ih]
theorem isHex_dec {l : List UInt8} (h : ∀ c ∈ l, decL.contains c = true) : isHex l = false := by
  match l, h with
  | [], _ => rfl
  | [a], _ => simp [isHex, List.isPrefixOf]
  | a :: b :: r, h =>
    have hb := (dec_first b (List.contains_iff_mem.1 (h b (by simp)))).2.2.2
    have e : (120 == b) = false := by simpa using fun e => hb e.symm
    simp [isHex, List.isPrefixOf, e]
theorem num_dec {l : List UInt8} (h : ∀ c ∈ l, decL.contains c = true) : bodyN l = l ∧ sizeN l = l.length ∧ baseN l = 10 := by
  have hh := isHex_dec h
  have h1 : leadN l = 0 := by unfold leadN; rw [hh]; rfl
  have h2 : digN l = decL := by unfold digN; rw [hh]; rfl
  have h3 : bodyN l = l := by unfold bodyN; rw [h1, h2, List.drop_zero, runOf_all h]
  exact ⟨h3, by unfold sizeN; rw [h1, h3, Nat.zero_add], by unfold baseN; rw [hh]; rfl⟩
theorem let_end (l : List UInt8) : letAt l l.length = false := by unfold letAt; rw [List.getElem?_eq_none (Nat.le_refl _)]
theorem cut_dec {l : List UInt8} (hne : l ≠ []) (h : ∀ c ∈ l, decL.contains c = true) (ho : okN l = true) (hv : valB 10 l 0 < 4294967296) : cutR l 0 = .ok [⟨2, l, valB 10 l 0, 0⟩, ⟨0, [], 0, l.length⟩] := by
  obtain ⟨h1, h2, h3⟩ := num_dec h
  have hb : numBad l = false := by
    rw [numBad_is, h1, h2, h3, ho, decide_eq_false (by omega), let_end]; rfl
  have hn : numT l = some (⟨2, l, valB 10 l 0, 0⟩, l.length) := by rw [num_good hb, h1, h2, h3, List.take_length]
  cases l with
  | nil => exact absurd rfl hne
  | cons c r =>
    obtain ⟨k1, k2, k3, _⟩ := dec_first c (List.contains_iff_mem.1 (h c (by simp)))
    have hf : firstT (c :: r) = some (⟨2, c :: r, valB 10 (c :: r) 0, 0⟩, (c :: r).length) := by rw [first_dec k3 (h c (by simp)), hn]
    rw [cut_some k1 k2 hf, List.drop_length, cut_nil, Nat.zero_add]
theorem cut_dec_bad {l : List UInt8} (hne : l ≠ []) (h : ∀ c ∈ l, decL.contains c = true) (ho : okN l = false) : cutR l 0 = .error 0 := by
  obtain ⟨h1, h2, h3⟩ := num_dec h
  have hb : numBad l = true := by rw [numBad_is, h1, ho]; rfl
  cases l with
  | nil => exact absurd rfl hne
  | cons c r =>
    obtain ⟨k1, k2, k3, _⟩ := dec_first c (List.contains_iff_mem.1 (h c (by simp)))
    exact cut_none k1 k2 (by rw [first_dec k3 (h c (by simp)), num_bad hb])
theorem num_hex {d : List UInt8} (h : ∀ c ∈ d, hexL.contains c = true) : bodyN (48 :: 120 :: d) = d ∧ sizeN (48 :: 120 :: d) = d.length + 2 ∧ baseN (48 :: 120 :: d) = 16 := by
  have hh : isHex (48 :: 120 :: d) = true := by simp [isHex, List.isPrefixOf]
  have h1 : leadN (48 :: 120 :: d) = 2 := by unfold leadN; rw [hh]; rfl
  have h2 : digN (48 :: 120 :: d) = hexL := by unfold digN; rw [hh]; rfl
  have h3 : bodyN (48 :: 120 :: d) = d := by
    unfold bodyN
    rw [h1, h2]
    exact runOf_all h
  exact ⟨h3, by unfold sizeN; rw [h1, h3, Nat.add_comm], by unfold baseN; rw [hh]; rfl⟩
theorem cut_hex {d : List UInt8} (h : ∀ c ∈ d, hexL.contains c = true) (ho : okN d = true) (hv : valB 16 d 0 < 4294967296) : cutR (48 :: 120 :: d) 0 = .ok [⟨2, 48 :: 120 :: d, valB 16 d 0, 0⟩, ⟨0, [], 0, d.length + 2⟩] := by
  obtain ⟨h1, h2, h3⟩ := num_hex h
  have hb : numBad (48 :: 120 :: d) = false := by
    rw [numBad_is, h1, h2, h3, ho, decide_eq_false (by omega)]
    have := let_end (48 :: 120 :: d)
    rw [show (48 :: 120 :: d).length = d.length + 2 from rfl] at this
    rw [this]; rfl
  have hf : firstT (48 :: 120 :: d) = some (⟨2, 48 :: 120 :: d, valB 16 d 0, 0⟩, d.length + 2) := by
    rw [first_dec (by decide) (by decide), num_good hb, h1, h2, h3, List.take_of_length_le (by simp)]
  rw [cut_some (by decide) (by decide) hf, List.drop_of_length_le (by simp), cut_nil, Nat.zero_add]
theorem cut_hex_bad {d : List UInt8} (h : ∀ c ∈ d, hexL.contains c = true) (hv : 4294967296 ≤ valB 16 d 0) : cutR (48 :: 120 :: d) 0 = .error 0 := by
  obtain ⟨h1, h2, h3⟩ := num_hex h
  have hb : numBad (48 :: 120 :: d) = true := by rw [numBad_is, h1, h3, decide_eq_true hv]; simp
  exact cut_none (by decide) (by decide) (by rw [first_dec (by decide) (by decide), num_bad hb])
theorem set10 : setB 10 = decL := by decide
theorem set16 : setB 16 = hexL := by decide
theorem cut_n10 (n : Nat) (hn : n < 4294967296) : cutR (digL 10 n) 0 = .ok [⟨2, digL 10 n, n, 0⟩, ⟨0, [], 0, (digL 10 n).length⟩] := by
  have hb : Base 10 := .inl rfl
  have hv := val_dig hb n
  have := cut_dec (digL_ne 10 n) (by have := digL_all hb n; rw [set10] at this; exact this) (ok_dig hb n) (by rw [hv]; exact hn)
  rw [hv] at this
  exact this
theorem cut_n16 (n : Nat) (hn : n < 4294967296) : cutR (48 :: 120 :: digL 16 n) 0 = .ok [⟨2, 48 :: 120 :: digL 16 n, n, 0⟩, ⟨0, [], 0, (digL 16 n).length + 2⟩] := by
  have hb : Base 16 := .inr rfl
  have hv := val_dig hb n
  have := cut_hex (by have := digL_all hb n; rw [set16] at this; exact this) (ok_dig hb n) (by rw [hv]; exact hn)
  rw [hv] at this
  exact this
theorem cut_b16 (n : Nat) (hn : 4294967296 ≤ n) : cutR (48 :: 120 :: digL 16 n) 0 = .error 0 := by
  have hb : Base 16 := .inr rfl
  exact cut_hex_bad (by have := digL_all hb n; rw [set16] at this; exact this) (by rw [val_dig hb n]; exact hn)
theorem cut_b10 (n : Nat) : cutR (48 :: digL 10 n) 0 = .error 0 := by
  have hb : Base 10 := .inl rfl
  have ha := digL_all hb n
  rw [set10] at ha
  refine cut_dec_bad (by simp) (fun c hc => ?_) ?_
  · rcases List.mem_cons.1 hc with rfl | hc
    · decide
    · exact ha c hc
  · have hne := digL_ne 10 n
    cases hd : digL 10 n with
    | nil => exact absurd hd hne
    | cons a r => simp [okN]
theorem dig_len {b : Nat} (hb : Base b) {n : Nat} (hn : n < 4294967552) : (digL b n).length ≤ 34 := by
  have h2 := hb.two
  have hp : (2 : Nat) ^ (33 + 1) ≤ b ^ (33 + 1) := Nat.pow_le_pow_left h2.1 _
  have hq : (2 : Nat) ^ (33 + 1) = 17179869184 := by decide
  exact digL_len h2.1 n 33 (Nat.lt_of_lt_of_le (by omega) hp)
end Go.Proofs.YtgokejoieafgiaaDoor
