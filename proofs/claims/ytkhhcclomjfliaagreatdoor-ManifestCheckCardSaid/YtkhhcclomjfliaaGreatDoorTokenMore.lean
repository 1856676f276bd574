/-
  Tokens, plainly: where they stand; what a quoted text, a number, two texts with a line feed between are cut into.
-/
import Derived.Test.YtkhhcclomjfliaaGreatDoorTokenDig
namespace Go.Proofs.YtkhhcclomjfliaaGreatDoor
set_option linter.unusedVariables false

/-- What holds of all texts, by their cutting. -/
theorem cut_ind (P : List UInt8 → Nat → Except Nat (List Tk) → Prop) (h_nil : ∀ p, P [] p (.ok [⟨0, [], 0, p⟩]))
    (h_skip : ∀ l p k, 1 ≤ k → k ≤ l.length → P (l.drop k) (p + k) (cutR (l.drop k) (p + k)) → P l p (cutR (l.drop k) (p + k)))
    (h_none : ∀ c r p, P (c :: r) p (.error p))
    (h_err : ∀ l p t n q, firstT l = some (t, n) → P (l.drop n) (p + n) (.error q) → P l p (.error q))
    (h_tok : ∀ l p t n ts, firstT l = some (t, n) → P (l.drop n) (p + n) (.ok ts) → P l p (.ok ({ t with pos := p } :: ts))) : ∀ l p, P l p (cutR l p) := by
  intro l
  induction hn : l.length using Nat.strongRecOn generalizing l with
  | _ m ih =>
    intro p
    cases l with
    | nil => rw [cut_nil]; exact h_nil p
    | cons c r =>
      by_cases hb : blankL.contains c = true
      · rw [cut_blank hb]
        exact h_skip (c :: r) p 1 (Nat.le_refl _) (by simp) (ih r.length (by rw [← hn]; simp) r rfl (p + 1))
      · have hb' : blankL.contains c = false := by simpa using hb
        by_cases h35 : c = 35
        · subst h35
          rw [cut_com]
          have h1 := comN_pos r
          have h2 := comN_le (35 :: r)
          exact h_skip (35 :: r) p _ h1 h2 (ih _ (by rw [← hn, List.length_drop]; simp at *; omega) _ rfl _)
        · cases hf : firstT (c :: r) with
          | none => rw [cut_none hb' h35 hf]; exact h_none c r p
          | some x =>
            obtain ⟨t, n⟩ := x
            have hx := firstT_le hf
            have hrec := ih ((c :: r).drop n).length (by rw [← hn, List.length_drop]; simp at *; omega) ((c :: r).drop n) rfl (p + n)
            rw [cut_some hb' h35 hf]
            cases hc : cutR ((c :: r).drop n) (p + n) with
            | error q => rw [hc] at hrec; exact h_err _ _ t n q hf hrec
            | ok ts => rw [hc] at hrec; exact h_tok _ _ t n ts hf hrec

/-- An error stands within the text. -/
theorem cut_err (l : List UInt8) (p : Nat) : ∀ q, cutR l p = .error q → p ≤ q ∧ q ≤ p + l.length := by
  refine cut_ind (fun l p x => ∀ q, x = .error q → p ≤ q ∧ q ≤ p + l.length) ?_ ?_ ?_ ?_ ?_ l p
  · intro p q h; cases h
  · intro l p k h1 h2 h q hq
    have := h q hq
    rw [List.length_drop] at this
    omega
  · intro c r p q h; cases h; simp
  · intro l p t n q hf h q' hq
    cases hq
    have := h q rfl
    have hx := firstT_le hf
    rw [List.length_drop] at this
    simp at hx
    omega
  · intro l p t n ts hf h q hq; cases hq

/-- Where tokens stand. -/
structure Placed (l : List UInt8) (p : Nat) (ts : List Tk) : Prop where
  last : ∃ us, ts = us ++ [⟨0, [], 0, p + l.length⟩]
  first : ∀ t, ts[0]? = some t → p ≤ t.pos
  up : ∀ j s t, ts[j]? = some s → ts[j + 1]? = some t → s.pos < t.pos
  in_ : ∀ t ∈ ts, p ≤ t.pos ∧ t.pos ≤ p + l.length ∧ (t.kind ≠ 3 → t.pos - p + t.text.length ≤ l.length ∧ (l.drop (t.pos - p)).take t.text.length = t.text)
theorem placed_skip {l : List UInt8} {p k : Nat} {ts : List Tk} (hk : k ≤ l.length) (h : Placed (l.drop k) (p + k) ts) : Placed l p ts := by
  obtain ⟨us, hus⟩ := h.last
  rw [List.length_drop] at hus
  refine ⟨⟨us, by rw [hus, show p + k + (l.length - k) = p + l.length by omega]⟩, fun t ht => by have := h.first t ht; omega, h.up, fun t ht => ?_⟩
  obtain ⟨h1, h2, h3⟩ := h.in_ t ht
  rw [List.length_drop] at h2 h3
  refine ⟨by omega, by omega, fun hk3 => ?_⟩
  obtain ⟨h4, h5⟩ := h3 hk3
  rw [List.drop_drop, show k + (t.pos - (p + k)) = t.pos - p by omega] at h5
  exact ⟨by omega, h5⟩
theorem cut_placed (l : List UInt8) (p : Nat) : ∀ ts, cutR l p = .ok ts → Placed l p ts := by
  refine cut_ind (fun l p x => ∀ ts, x = .ok ts → Placed l p ts) ?_ ?_ ?_ ?_ ?_ l p
  · intro p ts h
    cases h
    refine ⟨⟨[], by simp⟩, fun t ht => by simp at ht; rw [← ht]; exact Nat.le_refl _, fun j s t hs ht => ?_, fun t ht => ?_⟩
    · cases j with
      | zero => simp at ht
      | succ j => simp at hs
    · simp at ht
      subst ht
      simp
  · intro l p k h1 h2 h ts hts
    exact placed_skip h2 (h ts hts)
  · intro c r p ts h; cases h
  · intro l p t n q hf h ts hts; cases hts
  · intro l p t n ts hf h us hus
    cases hus
    have hx := firstT_le hf
    have hp := h ts rfl
    have hq := placed_skip hx.2.1 hp
    obtain ⟨us, hus⟩ := hq.last
    refine ⟨⟨{ t with pos := p } :: us, by rw [hus]; rfl⟩, fun s hs => by simp at hs; rw [← hs]; exact Nat.le_refl _, fun j a b ha hb => ?_, fun s hs => ?_⟩
    · cases j with
      | zero =>
        simp at ha hb
        have := hp.first b (by simpa using hb)
        rw [← ha]
        show p < b.pos
        omega
      | succ j => exact hp.up j a b (by simpa using ha) (by simpa using hb)
    · rcases List.mem_cons.1 hs with rfl | hs
      · refine ⟨Nat.le_refl _, by simp, fun h3 => ?_⟩
        have h7 := hx.2.2.2.2.2.2 h3
        have h2 := hx.2.1
        simp only [Nat.sub_self, List.drop_zero, Nat.zero_add]
        have hl : t.text.length = n := by
          have := congrArg List.length h7
          simp at this h2
          omega
        exact ⟨by rw [hl]; exact h2, by rw [hl]; exact h7.symm⟩
      · exact hq.in_ s hs

/-- Further on in a greater text: the same, further on. -/
def shE (d : Nat) : Except Nat (List Tk) → Except Nat (List Tk)
  | .error q => .error (q + d)
  | .ok l => .ok (l.map fun t => { t with pos := t.pos + d })
theorem cut_shift (d : Nat) (l : List UInt8) : ∀ p, cutR l (p + d) = shE d (cutR l p) := by
  induction hn : l.length using Nat.strongRecOn generalizing l with
  | _ m ih =>
    intro p
    cases l with
    | nil => rw [cut_nil, cut_nil]; rfl
    | cons c r =>
      by_cases hb : blankL.contains c = true
      · rw [cut_blank hb, cut_blank hb, ← ih r.length (by rw [← hn]; simp) r rfl (p + 1)]
        congr 1; omega
      · have hb' : blankL.contains c = false := by simpa using hb
        by_cases h35 : c = 35
        · subst h35
          have h1 := comN_pos r
          have h2 := comN_le (35 :: r)
          rw [cut_com, cut_com, ← ih _ (by rw [← hn, List.length_drop]; simp at *; omega) _ rfl _]
          congr 1; omega
        · cases hf : firstT (c :: r) with
          | none => rw [cut_none hb' h35 hf, cut_none hb' h35 hf]; rfl
          | some x =>
            obtain ⟨t, n⟩ := x
            have hx := firstT_le hf
            rw [cut_some hb' h35 hf, cut_some hb' h35 hf, show p + d + n = p + n + d by omega, ih ((c :: r).drop n).length (by rw [← hn, List.length_drop]; simp at *; omega) ((c :: r).drop n) rfl (p + n)]
            cases cutR ((c :: r).drop n) (p + n) <;> rfl
/-! ### a line feed between -/
theorem run_app {set : List UInt8} (h : set.contains 10 = false) (b : List UInt8) : ∀ (a : List UInt8), runOf set (a ++ 10 :: b) = runOf set a
  | [] => by unfold runOf; rw [List.nil_append, List.takeWhile_cons_of_neg (by rw [h]; decide)]; rfl
  | c :: r => by
    have ih := run_app h b r
    unfold runOf at ih ⊢
    by_cases hc : set.contains c = true
    · rw [List.cons_append, List.takeWhile_cons_of_pos (by simpa using hc), List.takeWhile_cons_of_pos (by simpa using hc), ih]
    · rw [List.cons_append, List.takeWhile_cons_of_neg (by simpa using hc), List.takeWhile_cons_of_neg (by simpa using hc)]
theorem com_app (b : List UInt8) : ∀ (a : List UInt8), comN (a ++ 10 :: b) = comN a
  | [] => by unfold comN; rw [List.nil_append, List.takeWhile_cons_of_neg (by decide)]; rfl
  | c :: r => by
    have ih := com_app b r
    unfold comN at ih ⊢
    by_cases hc : (!(c == 10)) = true
    · rw [List.cons_append, List.takeWhile_cons_of_pos (p := fun c => !(c == 10)) hc, List.takeWhile_cons_of_pos (p := fun c => !(c == 10)) hc, List.length_cons, List.length_cons, ih]
    · rw [List.cons_append, List.takeWhile_cons_of_neg (p := fun c => !(c == 10)) hc, List.takeWhile_cons_of_neg (p := fun c => !(c == 10)) hc]
theorem strT_two (c e : UInt8) (r : List UInt8) : strT (c :: e :: r) = if c = 34 then some ([], 1) else if c = 92 then (match escD e with
      | some d => (strT r).map fun x => (d :: x.1, x.2 + 2)
      | none => none) else if prn c then (strT (e :: r)).map fun x => (c :: x.1, x.2 + 1) else none := by rw [strT]; rfl
theorem str_app (b : List UInt8) : ∀ (a : List UInt8), strT (a ++ 10 :: b) = strT a
  | [] => by
    cases b with
    | nil => simp [strT]
    | cons x y => rw [List.nil_append, strT_two, if_neg (by decide), if_neg (by decide), if_neg (by decide)]; rfl
  | [c] => by
    show strT (c :: 10 :: b) = strT [c]
    rw [strT_two]
    by_cases h1 : c = 34
    · subst h1; simp [strT]
    · by_cases h2 : c = 92
      · subst h2
        simp [strT, escD]
      · have ih := str_app b []
        rw [List.nil_append] at ih
        rw [if_neg h1, if_neg h2, ih]
        simp [strT, h1]
  | c :: e :: r => by
    show strT (c :: e :: (r ++ 10 :: b)) = strT (c :: e :: r)
    have ih1 := str_app b r
    have ih2 := str_app b (e :: r)
    rw [List.cons_append] at ih2
    rw [strT_two, strT_two, ih1, ih2]
theorem hex_app (b : List UInt8) : ∀ (a : List UInt8), isHex (a ++ 10 :: b) = isHex a
  | [] => by simp [isHex, List.isPrefixOf]
  | [c] => by simp [isHex, List.isPrefixOf]
  | c :: e :: r => by simp [isHex, List.isPrefixOf]
theorem num_app (a b : List UInt8) : numT (a ++ 10 :: b) = numT a := by
  have hh := hex_app b a
  have h1 : leadN (a ++ 10 :: b) = leadN a := by unfold leadN; rw [hh]
  have h2 : baseN (a ++ 10 :: b) = baseN a := by unfold baseN; rw [hh]
  have h3 : digN (a ++ 10 :: b) = digN a := by unfold digN; rw [hh]
  have hl := lead_le a
  have h4 : bodyN (a ++ 10 :: b) = bodyN a := by
    unfold bodyN
    rw [h1, h3, List.drop_append_of_le_length hl]
    exact run_app (by unfold digN; split <;> decide) b _
  have h5 : sizeN (a ++ 10 :: b) = sizeN a := by unfold sizeN; rw [h1, h4]
  have hs := size_le a
  have h6 : letAt (a ++ 10 :: b) (sizeN a) = letAt a (sizeN a) := by
    unfold letAt
    rcases Nat.lt_or_ge (sizeN a) a.length with h | h
    · rw [List.getElem?_append_left h]
    · rw [List.getElem?_append_right h, List.getElem?_eq_none h, show sizeN a - a.length = 0 by omega]
      rfl
  have h7 : numBad (a ++ 10 :: b) = numBad a := by unfold numBad; rw [h2, h4, h5, h6]
  unfold numT
  rw [h7, h5, h2, h4, List.take_append_of_le_length hs]
theorem first_app (c : UInt8) (r b : List UInt8) : firstT ((c :: r) ++ 10 :: b) = firstT (c :: r) := by
  have h1 := run_app (set := wordL) (by decide) b (c :: r)
  have h2 := num_app (c :: r) b
  have h3 := str_app b r
  rw [List.cons_append] at h1 h2 ⊢
  unfold firstT
  dsimp only
  rw [h1, h2, h3]
theorem cut_app (b a : List UInt8) : ∀ p, (∀ q, cutR a p = .error q → cutR (a ++ 10 :: b) p = .error q) ∧ (∀ ts, cutR a p = .ok ts → cutR (a ++ 10 :: b) p = preT ts.dropLast (cutR b (p + a.length + 1))) := by
  induction hn : a.length using Nat.strongRecOn generalizing a with
  | _ m ih =>
    intro p
    subst hn
    cases a with
    | nil =>
      rw [cut_nil]
      refine ⟨fun q h => (by cases h), fun ts h => ?_⟩
      cases h
      rw [List.nil_append, cut_blank (by decide)]
      show cutR b (p + 1) = preT [] _
      rw [preT_nil]; rfl
    | cons c r =>
      by_cases hb : blankL.contains c = true
      · have h := ih r.length (by simp) r rfl (p + 1)
        rw [List.cons_append, cut_blank hb, cut_blank hb]
        refine ⟨h.1, fun ts hts => ?_⟩
        rw [h.2 ts hts]
        congr 2; simp; omega
      · have hb' : blankL.contains c = false := by simpa using hb
        by_cases h35 : c = 35
        · subst h35
          have h1 := comN_pos r
          have h2 := comN_le (35 :: r)
          have hc := com_app b (35 :: r)
          have h := ih ((35 :: r).drop (comN (35 :: r))).length (by rw [List.length_drop]; simp at *; omega) _ rfl (p + comN (35 :: r))
          have hd : ((35 :: r) ++ 10 :: b).drop (comN (35 :: r)) = (35 :: r).drop (comN (35 :: r)) ++ 10 :: b := List.drop_append_of_le_length h2
          rw [List.cons_append] at hc hd ⊢
          rw [cut_com, cut_com, hc, hd]
          refine ⟨h.1, fun ts hts => ?_⟩
          rw [h.2 ts hts, List.length_drop]
          congr 2; omega
        · have hfa := first_app c r b
          cases hf : firstT (c :: r) with
          | none =>
            rw [hf, List.cons_append] at hfa
            rw [List.cons_append, cut_none hb' h35 hf, cut_none hb' h35 hfa]
            exact ⟨fun q h => h, fun ts h => (by cases h)⟩
          | some x =>
            obtain ⟨t, n⟩ := x
            have hx := firstT_le hf
            have hn1 : n ≤ (c :: r).length := hx.2.1
            have hn0 : 1 ≤ n := hx.1
            rw [hf, List.cons_append] at hfa
            have h := ih ((c :: r).drop n).length (by rw [List.length_drop]; simp at *; omega) _ rfl (p + n)
            have hd : ((c :: r) ++ 10 :: b).drop n = (c :: r).drop n ++ 10 :: b := List.drop_append_of_le_length hn1
            rw [List.cons_append] at hd
            rw [List.cons_append, cut_some hb' h35 hf, cut_some hb' h35 hfa, hd]
            cases hc : cutR ((c :: r).drop n) (p + n) with
            | error q =>
              rw [h.1 q hc]
              exact ⟨fun q' h' => h', fun ts h' => (by cases h')⟩
            | ok us =>
              rw [h.2 us hc, List.length_drop, show p + n + ((c :: r).length - n) + 1 = p + (c :: r).length + 1 by omega]
              refine ⟨fun q' h' => (by cases h'), fun ts h' => ?_⟩
              cases h'
              have hne : us ≠ [] := by
                obtain ⟨vs, hvs⟩ := (cut_placed _ _ us hc).last
                rw [hvs]; simp
              rw [List.dropLast_cons_of_ne_nil hne]
              cases cutR b (p + (c :: r).length + 1) <;> rfl
end Go.Proofs.YtkhhcclomjfliaaGreatDoor
