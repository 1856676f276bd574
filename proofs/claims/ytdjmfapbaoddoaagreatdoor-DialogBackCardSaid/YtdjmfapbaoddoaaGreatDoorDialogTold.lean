/-
  Dialogues, plainly: what is read can be told, and is not much.
-/
import Derived.Test.YtdjmfapbaoddoaaGreatDoorDialogPlain
namespace Go.Proofs.YtdjmfapbaoddoaaGreatDoor
set_option linter.unusedVariables false

/-- What tokens of a text of B bytes are. -/
structure Told (B : Nat) (t : Tk) : Prop where
  word : t.kind = 1 → IsW t.text
  str : t.kind = 3 → ∃ q, quoL t.text = some q
  val : t.val < 4294967296
  len : t.text.length ≤ B
theorem first_word {s : List UInt8} {x : Tk × Nat} (h : firstT s = some x) : x.1.kind = 1 → IsW x.1.text := by
  unfold firstT at h
  split at h
  · cases h
  · rename_i c r
    split at h
    · rename_i hc
      cases h
      intro _
      show IsW (runOf wordL (c :: r))
      have hw := let_word c (List.contains_iff_mem.1 hc)
      refine ⟨c, runOf wordL r, ?_, hc, fun b hb => runOf_mem hb⟩
      unfold runOf
      rw [List.takeWhile_cons_of_pos (by simpa using hw)]
    · split at h
      · unfold numT at h
        split at h
        · cases h
        · cases h; intro k; cases k
      · split at h
        · cases hr : strT r with
          | none => rw [hr] at h; cases h
          | some y => rw [hr] at h; cases h; intro k; cases k
        · split at h
          · cases h; intro k; cases k
          · cases h
theorem cut_words (l : List UInt8) (p : Nat) : ∀ ts, cutR l p = .ok ts → ∀ t ∈ ts, t.kind = 1 → IsW t.text := by
  refine cut_ind (fun l p x => ∀ ts, x = .ok ts → ∀ t ∈ ts, t.kind = 1 → IsW t.text) ?_ ?_ ?_ ?_ ?_ l p
  · intro p ts h t ht k
    cases h
    obtain rfl : t = ⟨0, [], 0, p⟩ := by simpa using ht
    cases k
  · intro l p k h1 h2 h ts hts; exact h ts hts
  · intro c r p ts h; cases h
  · intro l p t n q hf h ts hts; cases hts
  · intro l p t n ts hf h us hus u hu
    cases hus
    rcases List.mem_cons.1 hu with rfl | hu
    · exact fun k => first_word hf k
    · exact h ts rfl u hu
theorem dcut_short (l : List UInt8) (p : Nat) : ∀ ts, cutR l p = .ok ts → ∀ t ∈ ts, t.text.length ≤ l.length := by
  refine cut_ind (fun l p x => ∀ ts, x = .ok ts → ∀ t ∈ ts, t.text.length ≤ l.length) ?_ ?_ ?_ ?_ ?_ l p
  · intro p ts h t ht
    cases h
    obtain rfl : t = ⟨0, [], 0, p⟩ := by simpa using ht
    simp
  · intro l p k h1 h2 h ts hts t ht
    have := h ts hts t ht
    rw [List.length_drop] at this
    omega
  · intro c r p ts h; cases h
  · intro l p t n q hf h ts hts; cases hts
  · intro l p t n ts hf h us hus u hu
    cases hus
    have hx := firstT_le hf
    rcases List.mem_cons.1 hu with rfl | hu
    · show t.text.length ≤ _
      have h1 := hx.2.1
      have h2 := hx.2.2.1
      simp at h1 h2
      omega
    · have := h ts rfl u hu
      rw [List.length_drop] at this
      omega
theorem dcut_len (l : List UInt8) (p : Nat) : ∀ ts, cutR l p = .ok ts → ts.length ≤ l.length + 1 := by
  refine cut_ind (fun l p x => ∀ ts, x = .ok ts → ts.length ≤ l.length + 1) ?_ ?_ ?_ ?_ ?_ l p
  · intro p ts h; cases h; simp
  · intro l p k h1 h2 h ts hts
    have := h ts hts
    rw [List.length_drop] at this
    omega
  · intro c r p ts h; cases h
  · intro l p t n q hf h ts hts; cases hts
  · intro l p t n ts hf h us hus
    cases hus
    have hx := firstT_le hf
    have := h ts rfl
    rw [List.length_drop] at this
    simp at hx ⊢
    omega
/-! ### where all is well -/
structure Good (B : Nat) (s : PS) : Prop where
  ended : Ended s.ts
  told : ∀ t ∈ s.ts, Told B t
theorem Good.adv {B : Nat} {a b : PS} (h : Good B a) (k : Adv a b) : Good B b := ⟨k.ended h.ended, fun t ht => h.told t (k.mem ht)⟩
theorem Good.hd {B : Nat} {s : PS} (h : Good B s) : Told B (hdP s) := h.told _ (hd_mem h.ended.pos)
theorem tak_word {B : Nat} {s : PS} (h : Good B s) (he : (takP 1 s).2.err = none) : IsW (takP 1 s).1.text ∧ (takP 1 s).1.text.length ≤ B := by
  obtain ⟨_, hk, e⟩ := tak_inv he
  rw [e]
  exact ⟨h.hd.word hk, h.hd.len⟩
theorem tak_str {B : Nat} {s : PS} (h : Good B s) (he : (takP 3 s).2.err = none) : (∃ q, quoL (takP 3 s).1.text = some q) ∧ (takP 3 s).1.text.length ≤ B := by
  obtain ⟨_, hk, e⟩ := tak_inv he
  rw [e]
  exact ⟨h.hd.str hk, h.hd.len⟩
theorem tgt_told {B : Nat} {s : PS} (h : Good B s) (he : (tgtP s).2.err = none) : IsW (tgtP s).1 ∧ (tgtP s).1.length ≤ B ∧ s.err = none := by
  have ha := adv_must (k := 1) (by decide) dGo h.ended
  have h1 := tak_word (h.adv ha) he
  have h2 := (tak_inv (s := mustP 1 dGo s) he).1
  exact ⟨h1.1, h1.2, ha.good h2⟩
theorem num_told {m : Nat} {s : PS} (he : (numP m s).2.err = none) : 1 ≤ (numP m s).1 ∧ (numP m s).1 ≤ m ∧ s.err = none := by
  rw [show numP m s = ((takP 2 s).1.val, if (takP 2 s).1.val < 1 ∨ m < (takP 2 s).1.val then failP 5 (takP 2 s).1 (takP 2 s).2 else (takP 2 s).2) from rfl] at he ⊢
  dsimp only at he ⊢
  split at he
  · exfalso
    unfold failP at he
    split at he
    · cases he
    · rename_i h1; exact h1 he
  · rename_i h1
    exact ⟨by omega, by omega, (tak_inv he).1⟩
theorem arm_told {B : Nat} {s : PS} (h : Good B s) (he : (armP s).2.err = none) : TellA (armP s).1 ∧ (armP s).1.pat.length ≤ B ∧ (armP s).1.dst.length ≤ B ∧ s.err = none := by
  have ha := adv_take (k := 3) (by decide) h.ended
  have h1 := tgt_told (h.adv ha) he
  have h2 := tak_str h h1.2.2
  exact ⟨⟨h2.1, h1.1⟩, h2.2, h1.2.1, (tak_inv h1.2.2).1⟩
def ArB (B : Nat) (a : Ar) : Prop := TellA a ∧ a.pat.length ≤ B ∧ a.dst.length ≤ B
theorem lop_told {B : Nat} : ∀ (f : Nat) (rs : List Ar) (s : PS), Good B s → (∀ a ∈ rs, ArB B a) → (lopP f rs s).2.err = none → (∀ a ∈ (lopP f rs s).1, ArB B a) ∧ (lopP f rs s).1.length ≤ rs.length + f ∧ rs.length ≤ (lopP f rs s).1.length
  | 0, rs, s, _, h, _ => ⟨h, Nat.le_refl _, Nat.le_refl _⟩
  | f + 1, rs, s, hg, h, he => by
    by_cases hc : s.err = none ∧ isT (hdP s) 4 [44] = true
    · have e : lopP (f + 1) rs s = lopP f (rs ++ [(armP (mustP 4 [44] s)).1]) (armP (mustP 4 [44] s)).2 := by rw [lopP, if_pos hc]
      rw [e] at he ⊢
      have ha := adv_must (k := 4) (by decide) [44] hg.ended
      have hb := ha.trans (adv_arm (ha.ended hg.ended))
      have hc := adv_lop f (rs ++ [(armP (mustP 4 [44] s)).1]) _ (hb.ended hg.ended)
      have h1 := arm_told (hg.adv ha) (hc.good he)
      obtain ⟨h2, h3, h4⟩ := lop_told f (rs ++ [(armP (mustP 4 [44] s)).1]) _ (hg.adv hb) (fun a ha => by
        rcases List.mem_append.1 ha with ha | ha
        · exact h a ha
        · obtain rfl : a = _ := by simpa using ha
          exact ⟨h1.1, h1.2.1, h1.2.2.1⟩) he
      rw [List.length_append, List.length_singleton] at h3 h4
      exact ⟨h2, by omega, by omega⟩
    · have e : lopP (f + 1) rs s = (rs, s) := by rw [lopP, if_neg hc]
      rw [e]
      exact ⟨h, Nat.le_add_right _ _, Nat.le_refl _⟩
theorem arms_told {B : Nat} {s : PS} (h : Good B s) (he : (armsP s).2.err = none) : (∀ a ∈ (armsP s).1, ArB B a) ∧ (armsP s).1 ≠ [] ∧ (armsP s).1.length ≤ s.ts.length + 1 := by
  have e : armsP s = lopP (armP s).2.ts.length [(armP s).1] (armP s).2 := rfl
  rw [e] at he ⊢
  have ha := adv_arm h.ended
  have hb := adv_lop (armP s).2.ts.length [(armP s).1] _ (ha.ended h.ended)
  have h1 := arm_told h (hb.good he)
  have hl := ha.len
  have hg := h.adv ha
  generalize armP s = A at *
  obtain ⟨h2, h3, h4⟩ := lop_told A.2.ts.length [A.1] A.2 hg (fun a ha => by
    obtain rfl : a = _ := by simpa using ha
    exact ⟨h1.1, h1.2.1, h1.2.2.1⟩) he
  rw [List.length_singleton] at h3 h4
  refine ⟨h2, fun e' => ?_, by omega⟩
  rw [e'] at h4
  simp at h4
/-- A step that can be told, and is not much. -/
structure SpB (B : Nat) (x : Sp) : Prop where
  tell : TellS x
  label : x.label.length ≤ B
  text : x.text.length ≤ B
  arms : ∀ a ∈ x.arms, ArB B a
  many : x.arms.length ≤ B + 2
  dst : x.dst.length ≤ B
theorem isw_ne {x : List UInt8} (h : IsW x) : x ≠ [] := by obtain ⟨a, r, rfl, _⟩ := h; simp
theorem lab_told {B : Nat} {s : PS} (h : Good B s) (he : (labP s).2.err = none) : ((labP s).1 = [] ∨ IsW (labP s).1) ∧ (labP s).1.length ≤ B := by
  unfold labP at he ⊢
  split at he
  · rename_i hc
    rw [if_pos hc]
    have ha := adv_take (k := 1) (by decide) h.ended
    have h1 := tak_word h ((must_inv he).1)
    exact ⟨.inr h1.1, h1.2⟩
  · rename_i hc
    rw [if_neg hc]
    exact ⟨.inl rfl, Nat.zero_le _⟩
theorem kin_told {s : PS} (he : (kinP s).2.err = none) : (kinP s).1 < 6 ∧ s.err = none := by
  unfold kinP at he ⊢
  split at he
  · rename_i k hk
    dsimp only at he ⊢
    refine ⟨?_, (tak_inv he).1⟩
    unfold kindOf at hk
    split at hk
    · cases hk; decide
    · split at hk
      · cases hk; decide
      · split at hk
        · cases hk; decide
        · split at hk
          · cases hk; decide
          · split at hk
            · cases hk; decide
            · split at hk
              · cases hk; decide
              · cases hk
  · exfalso
    dsimp only at he
    unfold failP at he
    split at he
    · cases he
    · rename_i h1; exact h1 he
theorem tell0 {l x : List UInt8} {p : Int} (hl : l = [] ∨ IsW l) (h : ∃ q, quoL x = some q) : TellS ⟨l, 0, x, [], 0, [], p⟩ :=
  ⟨hl, (show (0 : Int) ≤ 0 ∧ (0 : Int) ≤ 5 by decide), (by rw [if_pos rfl]; exact h), (by rw [if_neg (show ¬ (0 : Int) = 1 by decide)]), (by rw [if_neg (show ¬ (0 : Int) = 1 by decide), if_neg (show ¬ (0 : Int) = 3 by decide)]), (by rw [if_neg (show ¬ ((0 : Int) = 1 ∨ (0 : Int) = 2 ∨ (0 : Int) = 3) by decide)])⟩
theorem tell1 {l d : List UInt8} {rs : List Ar} {n p : Int} (hl : l = [] ∨ IsW l) (h0 : rs ≠ []) (h1 : ∀ a ∈ rs, TellA a) (hn : 1 ≤ n ∧ n ≤ 99) (hd : IsW d) : TellS ⟨l, 1, [], rs, n, d, p⟩ :=
  ⟨hl, (show (0 : Int) ≤ 1 ∧ (1 : Int) ≤ 5 by decide), (by rw [if_neg (show ¬ (1 : Int) = 0 by decide)]), (by rw [if_pos rfl]; exact ⟨h0, h1⟩), (by rw [if_pos rfl]; exact hn), (by rw [if_pos (.inl rfl)]; exact hd)⟩
theorem tell2 {l d : List UInt8} {p : Int} (hl : l = [] ∨ IsW l) (hd : IsW d) : TellS ⟨l, 2, [], [], 0, d, p⟩ :=
  ⟨hl, (show (0 : Int) ≤ 2 ∧ (2 : Int) ≤ 5 by decide), (by rw [if_neg (show ¬ (2 : Int) = 0 by decide)]), (by rw [if_neg (show ¬ (2 : Int) = 1 by decide)]), (by rw [if_neg (show ¬ (2 : Int) = 1 by decide), if_neg (show ¬ (2 : Int) = 3 by decide)]), (by rw [if_pos (.inr (.inl rfl))]; exact hd)⟩
theorem tell3 {l d : List UInt8} {n p : Int} (hl : l = [] ∨ IsW l) (hn : 1 ≤ n ∧ n ≤ 9) (hd : IsW d) : TellS ⟨l, 3, [], [], n, d, p⟩ :=
  ⟨hl, (show (0 : Int) ≤ 3 ∧ (3 : Int) ≤ 5 by decide), (by rw [if_neg (show ¬ (3 : Int) = 0 by decide)]), (by rw [if_neg (show ¬ (3 : Int) = 1 by decide)]), (by rw [if_neg (show ¬ (3 : Int) = 1 by decide), if_pos rfl]; exact hn), (by rw [if_pos (.inr (.inr rfl))]; exact hd)⟩
theorem tell4 {l : List UInt8} {k p : Int} (hl : l = [] ∨ IsW l) (hk : k = 4 ∨ k = 5) : TellS ⟨l, k, [], [], 0, [], p⟩ :=
  ⟨hl, (show (0 : Int) ≤ k ∧ k ≤ 5 by omega), (by rw [if_neg (show ¬ k = 0 by omega)]), (by rw [if_neg (show ¬ k = 1 by omega)]), (by rw [if_neg (show ¬ k = 1 by omega), if_neg (show ¬ k = 3 by omega)]), (by rw [if_neg (show ¬ (k = 1 ∨ k = 2 ∨ k = 3) by omega)])⟩
theorem bod_told {B : Nat} {s : PS} (h : Good B s) (hm : s.ts.length ≤ B + 1) (l : List UInt8) (hl : (l = [] ∨ IsW l) ∧ l.length ≤ B) (p k : Nat) (hk : k < 6) (he : (bodP l p k s).2.err = none) : SpB B (bodP l p k s).1 := by
  rcases (by omega : k = 0 ∨ k = 1 ∨ k = 2 ∨ k = 3 ∨ k = 4 ∨ k = 5) with rfl | rfl | rfl | rfl | rfl | rfl
  · have e : bodP l p 0 s = (⟨l, 0, (takP 3 s).1.text, [], 0, [], (p : Int)⟩, (takP 3 s).2) := rfl
    rw [e] at he ⊢
    have h1 := tak_str h he
    generalize takP 3 s = T at *
    exact ⟨tell0 hl.1 h1.1, hl.2, h1.2, (fun a ha => by cases ha), Nat.zero_le _, Nat.zero_le _⟩
  · have e1 : (bodP l p 1 s).1 = ⟨l, 1, [], (armsP s).1, ((numP 99 (mustP 1 dAfter (armsP s).2)).1 : Int), (tgtP (numP 99 (mustP 1 dAfter (armsP s).2)).2).1, (p : Int)⟩ := by
      show (expP l p s).1 = _
      dsimp only [expP]
    have e2 : (bodP l p 1 s).2 = (tgtP (numP 99 (mustP 1 dAfter (armsP s).2)).2).2 := by
      show (expP l p s).2 = _
      dsimp only [expP]
    rw [e2] at he
    rw [e1]
    have a1 := adv_arms h.ended
    have a2 := a1.trans (adv_must (k := 1) (by decide) dAfter (a1.ended h.ended))
    have a3 := a2.trans (adv_num 99 (a2.ended h.ended))
    have h1 := tgt_told (h.adv a3) he
    have h2 := num_told h1.2.2
    have h3 := arms_told h (must_inv h2.2.2).1
    clear a1 a2 a3 he e1 e2
    generalize tgtP (numP 99 (mustP 1 dAfter (armsP s).2)).2 = T3 at *
    generalize numP 99 (mustP 1 dAfter (armsP s).2) = T2 at *
    generalize armsP s = T1 at *
    exact ⟨tell1 hl.1 h3.2.1 (fun a ha => (h3.1 a ha).1) ⟨by omega, by omega⟩ h1.1, hl.2, Nat.zero_le _, h3.1, by show T1.1.length ≤ B + 2; omega, h1.2.1⟩
  · have e : bodP l p 2 s = (⟨l, 2, [], [], 0, (takP 1 s).1.text, (p : Int)⟩, (takP 1 s).2) := rfl
    rw [e] at he ⊢
    have h1 := tak_word h he
    generalize takP 1 s = T at *
    exact ⟨tell2 hl.1 h1.1, hl.2, Nat.zero_le _, (fun a ha => by cases ha), Nat.zero_le _, h1.2⟩
  · have e : bodP l p 3 s = (⟨l, 3, [], [], ((numP 9 s).1 : Int), (tgtP (numP 9 s).2).1, (p : Int)⟩, (tgtP (numP 9 s).2).2) := rfl
    rw [e] at he ⊢
    have a3 := adv_num 9 h.ended
    have h1 := tgt_told (h.adv a3) he
    have h2 := num_told h1.2.2
    clear a3 he e
    generalize tgtP (numP 9 s).2 = T3 at *
    generalize numP 9 s = T2 at *
    exact ⟨tell3 hl.1 ⟨by omega, by omega⟩ h1.1, hl.2, Nat.zero_le _, (fun a ha => by cases ha), Nat.zero_le _, h1.2.1⟩
  · exact ⟨tell4 hl.1 (.inl rfl), hl.2, Nat.zero_le _, (fun a ha => by cases ha), Nat.zero_le _, Nat.zero_le _⟩
  · exact ⟨tell4 hl.1 (.inr rfl), hl.2, Nat.zero_le _, (fun a ha => by cases ha), Nat.zero_le _, Nat.zero_le _⟩
theorem stp_told {B : Nat} {s : PS} (h : Good B s) (hm : s.ts.length ≤ B + 1) (he : (stpP s).2.err = none) : SpB B (stpP s).1 := by
  have h1 := adv_lab h.ended
  have h2 := h1.trans (adv_kin (h1.ended h.ended))
  rw [stp_2] at he
  rw [stp_1]
  have he3 := (must_inv he).1
  have h3 := adv_bod (labP s).1 (hdP s).pos (kinP (labP s).2).1 (h2.ended h.ended)
  have he2 := h3.good he3
  have hk := kin_told he2
  have hl := lab_told h hk.2
  have h2l := h2.len
  exact bod_told (h.adv h2) (by omega) _ hl _ _ hk.1 he3
theorem par_told {B : Nat} (f : Nat) : ∀ (ss : List Sp) (s : PS) (xs : List Sp), Good B s → s.ts.length ≤ B + 1 → (∀ x ∈ ss, SpB B x) → parP f ss s = .ok xs → (∀ x ∈ xs, SpB B x) ∧ xs.length ≤ ss.length + f := by
  induction f with
  | zero => intro ss s xs _ _ h hp; injection hp with hp; subst hp; exact ⟨h, by omega⟩
  | succ f ih =>
    intro ss s xs hg hm h hp
    by_cases hk : (hdP s).kind = 0
    · rw [par_end hk] at hp; injection hp with hp; subst hp; exact ⟨h, by omega⟩
    · cases hx : (stpP s).2.err with
      | some y => rw [par_bad hk hx] at hp; cases hp
      | none =>
        rw [par_go hk hx] at hp
        have ha := adv_stp hg.ended
        have hal := ha.len
        obtain ⟨h1, h2⟩ := ih _ _ xs (hg.adv ha) (by omega) (fun x hx' => by
          rcases List.mem_append.1 hx' with hx' | hx'
          · exact h x hx'
          · obtain rfl : x = _ := by simpa using hx'
            exact stp_told hg hm hx) hp
        rw [List.length_append, List.length_singleton] at h2
        exact ⟨h1, by omega⟩
/-- What is read of a text. -/
theorem parseD_told {l : List UInt8} {ss : List Sp} (h : parseD l = .ok ss) : (∀ x ∈ ss, SpB l.length x) ∧ ss.length ≤ l.length + 1 := by
  unfold parseD at h
  cases hc : cutR l 0 with
  | error p => rw [hc] at h; cases h
  | ok ts =>
    rw [hc] at h
    obtain ⟨hE, hv⟩ := cut_told l 0 ts hc
    have hw := cut_words l 0 ts hc
    have hs := dcut_short l 0 ts hc
    have hn := dcut_len l 0 ts hc
    obtain ⟨h1, h2⟩ := par_told (B := l.length) _ [] _ ss ⟨hE, fun t ht => ⟨hw t ht, (hv t ht).2, (hv t ht).1, hs t ht⟩⟩ hn (fun x hx => by cases hx) h
    rw [List.length_nil] at h2
    exact ⟨h1, by omega⟩
/-- What is read of a text is read again of its own. -/
theorem parse_dagain {l : List UInt8} {ss : List Sp} (h : parseD l = .ok ss) : ∃ xs, parseD (textS ss) = .ok xs ∧ xs.map noPos = ss.map noPos := text_read fun x hx => ((parseD_told h).1 x hx).tell
end Go.Proofs.YtdjmfapbaoddoaaGreatDoor
