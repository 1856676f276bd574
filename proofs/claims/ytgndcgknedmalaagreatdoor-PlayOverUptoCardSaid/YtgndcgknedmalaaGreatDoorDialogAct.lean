/-
  Dialogues, plainly: what is read can be told, and is not much.
-/
import Derived.Test.YtgndcgknedmalaaGreatDoorDialogPlain
import Derived.Test.YtgndcgknedmalaaGreatDoorDialogRows
import Derived.Test.YtgndcgknedmalaaGreatDoorFrameRows
import Derived.Test.YtgndcgknedmalaaGreatDoorRegexMakes
import Derived.Test.YtgndcgknedmalaaGreatDoorMinMax
import Derived.Deep.AppendLies
import Derived.Deep.RegionLaw
import Derived.Deep.RegionHeld3
import Derived.Deep.DeepCutAuto
import Derived.Test.YtgndcgknedmalaaGreatDoorFrame
import Derived.Deep.Slices
import Derived.OpenShut
import Derived.Test.YtgndcgknedmalaaGreatDoorDialogFind
namespace Go.Proofs.YtgndcgknedmalaaGreatDoor
open Go.RowKit
set_option linter.unusedVariables false

/-- What tokens of a text of B bytes are. -/
structure Told (B : Nat) (t : Tk) : Prop where
  word : t.kind = 1 → IsW t.text
  str : t.kind = 3 → ∃ q, quoL t.text = some q
  val : t.val < 4294967296
  len : t.text.length ≤ B
theorem first_word {s : List UInt8} {x : Tk × Nat} (h : firstT s = some x) : x.1.kind = 1 → IsW x.1.text := by
  unfold firstT at h
  split at h
  · cases h
  · rename_i c r
    split at h
    · rename_i hc
      cases h
      intro _
      show IsW (runOf wordL (c :: r))
      have hw := let_word c (List.contains_iff_mem.1 hc)
      refine ⟨c, runOf wordL r, ?_, hc, fun b hb => runOf_mem hb⟩
      unfold runOf
      rw [List.takeWhile_cons_of_pos (by simpa using hw)]
    · split at h
      · unfold numT at h
        split at h
        · cases h
        · cases h; intro k; cases k
      · split at h
        · cases hr : strT r with
          | none => rw [hr] at h; cases h
          | some y => rw [hr] at h; cases h; intro k; cases k
        · split at h
          · cases h; intro k; cases k
          · cases h
theorem cut_words (l : List UInt8) (p : Nat) : ∀ ts, cutR l p = .ok ts → ∀ t ∈ ts, t.kind = 1 → IsW t.text := by
  refine cut_ind (fun l p x => ∀ ts, x = .ok ts → ∀ t ∈ ts, t.kind = 1 → IsW t.text) ?_ ?_ ?_ ?_ ?_ l p
  · intro p ts h t ht k
    cases h
    obtain rfl : t = ⟨0, [], 0, p⟩ := by simpa using ht
    cases k
  · intro l p k h1 h2 h ts hts; exact h ts hts
  · intro c r p ts h; cases h
  · intro l p t n q hf h ts hts; cases hts
  · intro l p t n ts hf h us hus u hu
    cases hus
    rcases List.mem_cons.1 hu with rfl | hu
    · exact fun k => first_word hf k
    · exact h ts rfl u hu
theorem dcut_short (l : List UInt8) (p : Nat) : ∀ ts, cutR l p = .ok ts → ∀ t ∈ ts, t.text.length ≤ l.length := by
  refine cut_ind (fun l p x => ∀ ts, x = .ok ts → ∀ t ∈ ts, t.text.length ≤ l.length) ?_ ?_ ?_ ?_ ?_ l p
  · intro p ts h t ht
    cases h
    obtain rfl : t = ⟨0, [], 0, p⟩ := by simpa using ht
    simp
  · intro l p k h1 h2 h ts hts t ht
    have := h ts hts t ht
    rw [List.length_drop] at this
    omega
  · intro c r p ts h; cases h
  · intro l p t n q hf h ts hts; cases hts
  · intro l p t n ts hf h us hus u hu
    cases hus
    have hx := firstT_le hf
    rcases List.mem_cons.1 hu with rfl | hu
    · show t.text.length ≤ _
      have h1 := hx.2.1
      have h2 := hx.2.2.1
      simp at h1 h2
      omega
    · have := h ts rfl u hu
      rw [List.length_drop] at this
      omega
theorem dcut_len (l : List UInt8) (p : Nat) : ∀ ts, cutR l p = .ok ts → ts.length ≤ l.length + 1 := by
  refine cut_ind (fun l p x => ∀ ts, x = .ok ts → ts.length ≤ l.length + 1) ?_ ?_ ?_ ?_ ?_ l p
  · intro p ts h; cases h; simp
  · intro l p k h1 h2 h ts hts
    have := h ts hts
    rw [List.length_drop] at this
    omega
  · intro c r p ts h; cases h
  · intro l p t n q hf h ts hts; cases hts
  · intro l p t n ts hf h us hus
    cases hus
    have hx := firstT_le hf
    have := h ts rfl
    rw [List.length_drop] at this
    simp at hx ⊢
    omega
/-! ### where all is well -/
structure Good (B : Nat) (s : PS) : Prop where
  ended : Ended s.ts
  told : ∀ t ∈ s.ts, Told B t
theorem Good.adv {B : Nat} {a b : PS} (h : Good B a) (k : Adv a b) : Good B b := ⟨k.ended h.ended, fun t ht => h.told t (k.mem ht)⟩
theorem Good.hd {B : Nat} {s : PS} (h : Good B s) : Told B (hdP s) := h.told _ (hd_mem h.ended.pos)
theorem tak_word {B : Nat} {s : PS} (h : Good B s) (he : (takP 1 s).2.err = none) : IsW (takP 1 s).1.text ∧ (takP 1 s).1.text.length ≤ B := by
  obtain ⟨_, hk, e⟩ := tak_inv he
  rw [e]
  exact ⟨h.hd.word hk, h.hd.len⟩
theorem tak_str {B : Nat} {s : PS} (h : Good B s) (he : (takP 3 s).2.err = none) : (∃ q, quoL (takP 3 s).1.text = some q) ∧ (takP 3 s).1.text.length ≤ B := by
  obtain ⟨_, hk, e⟩ := tak_inv he
  rw [e]
  exact ⟨h.hd.str hk, h.hd.len⟩
theorem tgt_told {B : Nat} {s : PS} (h : Good B s) (he : (tgtP s).2.err = none) : IsW (tgtP s).1 ∧ (tgtP s).1.length ≤ B ∧ s.err = none := by
  have ha := adv_must (k := 1) (by decide) dGo h.ended
  have h1 := tak_word (h.adv ha) he
  have h2 := (tak_inv (s := mustP 1 dGo s) he).1
  exact ⟨h1.1, h1.2, ha.good h2⟩
theorem num_told {m : Nat} {s : PS} (he : (numP m s).2.err = none) : 1 ≤ (numP m s).1 ∧ (numP m s).1 ≤ m ∧ s.err = none := by
  rw [show numP m s = ((takP 2 s).1.val, if (takP 2 s).1.val < 1 ∨ m < (takP 2 s).1.val then failP 5 (takP 2 s).1 (takP 2 s).2 else (takP 2 s).2) from rfl] at he ⊢
  dsimp only at he ⊢
  split at he
  · exfalso
    unfold failP at he
    split at he
    · cases he
    · rename_i h1; exact h1 he
  · rename_i h1
    exact ⟨by omega, by omega, (tak_inv he).1⟩
theorem arm_told {B : Nat} {s : PS} (h : Good B s) (he : (armP s).2.err = none) : TellA (armP s).1 ∧ (armP s).1.pat.length ≤ B ∧ (armP s).1.dst.length ≤ B ∧ s.err = none := by
  have ha := adv_take (k := 3) (by decide) h.ended
  have h1 := tgt_told (h.adv ha) he
  have h2 := tak_str h h1.2.2
  exact ⟨⟨h2.1, h1.1⟩, h2.2, h1.2.1, (tak_inv h1.2.2).1⟩
def ArB (B : Nat) (a : Ar) : Prop := TellA a ∧ a.pat.length ≤ B ∧ a.dst.length ≤ B
theorem lop_told {B : Nat} : ∀ (f : Nat) (rs : List Ar) (s : PS), Good B s → (∀ a ∈ rs, ArB B a) → (lopP f rs s).2.err = none → (∀ a ∈ (lopP f rs s).1, ArB B a) ∧ (lopP f rs s).1.length ≤ rs.length + f ∧ rs.length ≤ (lopP f rs s).1.length
  | 0, rs, s, _, h, _ => ⟨h, Nat.le_refl _, Nat.le_refl _⟩
  | f + 1, rs, s, hg, h, he => by
    by_cases hc : s.err = none ∧ isT (hdP s) 4 [44] = true
    · have e : lopP (f + 1) rs s = lopP f (rs ++ [(armP (mustP 4 [44] s)).1]) (armP (mustP 4 [44] s)).2 := by rw [lopP, if_pos hc]
      rw [e] at he ⊢
      have ha := adv_must (k := 4) (by decide) [44] hg.ended
      have hb := ha.trans (adv_arm (ha.ended hg.ended))
      have hc := adv_lop f (rs ++ [(armP (mustP 4 [44] s)).1]) _ (hb.ended hg.ended)
      have h1 := arm_told (hg.adv ha) (hc.good he)
      obtain ⟨h2, h3, h4⟩ := lop_told f (rs ++ [(armP (mustP 4 [44] s)).1]) _ (hg.adv hb) (fun a ha => by
        rcases List.mem_append.1 ha with ha | ha
        · exact h a ha
        · obtain rfl : a = _ := by simpa using ha
          exact ⟨h1.1, h1.2.1, h1.2.2.1⟩) he
      rw [List.length_append, List.length_singleton] at h3 h4
      exact ⟨h2, by omega, by omega⟩
    · have e : lopP (f + 1) rs s = (rs, s) := by rw [lopP, if_neg hc]
      rw [e]
      exact ⟨h, Nat.le_add_right _ _, Nat.le_refl _⟩
theorem arms_told {B : Nat} {s : PS} (h : Good B s) (he : (armsP s).2.err = none) : (∀ a ∈ (armsP s).1, ArB B a) ∧ (armsP s).1 ≠ [] ∧ (armsP s).1.length ≤ s.ts.length + 1 := by
  have e : armsP s = lopP (armP s).2.ts.length [(armP s).1] (armP s).2 := rfl
  rw [e] at he ⊢
  have ha := adv_arm h.ended
  have hb := adv_lop (armP s).2.ts.length [(armP s).1] _ (ha.ended h.ended)
  have h1 := arm_told h (hb.good he)
  have hl := ha.len
  have hg := h.adv ha
  generalize armP s = A at *
  obtain ⟨h2, h3, h4⟩ := lop_told A.2.ts.length [A.1] A.2 hg (fun a ha => by
    obtain rfl : a = _ := by simpa using ha
    exact ⟨h1.1, h1.2.1, h1.2.2.1⟩) he
  rw [List.length_singleton] at h3 h4
  refine ⟨h2, fun e' => ?_, by omega⟩
  rw [e'] at h4
  simp at h4
/-- A step that can be told, and is not much. -/
structure SpB (B : Nat) (x : Sp) : Prop where
  tell : TellS x
  label : x.label.length ≤ B
  text : x.text.length ≤ B
  arms : ∀ a ∈ x.arms, ArB B a
  many : x.arms.length ≤ B + 2
  dst : x.dst.length ≤ B
theorem isw_ne {x : List UInt8} (h : IsW x) : x ≠ [] := by obtain ⟨a, r, rfl, _⟩ := h; simp
theorem lab_told {B : Nat} {s : PS} (h : Good B s) (he : (labP s).2.err = none) : ((labP s).1 = [] ∨ IsW (labP s).1) ∧ (labP s).1.length ≤ B := by
  unfold labP at he ⊢
  split at he
  · rename_i hc
    rw [if_pos hc]
    have ha := adv_take (k := 1) (by decide) h.ended
    have h1 := tak_word h ((must_inv he).1)
    exact ⟨.inr h1.1, h1.2⟩
  · rename_i hc
    rw [if_neg hc]
    exact ⟨.inl rfl, Nat.zero_le _⟩
theorem kin_told {s : PS} (he : (kinP s).2.err = none) : (kinP s).1 < 6 ∧ s.err = none := by
  unfold kinP at he ⊢
  split at he
  · rename_i k hk
    dsimp only at he ⊢
    refine ⟨?_, (tak_inv he).1⟩
    unfold kindOf at hk
    split at hk
    · cases hk; decide
    · split at hk
      · cases hk; decide
      · split at hk
        · cases hk; decide
        · split at hk
          · cases hk; decide
          · split at hk
            · cases hk; decide
            · split at hk
              · cases hk; decide
              · cases hk
  · exfalso
    dsimp only at he
    unfold failP at he
    split at he
    · cases he
    · rename_i h1; exact h1 he
theorem tell0 {l x : List UInt8} {p : Int} (hl : l = [] ∨ IsW l) (h : ∃ q, quoL x = some q) : TellS ⟨l, 0, x, [], 0, [], p⟩ :=
  ⟨hl, (show (0 : Int) ≤ 0 ∧ (0 : Int) ≤ 5 by decide), (by rw [if_pos rfl]; exact h), (by rw [if_neg (show ¬ (0 : Int) = 1 by decide)]), (by rw [if_neg (show ¬ (0 : Int) = 1 by decide), if_neg (show ¬ (0 : Int) = 3 by decide)]), (by rw [if_neg (show ¬ ((0 : Int) = 1 ∨ (0 : Int) = 2 ∨ (0 : Int) = 3) by decide)])⟩
theorem tell1 {l d : List UInt8} {rs : List Ar} {n p : Int} (hl : l = [] ∨ IsW l) (h0 : rs ≠ []) (h1 : ∀ a ∈ rs, TellA a) (hn : 1 ≤ n ∧ n ≤ 99) (hd : IsW d) : TellS ⟨l, 1, [], rs, n, d, p⟩ :=
  ⟨hl, (show (0 : Int) ≤ 1 ∧ (1 : Int) ≤ 5 by decide), (by rw [if_neg (show ¬ (1 : Int) = 0 by decide)]), (by rw [if_pos rfl]; exact ⟨h0, h1⟩), (by rw [if_pos rfl]; exact hn), (by rw [if_pos (.inl rfl)]; exact hd)⟩
theorem tell2 {l d : List UInt8} {p : Int} (hl : l = [] ∨ IsW l) (hd : IsW d) : TellS ⟨l, 2, [], [], 0, d, p⟩ :=
  ⟨hl, (show (0 : Int) ≤ 2 ∧ (2 : Int) ≤ 5 by decide), (by rw [if_neg (show ¬ (2 : Int) = 0 by decide)]), (by rw [if_neg (show ¬ (2 : Int) = 1 by decide)]), (by rw [if_neg (show ¬ (2 : Int) = 1 by decide), if_neg (show ¬ (2 : Int) = 3 by decide)]), (by rw [if_pos (.inr (.inl rfl))]; exact hd)⟩
theorem tell3 {l d : List UInt8} {n p : Int} (hl : l = [] ∨ IsW l) (hn : 1 ≤ n ∧ n ≤ 9) (hd : IsW d) : TellS ⟨l, 3, [], [], n, d, p⟩ :=
  ⟨hl, (show (0 : Int) ≤ 3 ∧ (3 : Int) ≤ 5 by decide), (by rw [if_neg (show ¬ (3 : Int) = 0 by decide)]), (by rw [if_neg (show ¬ (3 : Int) = 1 by decide)]), (by rw [if_neg (show ¬ (3 : Int) = 1 by decide), if_pos rfl]; exact hn), (by rw [if_pos (.inr (.inr rfl))]; exact hd)⟩
theorem tell4 {l : List UInt8} {k p : Int} (hl : l = [] ∨ IsW l) (hk : k = 4 ∨ k = 5) : TellS ⟨l, k, [], [], 0, [], p⟩ :=
  ⟨hl, (show (0 : Int) ≤ k ∧ k ≤ 5 by omega), (by rw [if_neg (show ¬ k = 0 by omega)]), (by rw [if_neg (show ¬ k = 1 by omega)]), (by rw [if_neg (show ¬ k = 1 by omega), if_neg (show ¬ k = 3 by omega)]), (by rw [if_neg (show ¬ (k = 1 ∨ k = 2 ∨ k = 3) by omega)])⟩
theorem bod_told {B : Nat} {s : PS} (h : Good B s) (hm : s.ts.length ≤ B + 1) (l : List UInt8) (hl : (l = [] ∨ IsW l) ∧ l.length ≤ B) (p k : Nat) (hk : k < 6) (he : (bodP l p k s).2.err = none) : SpB B (bodP l p k s).1 := by
  rcases (by omega : k = 0 ∨ k = 1 ∨ k = 2 ∨ k = 3 ∨ k = 4 ∨ k = 5) with rfl | rfl | rfl | rfl | rfl | rfl
  · have e : bodP l p 0 s = (⟨l, 0, (takP 3 s).1.text, [], 0, [], (p : Int)⟩, (takP 3 s).2) := rfl
    rw [e] at he ⊢
    have h1 := tak_str h he
    generalize takP 3 s = T at *
    exact ⟨tell0 hl.1 h1.1, hl.2, h1.2, (fun a ha => by cases ha), Nat.zero_le _, Nat.zero_le _⟩
  · have e1 : (bodP l p 1 s).1 = ⟨l, 1, [], (armsP s).1, ((numP 99 (mustP 1 dAfter (armsP s).2)).1 : Int), (tgtP (numP 99 (mustP 1 dAfter (armsP s).2)).2).1, (p : Int)⟩ := by
      show (expP l p s).1 = _
      dsimp only [expP]
    have e2 : (bodP l p 1 s).2 = (tgtP (numP 99 (mustP 1 dAfter (armsP s).2)).2).2 := by
      show (expP l p s).2 = _
      dsimp only [expP]
    rw [e2] at he
    rw [e1]
    have a1 := adv_arms h.ended
    have a2 := a1.trans (adv_must (k := 1) (by decide) dAfter (a1.ended h.ended))
    have a3 := a2.trans (adv_num 99 (a2.ended h.ended))
    have h1 := tgt_told (h.adv a3) he
    have h2 := num_told h1.2.2
    have h3 := arms_told h (must_inv h2.2.2).1
    clear a1 a2 a3 he e1 e2
    generalize tgtP (numP 99 (mustP 1 dAfter (armsP s).2)).2 = T3 at *
    generalize numP 99 (mustP 1 dAfter (armsP s).2) = T2 at *
    generalize armsP s = T1 at *
    exact ⟨tell1 hl.1 h3.2.1 (fun a ha => (h3.1 a ha).1) ⟨by omega, by omega⟩ h1.1, hl.2, Nat.zero_le _, h3.1, by show T1.1.length ≤ B + 2; omega, h1.2.1⟩
  · have e : bodP l p 2 s = (⟨l, 2, [], [], 0, (takP 1 s).1.text, (p : Int)⟩, (takP 1 s).2) := rfl
    rw [e] at he ⊢
    have h1 := tak_word h he
    generalize takP 1 s = T at *
    exact ⟨tell2 hl.1 h1.1, hl.2, Nat.zero_le _, (fun a ha => by cases ha), Nat.zero_le _, h1.2⟩
  · have e : bodP l p 3 s = (⟨l, 3, [], [], ((numP 9 s).1 : Int), (tgtP (numP 9 s).2).1, (p : Int)⟩, (tgtP (numP 9 s).2).2) := rfl
    rw [e] at he ⊢
    have a3 := adv_num 9 h.ended
    have h1 := tgt_told (h.adv a3) he
    have h2 := num_told h1.2.2
    clear a3 he e
    generalize tgtP (numP 9 s).2 = T3 at *
    generalize numP 9 s = T2 at *
    exact ⟨tell3 hl.1 ⟨by omega, by omega⟩ h1.1, hl.2, Nat.zero_le _, (fun a ha => by cases ha), Nat.zero_le _, h1.2.1⟩
  · exact ⟨tell4 hl.1 (.inl rfl), hl.2, Nat.zero_le _, (fun a ha => by cases ha), Nat.zero_le _, Nat.zero_le _⟩
  · exact ⟨tell4 hl.1 (.inr rfl), hl.2, Nat.zero_le _, (fun a ha => by cases ha), Nat.zero_le _, Nat.zero_le _⟩
theorem stp_told {B : Nat} {s : PS} (h : Good B s) (hm : s.ts.length ≤ B + 1) (he : (stpP s).2.err = none) : SpB B (stpP s).1 := by
  have h1 := adv_lab h.ended
  have h2 := h1.trans (adv_kin (h1.ended h.ended))
  rw [stp_2] at he
  rw [stp_1]
  have he3 := (must_inv he).1
  have h3 := adv_bod (labP s).1 (hdP s).pos (kinP (labP s).2).1 (h2.ended h.ended)
  have he2 := h3.good he3
  have hk := kin_told he2
  have hl := lab_told h hk.2
  have h2l := h2.len
  exact bod_told (h.adv h2) (by omega) _ hl _ _ hk.1 he3
theorem par_told {B : Nat} (f : Nat) : ∀ (ss : List Sp) (s : PS) (xs : List Sp), Good B s → s.ts.length ≤ B + 1 → (∀ x ∈ ss, SpB B x) → parP f ss s = .ok xs → (∀ x ∈ xs, SpB B x) ∧ xs.length ≤ ss.length + f := by
  induction f with
  | zero => intro ss s xs _ _ h hp; injection hp with hp; subst hp; exact ⟨h, by omega⟩
  | succ f ih =>
    intro ss s xs hg hm h hp
    by_cases hk : (hdP s).kind = 0
    · rw [par_end hk] at hp; injection hp with hp; subst hp; exact ⟨h, by omega⟩
    · cases hx : (stpP s).2.err with
      | some y => rw [par_bad hk hx] at hp; cases hp
      | none =>
        rw [par_go hk hx] at hp
        have ha := adv_stp hg.ended
        have hal := ha.len
        obtain ⟨h1, h2⟩ := ih _ _ xs (hg.adv ha) (by omega) (fun x hx' => by
          rcases List.mem_append.1 hx' with hx' | hx'
          · exact h x hx'
          · obtain rfl : x = _ := by simpa using hx'
            exact stp_told hg hm hx) hp
        rw [List.length_append, List.length_singleton] at h2
        exact ⟨h1, by omega⟩
/-- What is read of a text. -/
theorem parseD_told {l : List UInt8} {ss : List Sp} (h : parseD l = .ok ss) : (∀ x ∈ ss, SpB l.length x) ∧ ss.length ≤ l.length + 1 := by
  unfold parseD at h
  cases hc : cutR l 0 with
  | error p => rw [hc] at h; cases h
  | ok ts =>
    rw [hc] at h
    obtain ⟨hE, hv⟩ := cut_told l 0 ts hc
    have hw := cut_words l 0 ts hc
    have hs := dcut_short l 0 ts hc
    have hn := dcut_len l 0 ts hc
    obtain ⟨h1, h2⟩ := par_told (B := l.length) _ [] _ ss ⟨hE, fun t ht => ⟨hw t ht, (hv t ht).2, (hv t ht).1, hs t ht⟩⟩ hn (fun x hx => by cases hx) h
    rw [List.length_nil] at h2
    exact ⟨h1, by omega⟩
/-- What is read of a text is read again of its own. -/
theorem parse_dagain {l : List UInt8} {ss : List Sp} (h : parseD l = .ok ss) : ∃ xs, parseD (textS ss) = .ok xs ∧ xs.map noPos = ss.map noPos := text_read fun x hx => ((parseD_told h).1 x hx).tell


/-- What makes a step: five numbers and the numbers of patterns. -/
structure Dc where
  lab : Bool
  kd : Nat
  tx : Nat
  pats : List (List UInt8)
  nn : Nat
  tg : Nat
structure DcF (a : Dc) : Prop where
  kd : a.kd ≤ 255
  tx : a.tx ≤ 255
  nn : a.nn ≤ 255
  tg : a.tg ≤ 255
  few : a.pats.length ≤ 9223372036854775807
def labN (k : Nat) : List UInt8 := [115, UInt8.ofNat (97 + k)]
def txtN (k : Nat) : List UInt8 := ([[13], [98, 111, 111, 116, 13, 10], [97, 32, 98], [], [34, 113, 92]] : List (List UInt8)).getD k []
def armN (a : Dc) (n i : Nat) (p : List UInt8) : Ar := ⟨98 :: (bldL 2 p).1, labN ((a.tg + i) % n)⟩
def armsU (a : Dc) (n : Nat) : Nat → List Ar
  | 0 => []
  | j + 1 => armsU a n j ++ (match a.pats[j]? with | some p => [armN a n j p] | none => [])
def armsN (a : Dc) (n : Nat) : List Ar := if a.pats = [] then [⟨[61, 62, 32], labN (a.tg % n)⟩] else armsU a n (min a.pats.length 3)
def stepN (a : Dc) (k n : Nat) : Sp :=
  if a.kd % 6 = 0 then ⟨labN k, 0, txtN (a.tx % 5), [], 0, [], 0⟩
  else if a.kd % 6 = 1 then ⟨labN k, 1, [], armsN a n, 1 + ((a.nn % 9 : Nat) : Int), labN (a.tg % n), 0⟩
  else if a.kd % 6 = 2 then ⟨labN k, 2, [], [], 0, labN (a.tg % n), 0⟩
  else if a.kd % 6 = 3 then ⟨labN k, 3, [], [], 1 + ((a.nn % 9 : Nat) : Int), labN (a.tg % n), 0⟩
  else ⟨labN k, ((a.kd % 6 : Nat) : Int), [], [], 0, [], 0⟩
def stepsU (ds : List Dc) (n : Nat) : Nat → List Sp
  | 0 => []
  | k + 1 => stepsU ds n k ++ (match ds[k]? with | some d => [stepN d k n] | none => [])
def stepsN (ds : List Dc) : List Sp := stepsU ds (min ds.length 12) (min ds.length 12)
theorem arms_next {a : Dc} {n j : Nat} {p : List UInt8} (h : a.pats[j]? = some p) : armsU a n (j + 1) = armsU a n j ++ [armN a n j p] := by simp [armsU, h]
theorem steps_next {ds : List Dc} {n k : Nat} {d : Dc} (h : ds[k]? = some d) : stepsU ds n (k + 1) = stepsU ds n k ++ [stepN d k n] := by simp [stepsU, h]
theorem step0 {a : Dc} {k n : Nat} (h : a.kd % 6 = 0) : stepN a k n = ⟨labN k, 0, txtN (a.tx % 5), [], 0, [], 0⟩ := by unfold stepN; rw [if_pos h]
theorem step1 {a : Dc} {k n : Nat} (h : a.kd % 6 = 1) : stepN a k n = ⟨labN k, 1, [], armsN a n, 1 + ((a.nn % 9 : Nat) : Int), labN (a.tg % n), 0⟩ := by unfold stepN; rw [if_neg (by omega), if_pos h]
theorem step2 {a : Dc} {k n : Nat} (h : a.kd % 6 = 2) : stepN a k n = ⟨labN k, 2, [], [], 0, labN (a.tg % n), 0⟩ := by unfold stepN; rw [if_neg (by omega), if_neg (by omega), if_pos h]
theorem step3 {a : Dc} {k n : Nat} (h : a.kd % 6 = 3) : stepN a k n = ⟨labN k, 3, [], [], 1 + ((a.nn % 9 : Nat) : Int), labN (a.tg % n), 0⟩ := by unfold stepN; rw [if_neg (by omega), if_neg (by omega), if_neg (by omega), if_pos h]
theorem step4 {a : Dc} {k n : Nat} (h : a.kd % 6 = 4) : stepN a k n = ⟨labN k, 4, [], [], 0, [], 0⟩ := by unfold stepN; rw [if_neg (by omega), if_neg (by omega), if_neg (by omega), if_neg (by omega), h]; rfl
theorem step5 {a : Dc} {k n : Nat} (h : a.kd % 6 = 5) : stepN a k n = ⟨labN k, 5, [], [], 0, [], 0⟩ := by unfold stepN; rw [if_neg (by omega), if_neg (by omega), if_neg (by omega), if_neg (by omega), h]; rfl

def dcL (d : Dc) (v : Value) : List Value := [.bool d.lab, .int .u8 (d.kd : Int), .int .u8 (d.tx : Int), v, .int .u8 (d.nn : Int), .int .u8 (d.tg : Int)]
/-- The slice value '.slice A n _' holds these acts. -/
def DctS (w : World) (A : Option Addr) (n : Nat) (ds : List Dc) : Prop :=
  ds.length = n ∧ ∀ k d, ds[k]? = some d → ∃ ad Ap cp, A = some ad ∧ ad.block < w.heap.size ∧ (∀ j z, (dcL d (.slice Ap d.pats.length cp))[j]? = some z → w.cell? (ad.add (k * 6 + j)) = some z) ∧ DcF d ∧ RowsB w Ap d.pats.length d.pats
theorem DctS.len {w : World} {A : Option Addr} {n : Nat} {ds : List Dc} (h : DctS w A n ds) : ds.length = n := h.1
theorem DctS.below {w w' : World} {A : Option Addr} {n : Nat} {ds : List Dc} (h : DctS w A n ds) (hb : Below w.heap.size w w') : DctS w' A n ds :=
  ⟨h.1, fun k d hk => by
    obtain ⟨ad, Ap, cp, e, hl, hc, hF, hR⟩ := h.2 k d hk
    exact ⟨ad, Ap, cp, e, Nat.lt_of_lt_of_le hl hb.size, fun j z hz => (hb.cell (by rw [ad_block]; exact hl)).trans (hc j z hz), hF, rowsB_below hR hb⟩⟩
theorem DctS.at_ {w : World} {A : Option Addr} {n k : Nat} {ds : List Dc} {d : Dc} (h : DctS w A n ds) (hk : ds[k]? = some d) : ∃ ad Ap cp, A = some ad ∧ ad.block < w.heap.size ∧
    w.cell? (ad.add (k * 6)) = some (.bool d.lab) ∧ w.cell? ⟨(ad.add (k * 6)).block, (ad.add (k * 6)).off + 1, none⟩ = some (.int .u8 (d.kd : Int)) ∧ w.cell? ⟨(ad.add (k * 6)).block, (ad.add (k * 6)).off + 2, none⟩ = some (.int .u8 (d.tx : Int)) ∧
    w.cell? ⟨(ad.add (k * 6)).block, (ad.add (k * 6)).off + 3, none⟩ = some (.slice Ap d.pats.length cp) ∧ w.cell? ⟨(ad.add (k * 6)).block, (ad.add (k * 6)).off + 4, none⟩ = some (.int .u8 (d.nn : Int)) ∧ w.cell? ⟨(ad.add (k * 6)).block, (ad.add (k * 6)).off + 5, none⟩ = some (.int .u8 (d.tg : Int)) ∧ DcF d ∧ RowsB w Ap d.pats.length d.pats := by
  obtain ⟨ad, Ap, cp, e, hl, hc, hF, hR⟩ := h.2 k d hk
  have hs : ∀ j, (⟨(ad.add (k * 6)).block, (ad.add (k * 6)).off + (j + 1), none⟩ : Addr) = ad.add (k * 6 + (j + 1)) := fun j => by rw [← ad_add, Addr.add_succ' (ad.add (k * 6)) j]
  refine ⟨ad, Ap, cp, e, hl, hc 0 _ rfl, ?_, ?_, ?_, ?_, ?_, hF, hR⟩
  · rw [hs 0]; exact hc 1 _ rfl
  · rw [hs 1]; exact hc 2 _ rfl
  · rw [hs 2]; exact hc 3 _ rfl
  · rw [hs 3]; exact hc 4 _ rfl
  · rw [hs 4]; exact hc 5 _ rfl
theorem rune12 (k : Nat) (hk : k < 12) (w : World) : (convert 21 9 (.int .i32 (97 + (k : Int)))).run Tryz.prog w = .ok (.string (strB [UInt8.ofNat (97 + k)])) w := by
  rcases (by omega : k = 0 ∨ k = 1 ∨ k = 2 ∨ k = 3 ∨ k = 4 ∨ k = 5 ∨ k = 6 ∨ k = 7 ∨ k = 8 ∨ k = 9 ∨ k = 10 ∨ k = 11) with rfl | rfl | rfl | rfl | rfl | rfl | rfl | rfl | rfl | rfl | rfl | rfl <;> kernel_rfl
set_option maxHeartbeats 1000000 in
theorem label_any (k : Nat) (hk : k < 12) (w : World) :
    Calls Tryz.prog 22 #[.int .i64 (k : Int)] w fun e w' => e = .returned (.string (strB (labN k))) ∧ w' = w := by
  have hrune := rune12 k hk
  have v1 : IntKind.i64.wrap (97 + (k : Int)) = 97 + (k : Int) := by rw [IntKind.wrap_i64]; omega
  have v2 : IntKind.i32.wrap (97 + (k : Int)) = 97 + (k : Int) := by unfold IntKind.wrap; simp [IntKind.signed, IntKind.bits]; omega
  have hadd : ∀ w, (Op.stringOp .add ⟨#[115]⟩ (strB [UInt8.ofNat (97 + k)])).run Tryz.prog w = .ok (.string (strB (labN k))) w := fun w => run_strAdd [115] [UInt8.ofNat (97 + k)] (by simp) w
  clear hk
  generalize strB (labN k) = R at *
  generalize strB [UInt8.ofNat (97 + k)] = CH at *
  go_enter Tryz.func22, Tryz.ntmps22
  go_wp2
  go_ret
  exact ⟨rfl, rfl⟩
theorem txt_at {k : Nat} (h : k < 5) {w : World} {g : Nat} (hb : Blk w g 9 #[.string ⟨#[13]⟩, .string ⟨#[98, 111, 111, 116, 13, 10]⟩, .string ⟨#[97, 32, 98]⟩, .string ⟨#[]⟩, .string ⟨#[34, 113, 92]⟩]) : w.cell? ⟨g, k, none⟩ = some (.string (strB (txtN k))) := by
  rw [Blk.cell hb]
  rcases (by omega : k = 0 ∨ k = 1 ∨ k = 2 ∨ k = 3 ∨ k = 4) with rfl | rfl | rfl | rfl | rfl <;> rfl
theorem run_upto6 (A : Option Addr) (n c i : Nat) (hi : i ≤ n) (hn : n ≤ c) (hc : c ≤ 9223372036854775807) (W : World) :
    (Instr.slice 45 (.slice A n c) none (some (.int .i64 (i : Int))) none).run Tryz.prog W = .ok (.slice A i c) W := by
  rw [run_slice_h W 45 A n c (by kernel_rfl) .i64 (i : Int) (by omega) (by omega)]
  have hs : ∀ W, (sizeOf (Tryz.prog.elem 45)).run Tryz.prog W = .ok 6 W := fun W => by kernel_rfl
  rw [hs]
  have ha : A.map (·.add (0 * 6)) = A := by
    cases A with
    | none => rfl
    | some ad =>
      have : ad.add 0 = ad := by unfold Addr.add; split <;> simp_all
      simp [this]
  show Result.ok (Value.slice (if c = 0 then A else A.map (·.add (0 * 6))) ((i : Int).toNat - 0) (c - 0)) W = _
  rw [ha]
  simp
theorem step_append_ar {w : World} {ops : Array Oper} {o : Oper} {a : Act} {K : Act → World → Prop} {Q : Exit → Act → World → Prop} {E : Prop} (hgd : o.guard = none) (s x : Operand)
    (ho : o.op = .call { callee := .builtin .append, args := #[s, x], argTypes := #[24, 24] })
    (base : Nat) (v : Value) (n : Nat) (zs : List Ar) (hs : a.eval s = v) (hown : OwnA w base v n zs) (ad : Addr) (hx : a.eval x = .slice (some ad) 1 1) (z : Ar) (hq : ∀ j u, (arL z)[j]? = some u → w.cell? (ad.add j) = some u) (hn : (n + 1) * 32 ≤ 140737488355328) (hbase : base ≤ w.heap.size)
    (h : ∀ G cap w', OwnA w' base (.slice (some ⟨G, 0, none⟩) (n + 1) cap) (n + 1) (zs ++ [z]) → Below base w w' → K (a.put o.dst (.slice (some ⟨G, 0, none⟩) (n + 1) cap)) w') :
    if Region.wanted o (yielded ops a.tmps) = true then Oper.wp Tryz.prog o a w K Q else E := by
  obtain ⟨i, hi⟩ := Option.isSome_iff_exists.1 (show (Tryz.prog.info? 28).isSome = true by kernel_rfl)
  have h0 := infoA
  rw [hi] at h0
  simp only [Option.map_some, Option.some.injEq, Prod.mk.injEq] at h0
  obtain ⟨hz, hsz, hby⟩ := h0
  refine step_append_lies w hgd s x 24 ho base 28 i _ 2 32 Tryz.underlying24 hi hz hsz hby rfl (by omega) v n _ hs hown ad 1 1 (arL z) hx rfl hq (fun y hy => by
    simp [arL] at hy
    rcases hy with rfl | rfl <;> rfl) (by omega) (by unfold maxLen; omega) hn hbase _ rfl ?_
  intro G cap w' h2 h3 _ _
  refine h G cap w' ?_ (below_grown h3 (fun i hi => (hown.lt hi).1) hbase)
  have e : (zs ++ [z]).flatMap arL = zs.flatMap arL ++ arL z := by simp
  unfold OwnA
  rw [e]
  exact h2
set_option maxRecDepth 100000 in
set_option maxHeartbeats 16000000 in
theorem steps_any (ds : List Dc) (A : Option Addr) (n c : Nat) (hnc : n ≤ c) (hc63 : c ≤ 9223372036854775807) (w : World) (hS : DctS w A n ds) :
    Calls Tryz.prog 15 #[.slice A n c] w fun r w' => (∃ B m cb, r = .returned (.slice B m cb) ∧ OwnSt w' w.heap.size (.slice B m cb) m (stepsN ds)) ∧ Below w.heap.size w w' := by
  have HS := keepHid hS
  have HN := keepHid hS.len
  obtain ⟨m, hm⟩ : ∃ m, min n 12 = m := ⟨_, rfl⟩
  have qm := fun ts t W => min_z ts t (n : Int) 12 (m : Int) (by omega) W
  have hmn : m ≤ n := by omega
  have hm12 : m ≤ 12 := by omega
  have hcut := fun W => run_upto6 A n c m hmn hnc hc63 W
  have HSN : Hid (stepsN ds = stepsU ds m m) := keepHid (by unfold stepsN; rw [HN.out, hm])
  clear hS hm
  go_enter Tryz.func15, Tryz.ntmps15
  go_wp2_with fail
  clear hcut qm
  go_loopw [20, 4] (fun iv ov wr => ∃ (k : Nat) (B : Option Addr) (cb : Nat), k ≤ m ∧ iv = .int .i64 (k : Int) ∧ ov = .slice B k cb ∧ Hid (OwnSt wr w.heap.size (.slice B k cb) k (stepsU ds m k)) ∧ Hid (Below w.heap.size w wr)) (fun iv _ _ => m - (intOf iv).toNat)
  case atStart => exact ⟨0, none, 0, Nat.zero_le _, rfl, rfl, keepHid (OwnSt.nil _ _), keepHid (Below.refl _ _)⟩
  case round =>
    obtain ⟨k, B, cb, hk, rfl, rfl, HO, HB⟩ := hrel
    generalize wr = wq at *
    by_cases hlt : k < m
    · obtain ⟨d, hd⟩ : ∃ d, ds[k]? = some d := ⟨_, List.getElem?_eq_getElem (by rw [HN.out]; omega)⟩
      obtain ⟨ad, Ap, cp, rfl, hadl, c0, c1, c2, c3, c4, c5, hF, hR⟩ := (HS.out.below HB.out).at_ hd
      have hk' : (k : Int) < (m : Int) := by omega
      have hF1 := hF.kd; have hF2 := hF.tx; have hF3 := hF.nn; have hF4 := hF.tg
      have HNX := keepHid (steps_next (n := m) hd)
      have HD5 := keepHid (fun h => step0 (a := d) (k := k) (n := m) h)
      have HG0 : Hid (w.heap.size ≤ wq.heap.size) := keepHid HB.out.size
      obtain ⟨w1, hw1⟩ : ∃ w1, wq.alloc (.cells #[.bool d.lab, .int .u8 (d.kd : Int), .int .u8 (d.tx : Int), .slice Ap d.pats.length cp, .int .u8 (d.nn : Int), .int .u8 (d.tg : Int)] 68) = w1 := ⟨_, rfl⟩
      have hK1 : Blk w1 wq.heap.size 68 #[.bool d.lab, .int .u8 (d.kd : Int), .int .u8 (d.tx : Int), .slice Ap d.pats.length cp, .int .u8 (d.nn : Int), .int .u8 (d.tg : Int)] := by rw [← hw1]; exact Blk.new wq _ _
      have hB1 : Below wq.heap.size wq w1 := by rw [← hw1]; exact (Below.refl _ _).alloc (Nat.le_refl _) _
      have HK1 := keepHid hK1
      have HB1 := keepHid hB1
      have HR1 := keepHid (rowsB_below hR hB1)
      have HL := keepHid (label_any k (by omega))
      have HT := keepHid (label_any (d.tg % m) (by have := Nat.mod_lt d.tg (show 0 < m by omega); omega))
      have HTI : Hid (∀ i, ∀ w, Calls Tryz.prog 22 #[.int .i64 (((d.tg + i) % m : Nat) : Int)] w fun e w' => e = .returned (.string (strB (labN ((d.tg + i) % m)))) ∧ w' = w) := keepHid (fun i => label_any ((d.tg + i) % m) (by have := Nat.mod_lt (d.tg + i) (show 0 < m by omega); omega))
      obtain ⟨q, hq⟩ : ∃ q, d.kd % 6 = q := ⟨_, rfl⟩
      have hq6 : q < 6 := by omega
      have HQ := keepHid hq
      have a1 : (d.kd : Int) % 6 = (q : Int) := by omega
      have a2 : Int.tmod (d.kd : Int) 6 = (q : Int) := by rw [Int.tmod_eq_emod_of_nonneg (by omega)]; exact a1
      have a3 : IntKind.u8.wrap (q : Int) = (q : Int) := by unfold IntKind.wrap; simp [IntKind.signed, IntKind.bits]; omega
      have a4 : IntKind.i64.wrap (q : Int) = (q : Int) := by rw [IntKind.wrap_i64]; omega
      obtain ⟨tt, htt⟩ : ∃ t, d.tg % m = t := ⟨_, rfl⟩
      rw [htt] at HT
      have htlt : tt < m := by rw [← htt]; exact Nat.mod_lt _ (by omega)
      have b1 : (d.tg : Int) % (m : Int) = (tt : Int) := by rw [← htt]; rfl
      have b2 : Int.tmod (d.tg : Int) (m : Int) = (tt : Int) := by rw [Int.tmod_eq_emod_of_nonneg (by omega)]; exact b1
      have b3 : IntKind.i64.wrap (tt : Int) = (tt : Int) := by rw [IntKind.wrap_i64]; omega
      have b4 : IntKind.i64.wrap (d.tg : Int) = (d.tg : Int) := by rw [IntKind.wrap_i64]; omega
      have b5 : ¬ (m : Int) = 0 := by omega
      have b6 : ((m : Int) == 0) = false := by simp; omega
      have b7 : ¬ m = 0 := by omega
      have HTT := keepHid htt
      have HDS := keepHid hd
      have hto := hF.tg
      have HFEW := keepHid hF.few
      clear hK1 hB1 hR hF hq htt hd
      obtain ⟨LB, hLB⟩ : ∃ L, strB (labN k) = L := ⟨_, rfl⟩
      obtain ⟨TB, hTB⟩ : ∃ L, strB (labN tt) = L := ⟨_, rfl⟩
      rw [hLB] at HL
      rw [hTB] at HT
      have HLB := keepHid hLB
      have HTB := keepHid hTB
      clear hLB hTB
      have HCS : Hid (∀ w', Below w1.heap.size w1 w' → w'.cell? ⟨wq.heap.size, 1, none⟩ = some (.int .u8 (d.kd : Int)) ∧ Below w1.heap.size w1 w') := keepHid (fun w' hb => ⟨(HK1.out.below hb HK1.out.lt).cell 1, hb⟩)
      go_upto_region 6 with fail
      try rw [hw1]
      clear hw1 c0 c1 c2 c3 c4 c5
      go_cut [7] (fun s wx => s = .pointer (some ⟨w1.heap.size, 0, none⟩) ∧ Hid (Blk wx w1.heap.size 26 #[.string LB, .int .i64 (q : Int), .string ⟨#[]⟩, .slice none 0 0, .int .i64 0, .string ⟨#[]⟩, .int .i64 0]) ∧ Hid (Below w1.heap.size w1 wx))
      case first =>
        go_region_held3 (fun w' => w'.cell? ⟨wq.heap.size, 1, none⟩ = some (.int .u8 (d.kd : Int)) ∧ Below w1.heap.size w1 w') (exact HCS.out _ (by (repeat (first | (with_reducible exact Below.refl _ _) | (with_reducible refine Below.drew ?_) | (with_reducible refine Below.alloc ?_ (Nat.le_refl _) _))))) (first | (go_at_call 22; (with_reducible refine (HL.out _).mono ?_); rintro e w' ⟨rfl, rfl⟩))
        all_goals
          go_wp2_with fail
          go_meet
          case rel => exact ⟨rfl, keepHid (Blk.new w1 _ _).drew, keepHid ((Below.refl _ _).alloc (Nat.le_refl _) _).drew⟩
      case rest =>
        obtain ⟨rfl, HKS, HBS⟩ := hcut
        clear HCS HL
        generalize wc = wc at *
        have HKA := keepHid (HK1.out.below HBS.out HK1.out.lt)
        have g5 : wc.cell? ⟨wq.heap.size, 5, none⟩ = some (.int .u8 (d.tg : Int)) := HKA.out.cell 5
        have s1 : wc.cell? ⟨w1.heap.size, 1, none⟩ = some (.int .i64 (q : Int)) := HKS.out.cell 1
        have HLT : Hid (wq.heap.size < w1.heap.size) := keepHid HK1.out.lt
        have HLS : Hid (w1.heap.size < wc.heap.size) := keepHid HKS.out.lt
        have HBC : Hid (Below wq.heap.size wq w1) := HB1
        go_wp2_with fail
        refine (HT.out _).mono ?_
        rintro e w' ⟨rfl, hw'⟩
        subst w'
        clear HT g5
        rcases (by omega : q = 0 ∨ q = 1 ∨ q = 2 ∨ q = 3 ∨ q = 4 ∨ q = 5) with rfl | rfl | rfl | rfl | rfl | rfl
        · obtain ⟨t5, ht5⟩ : ∃ r, d.tx % 5 = r := ⟨_, rfl⟩
          have ht55 : t5 < 5 := by omega
          have HT5 := keepHid ht5
          have n1 : (d.tx : Int) % 5 = (t5 : Int) := by omega
          have n2 : Int.tmod (d.tx : Int) 5 = (t5 : Int) := by rw [Int.tmod_eq_emod_of_nonneg (by omega)]; exact n1
          have n3 : IntKind.u8.wrap (t5 : Int) = (t5 : Int) := by unfold IntKind.wrap; simp [IntKind.signed, IntKind.bits]; omega
          obtain ⟨w2, hw2⟩ : ∃ w2, wc.alloc (.cells #[.string ⟨#[13]⟩, .string ⟨#[98, 111, 111, 116, 13, 10]⟩, .string ⟨#[97, 32, 98]⟩, .string ⟨#[]⟩, .string ⟨#[34, 113, 92]⟩] 9) = w2 := ⟨_, rfl⟩
          have hB2 : Below wc.heap.size wc w2 := by rw [← hw2]; exact (Below.refl _ _).alloc (Nat.le_refl _) _
          have hX2 := txt_at ht55 (w := w2) (g := wc.heap.size) (by rw [← hw2]; exact Blk.new wc _ _)
          have g2 : w2.cell? ⟨wq.heap.size, 2, none⟩ = some (.int .u8 (d.tx : Int)) := (HKA.out.below hB2 HKA.out.lt).cell 2
          have HKS2 := keepHid (HKS.out.below hB2 HKS.out.lt)
          have HBS2 : Hid (Below w1.heap.size w1 w2) := keepHid (HBS.out.trans (hB2.mono HBS.out.size))
          have n6 : (t5 : Int) < 5 := by omega
          obtain ⟨TX, hTX⟩ : ∃ X, strB (txtN t5) = X := ⟨_, rfl⟩
          rw [hTX] at hX2
          have HTX := keepHid hTX
          clear ht5 hTX hB2
          rw [show ((0 : Nat) : Int) = 0 from rfl] at *

          have fw3 := HKS2.out.frozen 2
          have ccw3 := HKS2.out.cell 2
          simp at ccw3
          obtain ⟨w3, hhw3⟩ : ∃ z, (w2).setCell ⟨w1.heap.size, 2, none⟩ (.string TX) = z := ⟨_, rfl⟩
          have HK3 : Hid (Blk w3 w1.heap.size 26 #[.string LB, .int .i64 0, .string TX, .slice none 0 0, .int .i64 0, .string ⟨#[]⟩, .int .i64 0]) := keepHid (by rw [← hhw3]; exact HKS2.out.put 2 _)
          have HB3 : Hid (Below w1.heap.size w1 w3) := keepHid (by rw [← hhw3]; exact HBS2.out.setCell (p := ⟨w1.heap.size, 2, none⟩) (Nat.le_refl _) _)

          have HXE : Hid (stA (stepN d k m) (.slice none 0 0) = #[.string LB, .int .i64 0, .string TX, .slice none 0 0, .int .i64 0, .string ⟨#[]⟩, .int .i64 0]) := keepHid (by rw [step0 HQ.out]; show #[_, _, _, _, _, _, _] = _; rw [HLB.out, HT5.out, HTX.out]; rfl)
          have HAX : Hid (OwnA w3 w.heap.size (.slice none 0 0) 0 (stepN d k m).arms) := keepHid (by rw [step0 HQ.out]; exact OwnA.nil _ _)
          have e0 := HK3.out.cell 0; have e1 := HK3.out.cell 1; have e2 := HK3.out.cell 2; have e3 := HK3.out.cell 3; have e4 := HK3.out.cell 4; have e5 := HK3.out.cell 5; have e6 := HK3.out.cell 6
          simp at e0 e1 e2 e3 e4 e5 e6
          obtain ⟨w5, hw5⟩ : ∃ w5, (w3).alloc (.cells #[.string LB, .int .i64 0, .string TX, .slice none 0 0, .int .i64 0, .string ⟨#[]⟩, .int .i64 0] 26) = w5 := ⟨_, rfl⟩
          have hB5 : Below w3.heap.size w3 w5 := by rw [← hw5]; exact (Below.refl _ _).alloc (Nat.le_refl _) _
          have HK5 : Hid (Blk w5 w3.heap.size 26 (stA (stepN d k m) (.slice none 0 0))) := keepHid (by rw [HXE.out, ← hw5]; exact Blk.new _ _ _)
          have HA5 := keepHid (HAX.out.below hB5)
          have hbz : Below wq.heap.size wq w5 := (HB1.out.trans (HB3.out.mono (Nat.le_of_lt HLT.out))).trans (hB5.mono (by have := HB3.out.size; have := HLT.out; omega))
          have HO5 := keepHid (HO.out.below hbz)
          have HB5 := keepHid (HB.out.trans (hbz.mono HG0.out))
          have HG5 : Hid (w.heap.size ≤ w5.heap.size) := keepHid HB5.out.size
          clear hbz hB5 HAX HXE HO
          go_wp2_with (at_builtin; refine wpList_append_st rfl _ _ rfl w.heap.size (.slice B k cb) k (stepsU ds m k) (by rfl) HO5.out w3.heap.size (by rfl) (stepN d k m) (.slice none 0 0) 0 HK5.out HA5.out (by omega) HG5.out ?_)
          intro G6 c6 w6 h6 _ _ h6b
          have HO6 := keepHid h6
          have HB6 := keepHid (HB5.out.trans h6b)
          clear h6 h6b HO5 HA5 HK5 hw5
          go_wp2
          go_roundw
          case rel => exact ⟨k + 1, some ⟨G6, 0, none⟩, c6, by omega, by go_num, rfl, keepHid (by rw [HNX.out]; exact HO6.out), HB6⟩
          case measure => simp [intOf]; omega
        · obtain ⟨n9, hn9⟩ : ∃ r, d.nn % 9 = r := ⟨_, rfl⟩
          have HN9 := keepHid hn9
          have n1 : (d.nn : Int) % 9 = (n9 : Int) := by omega
          have n2 : Int.tmod (d.nn : Int) 9 = (n9 : Int) := by rw [Int.tmod_eq_emod_of_nonneg (by omega)]; exact n1
          have n3 : IntKind.u8.wrap (n9 : Int) = (n9 : Int) := by unfold IntKind.wrap; simp [IntKind.signed, IntKind.bits]; omega
          have n4 : IntKind.i64.wrap (n9 : Int) = (n9 : Int) := by rw [IntKind.wrap_i64]; omega
          have n5 : IntKind.i64.wrap (1 + (n9 : Int)) = 1 + (n9 : Int) := by rw [IntKind.wrap_i64]; omega
          have g4 : wc.cell? ⟨wq.heap.size, 4, none⟩ = some (.int .u8 (d.nn : Int)) := HKA.out.cell 4
          clear hn9
          rw [show ((1 : Nat) : Int) = 1 from rfl] at *

          have fw2 := HKS.out.frozen 4
          have ccw2 := HKS.out.cell 4
          simp at ccw2
          obtain ⟨w2, hhw2⟩ : ∃ z, (wc).setCell ⟨w1.heap.size, 4, none⟩ (.int .i64 (1 + (n9 : Int))) = z := ⟨_, rfl⟩
          have HK2 : Hid (Blk w2 w1.heap.size 26 #[.string LB, .int .i64 1, .string ⟨#[]⟩, .slice none 0 0, .int .i64 (1 + (n9 : Int)), .string ⟨#[]⟩, .int .i64 0]) := keepHid (by rw [← hhw2]; exact HKS.out.put 4 _)
          have HB2 : Hid (Below w1.heap.size w1 w2) := keepHid (by rw [← hhw2]; exact HBS.out.setCell (p := ⟨w1.heap.size, 4, none⟩) (Nat.le_refl _) _)

          have fw3 := HK2.out.frozen 5
          have ccw3 := HK2.out.cell 5
          simp at ccw3
          obtain ⟨w3, hhw3⟩ : ∃ z, (w2).setCell ⟨w1.heap.size, 5, none⟩ (.string TB) = z := ⟨_, rfl⟩
          have HK3 : Hid (Blk w3 w1.heap.size 26 #[.string LB, .int .i64 1, .string ⟨#[]⟩, .slice none 0 0, .int .i64 (1 + (n9 : Int)), .string TB, .int .i64 0]) := keepHid (by rw [← hhw3]; exact HK2.out.put 5 _)
          have HB3 : Hid (Below w1.heap.size w1 w3) := keepHid (by rw [← hhw3]; exact HB2.out.setCell (p := ⟨w1.heap.size, 5, none⟩) (Nat.le_refl _) _)

          have HR3 := keepHid (rowsB_below HR1.out HB3.out)
          have HK3A := keepHid (HK1.out.below HB3.out HK1.out.lt)
          have hp3 : w3.cell? ⟨wq.heap.size, 3, none⟩ = some (.slice Ap d.pats.length cp) := HK3A.out.cell 3
          go_wp2_with fail
          try rw [hhw2]
          try rw [hhw3]
          clear s1 HKS HBS HK2 HB2 HKA hhw2 hhw3 fw2 fw3 ccw2 ccw3 hp3 g4
          go_loopw [62] (fun jv wr => ∃ (j mm : Nat) (P : Option Addr) (pc : Nat), j ≤ d.pats.length ∧ jv = .int .i64 (j : Int) ∧ Hid (mm = min j 3) ∧ Hid (Blk wr w1.heap.size 26 #[.string LB, .int .i64 1, .string ⟨#[]⟩, .slice P mm pc, .int .i64 (1 + (n9 : Int)), .string TB, .int .i64 0]) ∧ Hid (OwnA wr (w1.heap.size + 1) (.slice P mm pc) mm (armsU d m mm)) ∧ Hid (Below w1.heap.size w1 wr)) (fun jv _ => d.pats.length - (intOf jv).toNat)
          case atStart => exact ⟨0, 0, none, 0, Nat.zero_le _, rfl, keepHid rfl, HK3, keepHid (OwnA.nil _ _), HB3⟩
          case round =>
            obtain ⟨j, mm, P, pc, hj, rfl, HM, HKI, HOA, HBI⟩ := hrel
            generalize wr = wi at *
            by_cases hjl : j < d.pats.length
            · obtain ⟨p, hp⟩ : ∃ p, d.pats[j]? = some p := ⟨_, List.getElem?_eq_getElem hjl⟩
              obtain ⟨pad, Ak, ck, rfl, hpl, hcell, hck, hcm, hby⟩ := (rowsB_below HR1.out HBI.out).2 j p hp
              have hj' : (j : Int) < (d.pats.length : Int) := by omega
              have hfew := HFEW.out
              by_cases h3 : j < 3
              · have hj3 : (j : Int) < 3 := by omega
                obtain rfl : mm = j := by have := HM.out; omega
                have HMK : Hid (Calls Tryz.prog 23 #[.slice Ak p.length ck, .int .i64 2] wi (MakePostD 2 p wi)) := keepHid (makes_d (d := 2) (build_all 2 (by decide)) Ak p.length ck p wi hby hck hcm)
                have HAN := keepHid (arms_next (n := m) hp)
                clear hp hby hck hcm
                go_wp2_with fail
                with_reducible refine HMK.out.mono ?_
                rintro e w5 ⟨h, rfl, _, hb5⟩
                obtain ⟨w6, hw6⟩ : ∃ w6, w5.alloc (.cells (hdC h) 76) = w6 := ⟨_, rfl⟩
                have hb6 : Below wi.heap.size wi w6 := by rw [← hw6]; exact hb5.trans (((Below.refl _ _).alloc (Nat.le_refl _) _).mono hb5.size)
                have HB6 := keepHid (HBI.out.trans (hb6.mono HBI.out.size))
                have HKI6 := keepHid (HKI.out.below hb6 HKI.out.lt)
                have HKA6 := keepHid (HK1.out.below HB6.out HK1.out.lt)
                have HOA6 := keepHid (HOA.out.below hb6)
                have HGS6 : Hid (w1.heap.size + 1 ≤ w6.heap.size) := keepHid (by have := HKI6.out.lt; omega)
                have hd3 : w6.cell? ⟨w1.heap.size, 3, none⟩ = some (.slice P mm pc) := HKI6.out.cell 3
                have hd5 : w6.cell? ⟨wq.heap.size, 5, none⟩ = some (.int .u8 (d.tg : Int)) := HKA6.out.cell 5
                have hlen : (bldL 2 p).1.length ≤ 64 := Nat.le_trans (bld_len 2 p) (by decide)
                have hadd : ∀ w, (Op.stringOp .add ⟨#[98]⟩ (strB (bldL 2 p).1)).run Tryz.prog w = .ok (.string (strB (98 :: (bldL 2 p).1))) w := fun w => run_strAdd [98] _ (by simp; omega) w
                obtain ⟨u, hu⟩ : ∃ u, (d.tg + mm) % m = u := ⟨_, rfl⟩
                have r1 : ((d.tg : Int) + (mm : Int)) % (m : Int) = (u : Int) := by rw [← hu]; rfl
                have r2 : Int.tmod ((d.tg : Int) + (mm : Int)) (m : Int) = (u : Int) := by rw [Int.tmod_eq_emod_of_nonneg (by omega)]; exact r1
                have hum : u < m := by rw [← hu]; exact Nat.mod_lt _ (by omega)
                have r3 : IntKind.i64.wrap ((d.tg : Int) + (mm : Int)) = (d.tg : Int) + (mm : Int) := by rw [IntKind.wrap_i64]; omega
                have r4 : IntKind.i64.wrap (u : Int) = (u : Int) := by rw [IntKind.wrap_i64]; omega
                have HLU := HTI.out mm
                rw [hu] at HLU
                obtain ⟨AP, hAP⟩ : ∃ x, strB (98 :: (bldL 2 p).1) = x := ⟨_, rfl⟩
                obtain ⟨AD, hAD⟩ : ∃ x, strB (labN u) = x := ⟨_, rfl⟩
                rw [hAD] at HLU
                rw [hAP] at hadd
                have HLB2 : Hid (∀ wx, Below w6.heap.size w6 wx → Calls Tryz.prog 22 #[.int .i64 (u : Int)] wx fun e w' => e = .returned (.string AD) ∧ Below w6.heap.size w6 w') := keepHid (fun wx hb => (HLU wx).mono fun e w' ⟨h1, h2⟩ => ⟨h1, by rw [h2]; exact hb⟩)
                have harl : arL (armN d m mm p) = [.string AP, .string AD] := by unfold arL armN; dsimp only; rw [hu, hAP, hAD]
                have HNEW : Hid (∀ w7, Below w6.heap.size w6 w7 → w7.cell? ⟨w1.heap.size, 3, none⟩ = some (.slice P mm pc) ∧ (w7.alloc (.cells #[.string AP, .string AD] 28)).cell? ⟨w1.heap.size, 3, none⟩ = some (.slice P mm pc) ∧ OwnA (w7.alloc (.cells #[.string AP, .string AD] 28)) (w1.heap.size + 1) (.slice P mm pc) mm (armsU d m mm) ∧
                    (∀ j u, (arL (armN d m mm p))[j]? = some u → (w7.alloc (.cells #[.string AP, .string AD] 28)).cell? ((⟨w7.heap.size, 0, none⟩ : Addr).add j) = some u) ∧ w1.heap.size + 1 ≤ (w7.alloc (.cells #[.string AP, .string AD] 28)).heap.size ∧
                    ∀ G cap w9, OwnA w9 (w1.heap.size + 1) (.slice (some ⟨G, 0, none⟩) (mm + 1) cap) (mm + 1) (armsU d m mm ++ [armN d m mm p]) → Below (w1.heap.size + 1) (w7.alloc (.cells #[.string AP, .string AD] 28)) w9 →
                      w9.cell? ⟨w1.heap.size, 3, none⟩ = some (.slice P mm pc) ∧ w9.frozen? ⟨w1.heap.size, 3, none⟩ = false ∧
                      Blk (w9.setCell ⟨w1.heap.size, 3, none⟩ (.slice (some ⟨G, 0, none⟩) (mm + 1) cap)) w1.heap.size 26 #[.string LB, .int .i64 1, .string ⟨#[]⟩, .slice (some ⟨G, 0, none⟩) (mm + 1) cap, .int .i64 (1 + (n9 : Int)), .string TB, .int .i64 0] ∧ OwnA (w9.setCell ⟨w1.heap.size, 3, none⟩ (.slice (some ⟨G, 0, none⟩) (mm + 1) cap)) (w1.heap.size + 1) (.slice (some ⟨G, 0, none⟩) (mm + 1) cap) (mm + 1) (armsU d m (mm + 1)) ∧ Below w1.heap.size w1 (w9.setCell ⟨w1.heap.size, 3, none⟩ (.slice (some ⟨G, 0, none⟩) (mm + 1) cap))) := keepHid (fun w7 hb => by
                  have hb' := hb.alloc hb.size (.cells #[.string AP, .string AD] 28)
                  have h7 := HKI6.out.below hb HKI6.out.lt
                  have h8 := HKI6.out.below hb' HKI6.out.lt
                  refine ⟨h7.cell 3, h8.cell 3, HOA6.out.below hb', ?_, by have := hb'.size; have := HGS6.out; omega, fun G cap w9 q1 q2 => ?_⟩
                  · rw [harl]
                    exact World.news_of_block (cs := #[.string AP, .string AD]) (Blk.new w7 _ _)
                  · have h9 := h8.below q2 (Nat.lt_succ_self _)
                    refine ⟨h9.cell 3, h9.frozen 3, h9.put 3 _, ?_, ?_⟩
                    · rw [HAN.out]
                      exact q1.keep fun i hi hlt => Below.heap_setCell w9 _ _ i (fun e => by have := (q1.lt hi).1; subst e; exact absurd this (by show ¬ (w1.heap.size + 1 ≤ w1.heap.size); omega))
                    · exact ((HB6.out.trans (hb'.mono HB6.out.size)).trans (q2.mono (Nat.le_succ _))).setCell (p := ⟨w1.heap.size, 3, none⟩) (Nat.le_refl _) _)
                have h96 : (mm + 1) * 32 ≤ 140737488355328 := by omega
                unfold hdC at hw6
                unfold hdV
                clear hb5 hb6 HMK HKI HOA HBI hAP hAD harl hu HLU hcell
                generalize strB (bldL 2 p).1 = ST at *
                go_upto_region 18 with fail
                try rw [hw6]
                clear hw6
                go_region_law (first
                  | (go_simp; go_at_call 22; (with_reducible refine (HLB2.out _ (by first | exact Below.refl _ _ | exact (Below.refl _ _).drew | exact (Below.refl _ _).drew.drew)).mono ?_); rintro e w7 ⟨rfl, hb7⟩; obtain ⟨g0, g1, ho, hc, hl, hf⟩ := HNEW.out w7 hb7; have HO7 := keepHid ho; have HC7 := keepHid hc; have HL7 := keepHid hl; have HF7 := keepHid hf; clear hb7 ho hc hl hf)
                  | ((refine step_append_ar rfl (.tmp 75) (.tmp 87) rfl (w1.heap.size + 1) (.slice P mm pc) mm (armsU d m mm) (by simp [Act.eval]) HO7.out ⟨w7.heap.size, 0, none⟩ (by simp [Act.eval]) (armN d m mm p) HC7.out h96 HL7.out ?_); intro G9 cap9 w9 q1 q2; obtain ⟨f0, f1, hp9⟩ := HF7.out G9 cap9 w9 q1 q2; have HP9 := keepHid hp9; clear q1 q2 hp9))
                all_goals
                  go_wp2
                  go_roundw
                  case rel => exact ⟨mm + 1, mm + 1, some ⟨G9, 0, none⟩, cap9, by omega, by go_num, keepHid (by omega), keepHid HP9.out.1, keepHid HP9.out.2.1, keepHid HP9.out.2.2⟩
                  case measure => simp [intOf]; omega
              · have hj3 : ¬ (j : Int) < 3 := by omega
                have HM2 : Hid (mm = min (j + 1) 3) := keepHid (by have := HM.out; omega)
                clear hp hby hck hcm hpl
                go_wp2
                go_roundw
                case rel => exact ⟨j + 1, mm, P, pc, by omega, by go_num, HM2, HKI, HOA, HBI⟩
                case measure => simp [intOf]; omega
            · obtain rfl : j = d.pats.length := by omega
              have i3 : wi.cell? ⟨w1.heap.size, 3, none⟩ = some (.slice P mm pc) := HKI.out.cell 3
              have i3f := HKI.out.frozen 3
              by_cases h0 : d.pats.length = 0
              · obtain rfl : mm = 0 := by have := HM.out; omega
                have HE : Hid (d.pats = []) := keepHid (List.length_eq_zero_iff.1 h0)
                try rw [show ((0 : Nat) : Int) = 0 from rfl] at *
                obtain ⟨wA, hwA⟩ : ∃ z, wi.alloc (.cells #[.string ⟨#[61, 62, 32]⟩, .string TB] 28) = z := ⟨_, rfl⟩
                have hbA : Below wi.heap.size wi wA := by rw [← hwA]; exact (Below.refl _ _).alloc (Nat.le_refl _) _
                have HKA := keepHid (HKI.out.below hbA HKI.out.lt)
                have HGW : Hid (w.heap.size ≤ wi.heap.size) := keepHid (by have := HBI.out.size; have := HLT.out; have := HG0.out; omega)
                have HOW : Hid (OwnA wA w.heap.size (.slice (some ⟨wi.heap.size, 0, none⟩) 1 1) 1 [⟨[61, 62, 32], labN tt⟩]) := keepHid (by
                  have := OwnA.new wi w.heap.size ⟨[61, 62, 32], labN tt⟩ HGW.out
                  dsimp only at this
                  rw [HTB.out] at this
                  rw [← hwA]
                  exact this)
                obtain ⟨wB, hwB⟩ : ∃ z, wA.setCell ⟨w1.heap.size, 3, none⟩ (.slice (some ⟨wi.heap.size, 0, none⟩) 1 1) = z := ⟨_, rfl⟩
                have HKB : Hid (Blk wB w1.heap.size 26 #[.string LB, .int .i64 1, .string ⟨#[]⟩, .slice (some ⟨wi.heap.size, 0, none⟩) 1 1, .int .i64 (1 + (n9 : Int)), .string TB, .int .i64 0]) := keepHid (by rw [← hwB]; exact HKA.out.put 3 _)
                have HBB : Hid (Below w1.heap.size w1 wB) := keepHid (by rw [← hwB]; exact (HBI.out.trans (hbA.mono HBI.out.size)).setCell (p := ⟨w1.heap.size, 3, none⟩) (Nat.le_refl _) _)
                have HOB : Hid (OwnA wB w.heap.size (.slice (some ⟨wi.heap.size, 0, none⟩) 1 1) 1 (armsN d m)) := keepHid (by
                  have e : armsN d m = [⟨[61, 62, 32], labN tt⟩] := by unfold armsN; rw [if_pos HE.out, HTT.out]
                  rw [e, ← hwB]
                  exact HOW.out.keep fun i hi hlt => Below.heap_setCell wA _ _ i (fun e => by
                    have e2 : wi.heap.size = i := Option.some.inj hi
                    have := HKI.out.lt
                    have e3 : i = w1.heap.size := e
                    omega))
                have iA : wA.cell? ⟨w1.heap.size, 3, none⟩ = some (.slice P 0 pc) := HKA.out.cell 3
                have iAf := HKA.out.frozen 3
                clear hbA HKA HOW HOA HKI
                have HXE : Hid (stA (stepN d k m) (.slice (some ⟨wi.heap.size, 0, none⟩) 1 1) = #[.string LB, .int .i64 1, .string ⟨#[]⟩, .slice (some ⟨wi.heap.size, 0, none⟩) 1 1, .int .i64 (1 + (n9 : Int)), .string TB, .int .i64 0]) := keepHid (by rw [step1 HQ.out]; show #[_, _, _, _, _, _, _] = _; rw [HLB.out, HTT.out, HTB.out, HN9.out]; rfl)
                have HAX : Hid (OwnA wB w.heap.size (.slice (some ⟨wi.heap.size, 0, none⟩) 1 1) 1 (stepN d k m).arms) := keepHid (by rw [step1 HQ.out]; exact HOB.out)
                have e0 := HKB.out.cell 0; have e1 := HKB.out.cell 1; have e2 := HKB.out.cell 2; have e3 := HKB.out.cell 3; have e4 := HKB.out.cell 4; have e5 := HKB.out.cell 5; have e6 := HKB.out.cell 6
                simp at e0 e1 e2 e3 e4 e5 e6
                obtain ⟨w5, hw5⟩ : ∃ w5, (wB).alloc (.cells #[.string LB, .int .i64 1, .string ⟨#[]⟩, .slice (some ⟨wi.heap.size, 0, none⟩) 1 1, .int .i64 (1 + (n9 : Int)), .string TB, .int .i64 0] 26) = w5 := ⟨_, rfl⟩
                have hB5 : Below wB.heap.size wB w5 := by rw [← hw5]; exact (Below.refl _ _).alloc (Nat.le_refl _) _
                have HK5 : Hid (Blk w5 wB.heap.size 26 (stA (stepN d k m) (.slice (some ⟨wi.heap.size, 0, none⟩) 1 1))) := keepHid (by rw [HXE.out, ← hw5]; exact Blk.new _ _ _)
                have HA5 := keepHid (HAX.out.below hB5)
                have hbz : Below wq.heap.size wq w5 := (HB1.out.trans (HBB.out.mono (Nat.le_of_lt HLT.out))).trans (hB5.mono (by have := HBB.out.size; have := HLT.out; omega))
                have HO5 := keepHid (HO.out.below hbz)
                have HB5 := keepHid (HB.out.trans (hbz.mono HG0.out))
                have HG5 : Hid (w.heap.size ≤ w5.heap.size) := keepHid HB5.out.size
                clear hbz hB5 HAX HXE HO
                go_wp2_with (at_builtin; refine wpList_append_st rfl _ _ rfl w.heap.size (.slice B k cb) k (stepsU ds m k) (by rfl) HO5.out wB.heap.size (by rfl) (stepN d k m) (.slice (some ⟨wi.heap.size, 0, none⟩) 1 1) 1 HK5.out HA5.out (by omega) HG5.out ?_)
                intro G6 c6 w6 h6 _ _ h6b
                have HO6 := keepHid h6
                have HB6 := keepHid (HB5.out.trans h6b)
                clear h6 h6b HO5 HA5 HK5 hw5
                go_wp2
                go_roundw
                case rel => exact ⟨k + 1, some ⟨G6, 0, none⟩, c6, by omega, by go_num, rfl, keepHid (by rw [HNX.out]; exact HO6.out), HB6⟩
                case measure => simp [intOf]; omega
              · have hmm : ((mm : Int) == 0) = false := by have := HM.out; simp; omega
                have hmm2 : ¬ (mm : Int) = 0 := by have := HM.out; omega
                have HOB : Hid (OwnA wi w.heap.size (.slice P mm pc) mm (armsN d m)) := keepHid (by
                  have e : armsN d m = armsU d m mm := by
                    unfold armsN
                    rw [if_neg (fun h => h0 (by rw [h]; rfl)), HM.out]
                  rw [e]
                  exact HOA.out.low (by have := HLT.out; have := HG0.out; omega))
                clear i3f HOA
                have HXE : Hid (stA (stepN d k m) (.slice P mm pc) = #[.string LB, .int .i64 1, .string ⟨#[]⟩, .slice P mm pc, .int .i64 (1 + (n9 : Int)), .string TB, .int .i64 0]) := keepHid (by rw [step1 HQ.out]; show #[_, _, _, _, _, _, _] = _; rw [HLB.out, HTT.out, HTB.out, HN9.out]; rfl)
                have HAX : Hid (OwnA wi w.heap.size (.slice P mm pc) mm (stepN d k m).arms) := keepHid (by rw [step1 HQ.out]; exact HOB.out)
                have e0 := HKI.out.cell 0; have e1 := HKI.out.cell 1; have e2 := HKI.out.cell 2; have e3 := HKI.out.cell 3; have e4 := HKI.out.cell 4; have e5 := HKI.out.cell 5; have e6 := HKI.out.cell 6
                simp at e0 e1 e2 e3 e4 e5 e6
                obtain ⟨w5, hw5⟩ : ∃ w5, (wi).alloc (.cells #[.string LB, .int .i64 1, .string ⟨#[]⟩, .slice P mm pc, .int .i64 (1 + (n9 : Int)), .string TB, .int .i64 0] 26) = w5 := ⟨_, rfl⟩
                have hB5 : Below wi.heap.size wi w5 := by rw [← hw5]; exact (Below.refl _ _).alloc (Nat.le_refl _) _
                have HK5 : Hid (Blk w5 wi.heap.size 26 (stA (stepN d k m) (.slice P mm pc))) := keepHid (by rw [HXE.out, ← hw5]; exact Blk.new _ _ _)
                have HA5 := keepHid (HAX.out.below hB5)
                have hbz : Below wq.heap.size wq w5 := (HB1.out.trans (HBI.out.mono (Nat.le_of_lt HLT.out))).trans (hB5.mono (by have := HBI.out.size; have := HLT.out; omega))
                have HO5 := keepHid (HO.out.below hbz)
                have HB5 := keepHid (HB.out.trans (hbz.mono HG0.out))
                have HG5 : Hid (w.heap.size ≤ w5.heap.size) := keepHid HB5.out.size
                clear hbz hB5 HAX HXE HO
                go_wp2_with (at_builtin; refine wpList_append_st rfl _ _ rfl w.heap.size (.slice B k cb) k (stepsU ds m k) (by rfl) HO5.out wi.heap.size (by rfl) (stepN d k m) (.slice P mm pc) mm HK5.out HA5.out (by omega) HG5.out ?_)
                intro G6 c6 w6 h6 _ _ h6b
                have HO6 := keepHid h6
                have HB6 := keepHid (HB5.out.trans h6b)
                clear h6 h6b HO5 HA5 HK5 hw5
                go_wp2
                go_roundw
                case rel => exact ⟨k + 1, some ⟨G6, 0, none⟩, c6, by omega, by go_num, rfl, keepHid (by rw [HNX.out]; exact HO6.out), HB6⟩
                case measure => simp [intOf]; omega
        · rw [show ((2 : Nat) : Int) = 2 from rfl] at *

          have fw3 := HKS.out.frozen 5
          have ccw3 := HKS.out.cell 5
          simp at ccw3
          obtain ⟨w3, hhw3⟩ : ∃ z, (wc).setCell ⟨w1.heap.size, 5, none⟩ (.string TB) = z := ⟨_, rfl⟩
          have HK3 : Hid (Blk w3 w1.heap.size 26 #[.string LB, .int .i64 2, .string ⟨#[]⟩, .slice none 0 0, .int .i64 0, .string TB, .int .i64 0]) := keepHid (by rw [← hhw3]; exact HKS.out.put 5 _)
          have HB3 : Hid (Below w1.heap.size w1 w3) := keepHid (by rw [← hhw3]; exact HBS.out.setCell (p := ⟨w1.heap.size, 5, none⟩) (Nat.le_refl _) _)

          have HXE : Hid (stA (stepN d k m) (.slice none 0 0) = #[.string LB, .int .i64 2, .string ⟨#[]⟩, .slice none 0 0, .int .i64 0, .string TB, .int .i64 0]) := keepHid (by rw [step2 HQ.out]; show #[_, _, _, _, _, _, _] = _; rw [HLB.out, HTT.out, HTB.out]; rfl)
          have HAX : Hid (OwnA w3 w.heap.size (.slice none 0 0) 0 (stepN d k m).arms) := keepHid (by rw [step2 HQ.out]; exact OwnA.nil _ _)
          have e0 := HK3.out.cell 0; have e1 := HK3.out.cell 1; have e2 := HK3.out.cell 2; have e3 := HK3.out.cell 3; have e4 := HK3.out.cell 4; have e5 := HK3.out.cell 5; have e6 := HK3.out.cell 6
          simp at e0 e1 e2 e3 e4 e5 e6
          obtain ⟨w5, hw5⟩ : ∃ w5, (w3).alloc (.cells #[.string LB, .int .i64 2, .string ⟨#[]⟩, .slice none 0 0, .int .i64 0, .string TB, .int .i64 0] 26) = w5 := ⟨_, rfl⟩
          have hB5 : Below w3.heap.size w3 w5 := by rw [← hw5]; exact (Below.refl _ _).alloc (Nat.le_refl _) _
          have HK5 : Hid (Blk w5 w3.heap.size 26 (stA (stepN d k m) (.slice none 0 0))) := keepHid (by rw [HXE.out, ← hw5]; exact Blk.new _ _ _)
          have HA5 := keepHid (HAX.out.below hB5)
          have hbz : Below wq.heap.size wq w5 := (HB1.out.trans (HB3.out.mono (Nat.le_of_lt HLT.out))).trans (hB5.mono (by have := HB3.out.size; have := HLT.out; omega))
          have HO5 := keepHid (HO.out.below hbz)
          have HB5 := keepHid (HB.out.trans (hbz.mono HG0.out))
          have HG5 : Hid (w.heap.size ≤ w5.heap.size) := keepHid HB5.out.size
          clear hbz hB5 HAX HXE HO
          go_wp2_with (at_builtin; refine wpList_append_st rfl _ _ rfl w.heap.size (.slice B k cb) k (stepsU ds m k) (by rfl) HO5.out w3.heap.size (by rfl) (stepN d k m) (.slice none 0 0) 0 HK5.out HA5.out (by omega) HG5.out ?_)
          intro G6 c6 w6 h6 _ _ h6b
          have HO6 := keepHid h6
          have HB6 := keepHid (HB5.out.trans h6b)
          clear h6 h6b HO5 HA5 HK5 hw5
          go_wp2
          go_roundw
          case rel => exact ⟨k + 1, some ⟨G6, 0, none⟩, c6, by omega, by go_num, rfl, keepHid (by rw [HNX.out]; exact HO6.out), HB6⟩
          case measure => simp [intOf]; omega
        · obtain ⟨n9, hn9⟩ : ∃ r, d.nn % 9 = r := ⟨_, rfl⟩
          have HN9 := keepHid hn9
          have n1 : (d.nn : Int) % 9 = (n9 : Int) := by omega
          have n2 : Int.tmod (d.nn : Int) 9 = (n9 : Int) := by rw [Int.tmod_eq_emod_of_nonneg (by omega)]; exact n1
          have n3 : IntKind.u8.wrap (n9 : Int) = (n9 : Int) := by unfold IntKind.wrap; simp [IntKind.signed, IntKind.bits]; omega
          have n4 : IntKind.i64.wrap (n9 : Int) = (n9 : Int) := by rw [IntKind.wrap_i64]; omega
          have n5 : IntKind.i64.wrap (1 + (n9 : Int)) = 1 + (n9 : Int) := by rw [IntKind.wrap_i64]; omega
          have g4 : wc.cell? ⟨wq.heap.size, 4, none⟩ = some (.int .u8 (d.nn : Int)) := HKA.out.cell 4
          clear hn9
          rw [show ((3 : Nat) : Int) = 3 from rfl] at *

          have fw2 := HKS.out.frozen 4
          have ccw2 := HKS.out.cell 4
          simp at ccw2
          obtain ⟨w2, hhw2⟩ : ∃ z, (wc).setCell ⟨w1.heap.size, 4, none⟩ (.int .i64 (1 + (n9 : Int))) = z := ⟨_, rfl⟩
          have HK2 : Hid (Blk w2 w1.heap.size 26 #[.string LB, .int .i64 3, .string ⟨#[]⟩, .slice none 0 0, .int .i64 (1 + (n9 : Int)), .string ⟨#[]⟩, .int .i64 0]) := keepHid (by rw [← hhw2]; exact HKS.out.put 4 _)
          have HB2 : Hid (Below w1.heap.size w1 w2) := keepHid (by rw [← hhw2]; exact HBS.out.setCell (p := ⟨w1.heap.size, 4, none⟩) (Nat.le_refl _) _)

          have fw3 := HK2.out.frozen 5
          have ccw3 := HK2.out.cell 5
          simp at ccw3
          obtain ⟨w3, hhw3⟩ : ∃ z, (w2).setCell ⟨w1.heap.size, 5, none⟩ (.string TB) = z := ⟨_, rfl⟩
          have HK3 : Hid (Blk w3 w1.heap.size 26 #[.string LB, .int .i64 3, .string ⟨#[]⟩, .slice none 0 0, .int .i64 (1 + (n9 : Int)), .string TB, .int .i64 0]) := keepHid (by rw [← hhw3]; exact HK2.out.put 5 _)
          have HB3 : Hid (Below w1.heap.size w1 w3) := keepHid (by rw [← hhw3]; exact HB2.out.setCell (p := ⟨w1.heap.size, 5, none⟩) (Nat.le_refl _) _)

          have HXE : Hid (stA (stepN d k m) (.slice none 0 0) = #[.string LB, .int .i64 3, .string ⟨#[]⟩, .slice none 0 0, .int .i64 (1 + (n9 : Int)), .string TB, .int .i64 0]) := keepHid (by rw [step3 HQ.out]; show #[_, _, _, _, _, _, _] = _; rw [HLB.out, HTT.out, HTB.out, HN9.out]; rfl)
          have HAX : Hid (OwnA w3 w.heap.size (.slice none 0 0) 0 (stepN d k m).arms) := keepHid (by rw [step3 HQ.out]; exact OwnA.nil _ _)
          have e0 := HK3.out.cell 0; have e1 := HK3.out.cell 1; have e2 := HK3.out.cell 2; have e3 := HK3.out.cell 3; have e4 := HK3.out.cell 4; have e5 := HK3.out.cell 5; have e6 := HK3.out.cell 6
          simp at e0 e1 e2 e3 e4 e5 e6
          obtain ⟨w5, hw5⟩ : ∃ w5, (w3).alloc (.cells #[.string LB, .int .i64 3, .string ⟨#[]⟩, .slice none 0 0, .int .i64 (1 + (n9 : Int)), .string TB, .int .i64 0] 26) = w5 := ⟨_, rfl⟩
          have hB5 : Below w3.heap.size w3 w5 := by rw [← hw5]; exact (Below.refl _ _).alloc (Nat.le_refl _) _
          have HK5 : Hid (Blk w5 w3.heap.size 26 (stA (stepN d k m) (.slice none 0 0))) := keepHid (by rw [HXE.out, ← hw5]; exact Blk.new _ _ _)
          have HA5 := keepHid (HAX.out.below hB5)
          have hbz : Below wq.heap.size wq w5 := (HB1.out.trans (HB3.out.mono (Nat.le_of_lt HLT.out))).trans (hB5.mono (by have := HB3.out.size; have := HLT.out; omega))
          have HO5 := keepHid (HO.out.below hbz)
          have HB5 := keepHid (HB.out.trans (hbz.mono HG0.out))
          have HG5 : Hid (w.heap.size ≤ w5.heap.size) := keepHid HB5.out.size
          clear hbz hB5 HAX HXE HO
          go_wp2_with (at_builtin; refine wpList_append_st rfl _ _ rfl w.heap.size (.slice B k cb) k (stepsU ds m k) (by rfl) HO5.out w3.heap.size (by rfl) (stepN d k m) (.slice none 0 0) 0 HK5.out HA5.out (by omega) HG5.out ?_)
          intro G6 c6 w6 h6 _ _ h6b
          have HO6 := keepHid h6
          have HB6 := keepHid (HB5.out.trans h6b)
          clear h6 h6b HO5 HA5 HK5 hw5
          go_wp2
          go_roundw
          case rel => exact ⟨k + 1, some ⟨G6, 0, none⟩, c6, by omega, by go_num, rfl, keepHid (by rw [HNX.out]; exact HO6.out), HB6⟩
          case measure => simp [intOf]; omega
        · rw [show ((4 : Nat) : Int) = 4 from rfl] at *

          have HXE : Hid (stA (stepN d k m) (.slice none 0 0) = #[.string LB, .int .i64 4, .string ⟨#[]⟩, .slice none 0 0, .int .i64 0, .string ⟨#[]⟩, .int .i64 0]) := keepHid (by rw [step4 HQ.out]; show #[_, _, _, _, _, _, _] = _; rw [HLB.out]; rfl)
          have HAX : Hid (OwnA wc w.heap.size (.slice none 0 0) 0 (stepN d k m).arms) := keepHid (by rw [step4 HQ.out]; exact OwnA.nil _ _)
          have e0 := HKS.out.cell 0; have e1 := HKS.out.cell 1; have e2 := HKS.out.cell 2; have e3 := HKS.out.cell 3; have e4 := HKS.out.cell 4; have e5 := HKS.out.cell 5; have e6 := HKS.out.cell 6
          simp at e0 e1 e2 e3 e4 e5 e6
          obtain ⟨w5, hw5⟩ : ∃ w5, (wc).alloc (.cells #[.string LB, .int .i64 4, .string ⟨#[]⟩, .slice none 0 0, .int .i64 0, .string ⟨#[]⟩, .int .i64 0] 26) = w5 := ⟨_, rfl⟩
          have hB5 : Below wc.heap.size wc w5 := by rw [← hw5]; exact (Below.refl _ _).alloc (Nat.le_refl _) _
          have HK5 : Hid (Blk w5 wc.heap.size 26 (stA (stepN d k m) (.slice none 0 0))) := keepHid (by rw [HXE.out, ← hw5]; exact Blk.new _ _ _)
          have HA5 := keepHid (HAX.out.below hB5)
          have hbz : Below wq.heap.size wq w5 := (HB1.out.trans (HBS.out.mono (Nat.le_of_lt HLT.out))).trans (hB5.mono (by have := HBS.out.size; have := HLT.out; omega))
          have HO5 := keepHid (HO.out.below hbz)
          have HB5 := keepHid (HB.out.trans (hbz.mono HG0.out))
          have HG5 : Hid (w.heap.size ≤ w5.heap.size) := keepHid HB5.out.size
          clear hbz hB5 HAX HXE HO
          go_wp2_with (at_builtin; refine wpList_append_st rfl _ _ rfl w.heap.size (.slice B k cb) k (stepsU ds m k) (by rfl) HO5.out wc.heap.size (by rfl) (stepN d k m) (.slice none 0 0) 0 HK5.out HA5.out (by omega) HG5.out ?_)
          intro G6 c6 w6 h6 _ _ h6b
          have HO6 := keepHid h6
          have HB6 := keepHid (HB5.out.trans h6b)
          clear h6 h6b HO5 HA5 HK5 hw5
          go_wp2
          go_roundw
          case rel => exact ⟨k + 1, some ⟨G6, 0, none⟩, c6, by omega, by go_num, rfl, keepHid (by rw [HNX.out]; exact HO6.out), HB6⟩
          case measure => simp [intOf]; omega
        · rw [show ((5 : Nat) : Int) = 5 from rfl] at *

          have HXE : Hid (stA (stepN d k m) (.slice none 0 0) = #[.string LB, .int .i64 5, .string ⟨#[]⟩, .slice none 0 0, .int .i64 0, .string ⟨#[]⟩, .int .i64 0]) := keepHid (by rw [step5 HQ.out]; show #[_, _, _, _, _, _, _] = _; rw [HLB.out]; rfl)
          have HAX : Hid (OwnA wc w.heap.size (.slice none 0 0) 0 (stepN d k m).arms) := keepHid (by rw [step5 HQ.out]; exact OwnA.nil _ _)
          have e0 := HKS.out.cell 0; have e1 := HKS.out.cell 1; have e2 := HKS.out.cell 2; have e3 := HKS.out.cell 3; have e4 := HKS.out.cell 4; have e5 := HKS.out.cell 5; have e6 := HKS.out.cell 6
          simp at e0 e1 e2 e3 e4 e5 e6
          obtain ⟨w5, hw5⟩ : ∃ w5, (wc).alloc (.cells #[.string LB, .int .i64 5, .string ⟨#[]⟩, .slice none 0 0, .int .i64 0, .string ⟨#[]⟩, .int .i64 0] 26) = w5 := ⟨_, rfl⟩
          have hB5 : Below wc.heap.size wc w5 := by rw [← hw5]; exact (Below.refl _ _).alloc (Nat.le_refl _) _
          have HK5 : Hid (Blk w5 wc.heap.size 26 (stA (stepN d k m) (.slice none 0 0))) := keepHid (by rw [HXE.out, ← hw5]; exact Blk.new _ _ _)
          have HA5 := keepHid (HAX.out.below hB5)
          have hbz : Below wq.heap.size wq w5 := (HB1.out.trans (HBS.out.mono (Nat.le_of_lt HLT.out))).trans (hB5.mono (by have := HBS.out.size; have := HLT.out; omega))
          have HO5 := keepHid (HO.out.below hbz)
          have HB5 := keepHid (HB.out.trans (hbz.mono HG0.out))
          have HG5 : Hid (w.heap.size ≤ w5.heap.size) := keepHid HB5.out.size
          clear hbz hB5 HAX HXE HO
          go_wp2_with (at_builtin; refine wpList_append_st rfl _ _ rfl w.heap.size (.slice B k cb) k (stepsU ds m k) (by rfl) HO5.out wc.heap.size (by rfl) (stepN d k m) (.slice none 0 0) 0 HK5.out HA5.out (by omega) HG5.out ?_)
          intro G6 c6 w6 h6 _ _ h6b
          have HO6 := keepHid h6
          have HB6 := keepHid (HB5.out.trans h6b)
          clear h6 h6b HO5 HA5 HK5 hw5
          go_wp2
          go_roundw
          case rel => exact ⟨k + 1, some ⟨G6, 0, none⟩, c6, by omega, by go_num, rfl, keepHid (by rw [HNX.out]; exact HO6.out), HB6⟩
          case measure => simp [intOf]; omega
    · obtain rfl : k = m := by omega
      go_wp2
      go_ret
      exact ⟨⟨B, k, cb, rfl, by rw [HSN.out]; exact HO.out⟩, HB.out⟩

section
open Go.ChangeShapes Go.WideShapes Go.Deep
section
variable {H : Type} {enc : TypeId × Value → H} {P : Program} {W : World} {base : Nat} {held : Bool}
theorem rows_trod {t s e : TypeId} {fuel : Nat} {cs : List Value} {x : DataW H × List MemPlace} (ht : P.underlying t = some (.slice s)) (hs : P.underlying s = some (.slice e)) (he : P.underlying e = some (.int .u8)) (hc : P.cellsOf e = 1) (hcs : P.cellsOf s = 1)
    (h : DataW.trod enc P W base (fun _ => true) held fuel t cs = some x) :
    ∃ A n c rows, cs = [.slice A n c] ∧ RowsB W A n rows ∧ n ≤ 9223372036854775807 := by
  rcases open_slice1 ht hcs h with ⟨hcs', hx⟩ | ⟨a, len, cap, m, n, V, D, Pl, hcs', hb, hl, hm, hmm, hx, hi⟩
  · exact ⟨none, 0, 0, [], hcs', ⟨rfl, fun k bs h => by simp at h⟩, Nat.zero_le _⟩
  · simp only [if_true] at hmm
    subst hmm
    obtain ⟨rows, hr1, hr2⟩ := choose_list (α := List UInt8) (p := fun k bs => ∃ Ak ck, W.cell? (a.add k) = some (.slice Ak bs.length ck) ∧ bs.length ≤ ck ∧ ck ≤ 9223372036854775807 ∧ Bys W W.heap.size Ak bs.length bs) len (fun k hk => by
      obtain ⟨h1, h2⟩ := hi k (by omega)
      obtain ⟨A, n', c', bs, hv, hb, hnc, hcm, hsz⟩ := bys_trod hs he hc h2
      have hV : V k = .slice A n' c' := by simpa using hv
      rw [hV] at h1
      have hlen := hb.len
      exact ⟨bs, A, c', by rw [hlen]; exact h1, by omega, hcm, by rw [hlen]; exact hb⟩)
    refine ⟨some a, len, _, rows, hcs', ⟨hr1, fun k bs hk => ?_⟩, by unfold maxLen at hm; omega⟩
    obtain ⟨Ak, ck, h1, h2, h3, h4⟩ := hr2 k bs hk
    exact ⟨a, Ak, ck, rfl, by have := World.block_lt_of_cell? _ _ h1; rwa [ad_block] at this, h1, h2, h3, h4⟩
theorem trod_struct6 {spare : Nat → Bool} {t : TypeId} {f0 f1 f2 f3 f4 f5 : Field} {fuel : Nat} {cs : List Value} {x : DataW H × List MemPlace} (ht : P.underlying t = some (.struct #[f0, f1, f2, f3, f4, f5])) (h : DataW.trod enc P W base spare held fuel t cs = some x) :
    ∃ y0 y1 y2 y3 y4 y5 n, cs.length = P.cellsOf t ∧ DataW.trod enc P W base spare held n f0.type ((cs.drop f0.offset).take (P.cellsOf f0.type)) = some y0 ∧
      DataW.trod enc P W base spare held n f1.type ((cs.drop f1.offset).take (P.cellsOf f1.type)) = some y1 ∧ DataW.trod enc P W base spare held n f2.type ((cs.drop f2.offset).take (P.cellsOf f2.type)) = some y2 ∧
      DataW.trod enc P W base spare held n f3.type ((cs.drop f3.offset).take (P.cellsOf f3.type)) = some y3 ∧ DataW.trod enc P W base spare held n f4.type ((cs.drop f4.offset).take (P.cellsOf f4.type)) = some y4 ∧
      DataW.trod enc P W base spare held n f5.type ((cs.drop f5.offset).take (P.cellsOf f5.type)) = some y5 := by
  obtain ⟨xs, n, _, rfl, hl, hlen, hf⟩ := DataW.trod_struct ht h
  match xs, hlen with
  | [y0, y1, y2, y3, y4, y5], _ => exact ⟨y0, y1, y2, y3, y4, y5, n, hl, by simpa using hf 0 f0 rfl, by simpa using hf 1 f1 rfl, by simpa using hf 2 f2 rfl, by simpa using hf 3 f3 rfl, by simpa using hf 4 f4 rfl, by simpa using hf 5 f5 rfl⟩
theorem open_dact {b0 : Nat} {t t1 o b r s : TypeId} {f0 f1 f2 f3 f4 f5 : Field} {v : Value} {d : DataW H} {p : List MemPlace} (ht : P.underlying t = some (.slice t1)) (ht1 : P.underlying t1 = some (.struct #[f0, f1, f2, f3, f4, f5]))
    (h0 : f0.type = o ∧ f0.offset = 0) (h1 : f1.type = b ∧ f1.offset = 1) (h2 : f2.type = b ∧ f2.offset = 2) (h3 : f3.type = r ∧ f3.offset = 3) (h4 : f4.type = b ∧ f4.offset = 4) (h5 : f5.type = b ∧ f5.offset = 5)
    (ho : P.underlying o = some .bool) (hb : P.underlying b = some (.int .u8)) (hr : P.underlying r = some (.slice s)) (hs : P.underlying s = some (.slice b))
    (co : P.cellsOf o = 1) (cb : P.cellsOf b = 1) (cr : P.cellsOf r = 1) (cs' : P.cellsOf s = 1) (ct : P.cellsOf t1 = 6)
    (hv : Value.okWide P W .any b0 t v) (h : DataW.Trod enc P W base (fun _ => true) held t v d p) :
    ∃ A n c es, v = .slice A n c ∧ DctS W A n es ∧ n ≤ c ∧ c ≤ 9223372036854775807 := by
  obtain ⟨a0, len0, cap0, rfl⟩ := okWide_slice ht hv
  obtain ⟨fuel, hf⟩ := h
  rcases open_slice ht hf with ⟨hcs', hx⟩ | ⟨a, len, cap, m, n, D, Pl, hcs', hb', hl, hm, hmm, hx, hi'⟩
  · simp [Value.cells] at hcs'
    obtain ⟨rfl, rfl, rfl⟩ := hcs'
    exact ⟨none, 0, 0, [], rfl, ⟨rfl, fun k e h => by simp at h⟩, Nat.le_refl _, Nat.zero_le _⟩
  · simp [Value.cells] at hcs'
    obtain ⟨rfl, rfl, rfl⟩ := hcs'
    simp only [if_true] at hmm
    subst hmm
    rw [ct] at hi'
    obtain ⟨rows, hr1, hr2⟩ := choose_list (α := Dc) (p := fun k e => ∃ Ap cp, a.block < W.heap.size ∧ (∀ j z, (dcL e (.slice Ap e.pats.length cp))[j]? = some z → W.cell? (a.add (k * 6 + j)) = some z) ∧ DcF e ∧ RowsB W Ap e.pats.length e.pats) len0 (fun j0 hj0 => by
      obtain ⟨cs, h3', h4'⟩ := hi' j0 (by omega)
      obtain ⟨_, hcl, hat⟩ := World.cells?_some h3'
      obtain ⟨y0, y1, y2, y3, y4, y5, n', _, t0, t1', t2, t3, t4, t5⟩ := trod_struct6 ht1 h4'
      rw [h0.1, h0.2, co] at t0
      rw [h1.1, h1.2, cb] at t1'
      rw [h2.1, h2.2, cb] at t2
      rw [h3.1, h3.2, cr] at t3
      rw [h4.1, h4.2, cb] at t4
      rw [h5.1, h5.2, cb] at t5
      match cs, hcl with
      | [c0, c1, c2, c3, c4, c5], _ =>
        obtain ⟨z0, q0, _⟩ := DataW.trod_bool ho t0
        obtain ⟨z1, q1, _, r1⟩ := DataW.trod_int hb t1'
        obtain ⟨z2, q2, _, r2⟩ := DataW.trod_int hb t2
        obtain ⟨Ap, np, cp, ps, q3, hR, hnp⟩ := rows_trod hr hs hb cb cs' t3
        obtain ⟨z4, q4, _, r4⟩ := DataW.trod_int hb t4
        obtain ⟨z5, q5, _, r5⟩ := DataW.trod_int hb t5
        have e0 : c0 = .bool z0 := by simpa using q0
        have e1 : c1 = .int .u8 z1 := by simpa using q1
        have e2 : c2 = .int .u8 z2 := by simpa using q2
        have e3 : c3 = .slice Ap np cp := by simpa using q3
        have e4 : c4 = .int .u8 z4 := by simpa using q4
        have e5 : c5 = .int .u8 z5 := by simpa using q5
        subst e0 e1 e2 e3 e4 e5
        obtain ⟨m1, rfl⟩ : ∃ m : Nat, z1 = (m : Int) := ⟨z1.toNat, by have := wf_u8 r1; omega⟩
        obtain ⟨m2, rfl⟩ : ∃ m : Nat, z2 = (m : Int) := ⟨z2.toNat, by have := wf_u8 r2; omega⟩
        obtain ⟨m4, rfl⟩ : ∃ m : Nat, z4 = (m : Int) := ⟨z4.toNat, by have := wf_u8 r4; omega⟩
        obtain ⟨m5, rfl⟩ : ∃ m : Nat, z5 = (m : Int) := ⟨z5.toNat, by have := wf_u8 r5; omega⟩
        obtain rfl : ps.length = np := hR.1
        have hc : ∀ j z, (dcL ⟨z0, m1, m2, ps, m4, m5⟩ (.slice Ap ps.length cp))[j]? = some z → W.cell? (a.add (j0 * 6 + j)) = some z := fun j z hz => by
          have hj : j < 6 := (List.getElem?_eq_some_iff.1 hz).1
          have := hat j (by omega)
          rw [ad_add] at this
          rw [this, ← hz]
          rfl
        refine ⟨⟨z0, m1, m2, ps, m4, m5⟩, Ap, cp, ?_, hc, ⟨by have := wf_u8 r1; show m1 ≤ _; omega, by have := wf_u8 r2; show m2 ≤ _; omega, by have := wf_u8 r4; show m4 ≤ _; omega, by have := wf_u8 r5; show m5 ≤ _; omega, hnp⟩, hR⟩
        have := World.block_lt_of_cell? _ _ (hc 0 _ rfl)
        rwa [ad_block] at this)
    refine ⟨some a, len0, _, rows, rfl, ⟨hr1, fun k e hk => ?_⟩, hl, by unfold maxLen at hm; omega⟩
    obtain ⟨Ap, cp, g1, g2, g3, g4⟩ := hr2 k e hk
    exact ⟨a, Ap, cp, rfl, g1, g2, g3, g4⟩
end

end

theorem quo_prn : ∀ (l : List UInt8), l.all prn = true → ∃ q, quoL l = some q
  | [], _ => ⟨[], rfl⟩
  | c :: r, h => by
    rw [List.all_cons, Bool.and_eq_true] at h
    obtain ⟨q, hq⟩ := quo_prn r h.2
    cases hx : qe c with
    | some e =>
      have h1 : quo1 c = some [92, e] := by unfold quo1; rw [hx]
      exact ⟨[92, e] ++ q, by simp only [quoL, h1, hq, Option.map_some]⟩
    | none =>
      have h1 : quo1 c = some [c] := by unfold quo1; rw [hx]; simp only; rw [if_pos h.1]
      exact ⟨[c] ++ q, by simp only [quoL, h1, hq, Option.map_some]⟩
theorem prn3 (n : Nat) : prn (UInt8.ofNat (97 + n % 3)) = true := by
  have h : n % 3 < 3 := Nat.mod_lt _ (by omega)
  rcases (by omega : n % 3 = 0 ∨ n % 3 = 1 ∨ n % 3 = 2) with e | e | e <;> rw [e] <;> decide
theorem bld_prn : ∀ (d : Nat) (ns : List UInt8), (bldL d ns).1.all prn = true
  | d, [] => by cases d <;> rfl
  | 0, n :: ns => by
    have e : (bldL 0 (n :: ns)).1 = [UInt8.ofNat (97 + n.toNat % 3)] := by unfold bldL; rfl
    rw [e, List.all_cons, prn3]; rfl
  | d + 1, n :: ns => by
    have h1 := bld_prn d ns
    have h2 := bld_prn d (bldL d ns).2.2
    unfold bldL
    (repeat' split) <;> first | (simp only [List.all_append, h1, h2]; decide) | decide
theorem lab_isw {k : Nat} (hk : k < 12) : IsW (labN k) := ⟨115, [UInt8.ofNat (97 + k)], rfl, by decide, fun b hb => by
  obtain rfl : b = UInt8.ofNat (97 + k) := by simpa using hb
  rcases (by omega : k = 0 ∨ k = 1 ∨ k = 2 ∨ k = 3 ∨ k = 4 ∨ k = 5 ∨ k = 6 ∨ k = 7 ∨ k = 8 ∨ k = 9 ∨ k = 10 ∨ k = 11) with rfl | rfl | rfl | rfl | rfl | rfl | rfl | rfl | rfl | rfl | rfl | rfl <;> decide⟩
theorem lab_two (k : Nat) : (labN k).length = 2 := rfl
theorem txt_quo (k : Nat) (hk : k < 5) : (∃ q, quoL (txtN k) = some q) ∧ (txtN k).length ≤ 6 := by
  rcases (by omega : k = 0 ∨ k = 1 ∨ k = 2 ∨ k = 3 ∨ k = 4) with rfl | rfl | rfl | rfl | rfl
  · exact ⟨⟨_, rfl⟩, by decide⟩
  · exact ⟨⟨_, rfl⟩, by decide⟩
  · exact ⟨⟨_, rfl⟩, by decide⟩
  · exact ⟨⟨_, rfl⟩, by decide⟩
  · exact ⟨⟨_, rfl⟩, by decide⟩
theorem arm_good (d : Dc) {n : Nat} (h0 : 0 < n) (hn : n ≤ 12) (i : Nat) (p : List UInt8) : ArB 100 (armN d n i p) := by
  have hl : (bldL 2 p).1.length ≤ 64 := Nat.le_trans (bld_len 2 p) (by decide)
  have hm := Nat.mod_lt (d.tg + i) h0
  refine ⟨⟨quo_prn _ ?_, lab_isw (by omega)⟩, ?_, by show 2 ≤ 100; omega⟩
  · show (98 :: (bldL 2 p).1).all prn = true
    rw [List.all_cons, bld_prn]; decide
  · show (98 :: (bldL 2 p).1).length ≤ 100
    rw [List.length_cons]; omega
theorem armsU_good (d : Dc) {n : Nat} (h0 : 0 < n) (hn : n ≤ 12) : ∀ j, (∀ a ∈ armsU d n j, ArB 100 a) ∧ (armsU d n j).length ≤ j
  | 0 => ⟨fun a h => (by cases h), Nat.le_refl _⟩
  | j + 1 => by
    obtain ⟨h1, h2⟩ := armsU_good d h0 hn j
    cases hp : d.pats[j]? with
    | none =>
      have e : armsU d n (j + 1) = armsU d n j := by simp [armsU, hp]
      rw [e]
      exact ⟨h1, by omega⟩
    | some p =>
      rw [arms_next hp]
      refine ⟨fun a ha => ?_, by rw [List.length_append]; show _ + 1 ≤ _; omega⟩
      rcases List.mem_append.1 ha with ha | ha
      · exact h1 a ha
      · obtain rfl : a = armN d n j p := by simpa using ha
        exact arm_good d h0 hn j p
theorem armsN_good (d : Dc) {n : Nat} (h0 : 0 < n) (hn : n ≤ 12) : (∀ a ∈ armsN d n, ArB 100 a) ∧ armsN d n ≠ [] ∧ (armsN d n).length ≤ 3 := by
  unfold armsN
  by_cases hp : d.pats = []
  · rw [if_pos hp]
    have hm := Nat.mod_lt d.tg h0
    refine ⟨fun a ha => ?_, by simp, by simp⟩
    obtain rfl : a = ⟨[61, 62, 32], labN (d.tg % n)⟩ := by simpa using ha
    exact ⟨⟨⟨_, rfl⟩, lab_isw (by omega)⟩, by show 3 ≤ 100; omega, by show 2 ≤ 100; omega⟩
  · rw [if_neg hp]
    obtain ⟨h1, h2⟩ := armsU_good d h0 hn (min d.pats.length 3)
    refine ⟨h1, ?_, by omega⟩
    have hl : 0 < d.pats.length := List.length_pos_iff.2 hp
    obtain ⟨j, hj⟩ : ∃ j, min d.pats.length 3 = j + 1 := ⟨min d.pats.length 3 - 1, by omega⟩
    obtain ⟨p, hpj⟩ : ∃ p, d.pats[j]? = some p := ⟨_, List.getElem?_eq_getElem (by omega)⟩
    rw [hj, arms_next hpj]
    simp
theorem step_good (d : Dc) {k n : Nat} (hk : k < n) (hn : n ≤ 12) : SpB 100 (stepN d k n) := by
  have hl : labN k = [] ∨ IsW (labN k) := .inr (lab_isw (by omega))
  have ht : IsW (labN (d.tg % n)) := lab_isw (by have := Nat.mod_lt d.tg (show 0 < n by omega); omega)
  have h2 : (2 : Nat) ≤ 100 := by omega
  have h00 : (0 : Nat) ≤ 100 := by omega
  have hz : (0 : Nat) ≤ 102 := by omega
  have hno : ∀ a ∈ ([] : List Ar), ArB 100 a := fun a h => (by cases h)
  have h6 : d.kd % 6 < 6 := Nat.mod_lt _ (by omega)
  rcases (by omega : d.kd % 6 = 0 ∨ d.kd % 6 = 1 ∨ d.kd % 6 = 2 ∨ d.kd % 6 = 3 ∨ d.kd % 6 = 4 ∨ d.kd % 6 = 5) with h | h | h | h | h | h
  · obtain ⟨h7, h8⟩ := txt_quo (d.tx % 5) (Nat.mod_lt _ (by omega))
    rw [step0 h]
    exact ⟨tell0 hl h7, h2, (show (txtN (d.tx % 5)).length ≤ 100 by omega), hno, hz, h00⟩
  · obtain ⟨h7, h8, h9⟩ := armsN_good d (show 0 < n by omega) hn
    rw [step1 h]
    exact ⟨tell1 hl h8 (fun a ha => (h7 a ha).1) (by omega) ht, h2, h00, h7, (show (armsN d n).length ≤ 102 by omega), h2⟩
  · rw [step2 h]
    exact ⟨tell2 hl ht, h2, h00, hno, hz, h2⟩
  · rw [step3 h]
    exact ⟨tell3 hl (by omega) ht, h2, h00, hno, hz, h2⟩
  · rw [step4 h]
    exact ⟨tell4 hl (.inl rfl), h2, h00, hno, hz, h00⟩
  · rw [step5 h]
    exact ⟨tell4 hl (.inr rfl), h2, h00, hno, hz, h00⟩
theorem stepsU_good (ds : List Dc) {n : Nat} (hn : n ≤ 12) : ∀ k, k ≤ n → (∀ x ∈ stepsU ds n k, SpB 100 x) ∧ (stepsU ds n k).length ≤ k
  | 0, _ => ⟨fun a h => (by cases h), Nat.le_refl _⟩
  | k + 1, hk => by
    obtain ⟨h1, h2⟩ := stepsU_good ds hn k (by omega)
    cases hp : ds[k]? with
    | none =>
      have e : stepsU ds n (k + 1) = stepsU ds n k := by simp [stepsU, hp]
      rw [e]
      exact ⟨h1, by omega⟩
    | some d =>
      rw [steps_next hp]
      refine ⟨fun a ha => ?_, by rw [List.length_append]; show _ + 1 ≤ _; omega⟩
      rcases List.mem_append.1 ha with ha | ha
      · exact h1 a ha
      · obtain rfl : a = stepN d k n := by simpa using ha
        exact step_good d (by omega) hn
theorem stepsN_good (ds : List Dc) : (∀ x ∈ stepsN ds, SpB 100 x) ∧ (stepsN ds).length ≤ 12 := by
  have := stepsU_good ds (n := min ds.length 12) (by omega) (min ds.length 12) (Nat.le_refl _)
  exact ⟨this.1, by have := this.2; unfold stepsN; omega⟩
end Go.Proofs.YtgndcgknedmalaaGreatDoor
