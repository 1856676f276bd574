/-
  How often a sender has sent each block, plain.
-/
import Derived.Test.YtdhipkfiigiicaaSenderPlain
namespace Go.Proofs.Ytdhipkfiigiicaa
set_option linter.unusedVariables false

/-- What a step answers, of a sender whose blocks all have encodings: few bytes, or the block where it is, one time more. -/
def Stp (bl : Bks) (T : Nat) (s : Sd) (r : List UInt8 × Sd) : Prop :=
  (r.1.length < 3 ∧ (r.2.ph = 1 → s.ph = 1 ∧ r.2.k = s.k ∧ r.2.tries = s.tries) ∧ (r.2.ph = 0 → s.ph = 0)) ∨
  (∃ num d, bl[r.2.k]? = some (num, d) ∧ r.1 = enc num d r.2.crc ∧ r.2.ph = 1 ∧
    ((s.ph = 1 ∧ r.2.k = s.k ∧ r.2.tries = s.tries + 1 ∧ r.2.tries ≤ T) ∨ ((s.ph = 0 ∧ r.2.k = s.k ∨ s.ph = 1 ∧ r.2.k = s.k + 1) ∧ r.2.tries = 1)))
theorem send_one {bl : Bks} {s : Sd} (ho : ∀ (j : Nat) (p : UInt8 × List UInt8), bl[j]? = some p → encOk p.2 = true) (h1 : s.ph = 1) (hk : s.k < bl.length) :
    ∃ num d, bl[s.k]? = some (num, d) ∧ sendS bl s = (enc num d s.crc, s) := by
  obtain ⟨p, hp⟩ : ∃ p, bl[s.k]? = some p := ⟨_, List.getElem?_eq_getElem hk⟩
  obtain ⟨num, d⟩ := p
  refine ⟨num, d, hp, ?_⟩
  unfold sendS
  rw [if_pos h1, hp]
  simp [ho _ _ hp]
theorem send_few {bl : Bks} {s : Sd} (h1 : s.ph ≠ 1) : (sendS bl s).1.length < 3 ∧ (sendS bl s).2 = s := by
  unfold sendS
  rw [if_neg h1]
  split <;> simp
theorem stp_go {bl : Bks} {T W : Nat} {cl : Bool} {s s0 : Sd} (ho : ∀ (j : Nat) (p : UInt8 × List UInt8), bl[j]? = some p → encOk p.2 = true) (hk : s0.ph = 0 ∧ s.k = s0.k ∨ s0.ph = 1 ∧ s.k = s0.k + 1 ∨ s0.ph = 2 ∧ bl.length ≤ s.k) : Stp bl T s0 (goS bl W cl s) := by
  unfold goS
  split
  · rename_i h
    obtain ⟨num, d, h2, h3⟩ := send_one (s := { s with ph := 1, tries := 1, wait := W }) ho rfl h
    rw [h3]
    refine .inr ⟨num, d, h2, rfl, rfl, .inr ⟨?_, rfl⟩⟩
    rcases hk with hk | hk | hk
    · exact .inl hk
    · exact .inr hk
    · omega
  · split
    · exact .inl ⟨by simp, by simp, by simp⟩
    · exact .inl ⟨by simp, by simp, by simp⟩
theorem stp_again {bl : Bks} {T W : Nat} {s s0 : Sd} (ho : ∀ (j : Nat) (p : UInt8 × List UInt8), bl[j]? = some p → encOk p.2 = true) (h : s.ph = s0.ph ∧ s.k = s0.k ∧ s.tries = s0.tries) (h1 : s0.ph = 1 → s0.k < bl.length) : Stp bl T s0 (againS bl T W s) := by
  unfold againS
  split
  · exact .inl ⟨by simp, by simp, by simp⟩
  · rename_i ht
    by_cases hp : s.ph = 1
    · obtain ⟨num, d, h2, h3⟩ := send_one (s := { s with tries := s.tries + 1, wait := W }) ho hp (by have := h1 (by omega); simp; omega)
      rw [h3]
      exact .inr ⟨num, d, h2, rfl, hp, .inl ⟨by omega, h.2.1, by simp; omega, by simp; omega⟩⟩
    · obtain ⟨h2, h3⟩ := send_few (bl := bl) (s := { s with tries := s.tries + 1, wait := W }) hp
      rw [← Prod.eta (sendS bl { s with tries := s.tries + 1, wait := W }), h3]
      exact .inl ⟨h2, fun hh => absurd hh hp, fun hh => by rw [← h.1]; exact hh⟩
theorem stp_put {bl : Bks} {T W : Nat} {cl : Bool} {s : Sd} (ho : ∀ (j : Nat) (p : UInt8 × List UInt8), bl[j]? = some p → encOk p.2 = true) (ok : Ok bl T W s) (hend : s.ph = 2 → bl.length ≤ s.k) (c : UInt8) : Stp bl T s (putS bl T W cl s c) := by
  have few : ∀ b, Stp bl T s ([], { s with can := b }) := fun b => .inl ⟨by simp, fun h => ⟨h, rfl, rfl⟩, fun h => h⟩
  unfold putS
  split
  · exact few _
  split
  · exact .inl ⟨by simp, by simp, by simp⟩
  split
  · rename_i h0
    split
    · exact stp_go ho (.inl ⟨h0, rfl⟩)
    · exact few _
  rename_i h3 _ h0
  split
  · refine stp_go ho ?_
    by_cases h1 : s.ph = 1
    · exact .inr (.inl ⟨h1, by simp [h1]⟩)
    · have h2 : s.ph = 2 := by have := ok.ph; omega
      exact .inr (.inr ⟨h2, by simp [h1]; exact hend h2⟩)
  split
  · exact stp_again ho ⟨rfl, rfl, rfl⟩ ok.one
  · exact few _
theorem stp_tick {bl : Bks} {T W : Nat} {s : Sd} (ho : ∀ (j : Nat) (p : UInt8 × List UInt8), bl[j]? = some p → encOk p.2 = true) (ok : Ok bl T W s) : Stp bl T s (tickS bl T W s) := by
  unfold tickS
  split
  · exact .inl ⟨by simp, fun h => ⟨h, rfl, rfl⟩, fun h => h⟩
  split
  · exact .inl ⟨by simp, fun h => ⟨h, rfl, rfl⟩, fun h => h⟩
  · exact stp_again ho ⟨rfl, rfl, rfl⟩ ok.one
/-- At the end all blocks were taken. -/
theorem end_go {bl : Bks} {W : Nat} {cl : Bool} {s : Sd} (h : (goS bl W cl s).2.ph = 2) : bl.length ≤ (goS bl W cl s).2.k := by
  unfold goS at h ⊢
  split
  · rename_i hk
    rw [if_pos hk] at h
    exfalso
    unfold sendS at h
    rw [if_pos rfl] at h
    simp only at h
    split at h
    · split at h <;> simp at h
    · simp at h
  · rename_i hk
    rw [if_neg hk] at h
    split
    · simp; omega
    · rename_i hc
      rw [if_neg hc] at h
      simp at h
theorem end_send {bl : Bks} {s : Sd} (h : (sendS bl s).2.ph = 2) : (sendS bl s).2.k = s.k ∧ s.ph = 2 := by
  unfold sendS at h ⊢
  split
  · rename_i h1
    rw [if_pos h1] at h
    split
    · rename_i p hp
      rw [hp] at h
      simp only at h
      split at h
      · simp only at h; omega
      · simp at h
    · rename_i hp
      rw [hp] at h
      simp only at h; omega
  · rename_i h1
    rw [if_neg h1] at h
    split
    · rename_i h2; exact ⟨rfl, h2⟩
    · rename_i h2; rw [if_neg h2] at h; exact absurd h h2
theorem end_again {bl : Bks} {T W : Nat} {s : Sd} (h : (againS bl T W s).2.ph = 2) : (againS bl T W s).2.k = s.k ∧ s.ph = 2 := by
  unfold againS at h ⊢
  split
  · rename_i h1; rw [if_pos h1] at h; simp at h
  · rename_i h1; rw [if_neg h1] at h; exact end_send h
theorem end_put {bl : Bks} {T W : Nat} {cl : Bool} {s : Sd} (he : s.ph = 2 → bl.length ≤ s.k) (c : UInt8) (h : (putS bl T W cl s c).2.ph = 2) : bl.length ≤ (putS bl T W cl s c).2.k := by
  unfold putS at h ⊢
  by_cases h3 : s.ph = 3
  · rw [if_pos h3] at h ⊢; simp only at h; omega
  rw [if_neg h3] at h ⊢
  by_cases hc : s.can = true ∧ c = 24
  · rw [if_pos hc] at h; simp at h
  rw [if_neg hc] at h ⊢
  by_cases h0 : s.ph = 0
  · rw [if_pos h0] at h ⊢
    split
    · rename_i h1; rw [if_pos h1] at h; exact end_go h
    · rename_i h1; rw [if_neg h1] at h; exact he h
  rw [if_neg h0] at h ⊢
  by_cases h6 : c = 6
  · rw [if_pos h6] at h ⊢; exact end_go h
  rw [if_neg h6] at h ⊢
  split
  · rename_i h1
    rw [if_pos h1] at h
    obtain ⟨e1, e2⟩ := end_again h
    rw [e1]
    exact he e2
  · rename_i h1; rw [if_neg h1] at h; exact he h
theorem end_tick {bl : Bks} {T W : Nat} {s : Sd} (he : s.ph = 2 → bl.length ≤ s.k) (h : (tickS bl T W s).2.ph = 2) : bl.length ≤ (tickS bl T W s).2.k := by
  unfold tickS at h ⊢
  by_cases h3 : s.ph = 3
  · rw [if_pos h3] at h ⊢; exact he h
  rw [if_neg h3] at h ⊢
  split
  · rename_i h1; rw [if_pos h1] at h; exact he h
  · rename_i h1
    rw [if_neg h1] at h
    obtain ⟨e1, e2⟩ := end_again h
    rw [e1]
    exact he e2

/-- How often each block was sent: what holds of the counts. -/
structure Cnt (s : Sd) (f : Nat → Nat) : Prop where
  zero : s.ph = 0 → ∀ j, f j = 0
  one : s.ph = 1 → f s.k = s.tries
  more : s.ph = 1 → ∀ j, s.k < j → f j = 0
def upd (f : Nat → Nat) (k : Nat) (j : Nat) : Nat := if j = k then f k + 1 else f j
theorem cnt_few {s s' : Sd} {f : Nat → Nat} (h : Cnt s f) (h1 : s'.ph = 1 → s.ph = 1 ∧ s'.k = s.k ∧ s'.tries = s.tries) (h0 : s'.ph = 0 → s.ph = 0) : Cnt s' f :=
  ⟨fun e => h.zero (h0 e), fun e => by obtain ⟨a, b, c⟩ := h1 e; rw [b, c]; exact h.one a, fun e => by obtain ⟨a, b, c⟩ := h1 e; rw [b]; exact h.more a⟩
theorem cnt_more {s s' : Sd} {T : Nat} {f : Nat → Nat} (h : Cnt s f) (hT : 1 ≤ T) (h1 : s'.ph = 1) (h2 : (s.ph = 1 ∧ s'.k = s.k ∧ s'.tries = s.tries + 1 ∧ s'.tries ≤ T) ∨ ((s.ph = 0 ∧ s'.k = s.k ∨ s.ph = 1 ∧ s'.k = s.k + 1) ∧ s'.tries = 1)) :
    Cnt s' (upd f s'.k) ∧ f s'.k + 1 ≤ T ∧ s.k ≤ s'.k := by
  have e : f s'.k + 1 = s'.tries ∧ f s'.k + 1 ≤ T ∧ s.k ≤ s'.k ∧ ∀ j, s'.k < j → f j = 0 := by
    rcases h2 with ⟨a, b, c, d⟩ | ⟨⟨a, b⟩ | ⟨a, b⟩, c⟩
    · have := h.one a
      rw [b, c]
      exact ⟨by omega, by omega, Nat.le_refl _, h.more a⟩
    · have := h.zero a
      rw [c, this]
      exact ⟨rfl, hT, by omega, fun j _ => this j⟩
    · have := h.more a (s.k + 1) (by omega)
      rw [b, c, this]
      exact ⟨rfl, hT, by omega, fun j hj => h.more a j (by omega)⟩
  obtain ⟨e1, e2, e3, e4⟩ := e
  refine ⟨⟨fun h0 => by omega, fun _ => ?_, fun _ j hj => ?_⟩, e2, e3⟩
  · unfold upd; rw [if_pos rfl]; exact e1
  · unfold upd; rw [if_neg (by omega)]; exact e4 j hj
end Go.Proofs.Ytdhipkfiigiicaa
