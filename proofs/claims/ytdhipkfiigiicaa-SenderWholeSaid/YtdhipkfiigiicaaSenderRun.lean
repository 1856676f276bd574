/-
  A sender whose blocks are taken one by one, plain.
-/
import Derived.Test.YtdhipkfiigiicaaSenderPlain
namespace Go.Proofs.Ytdhipkfiigiicaa
set_option linter.unusedVariables false

/-- What is sent, and where the sender is, when k blocks were taken, each at once. -/
def whS (bl : Bks) (W : Nat) (crc : Bool) (k : Nat) : List UInt8 × Sd := goS bl W true ⟨0, k, crc, 0, 1, W, false⟩
theorem goS_same {bl : Bks} {W : Nat} {s s' : Sd} (h1 : s.ph ≠ 2) (h2 : s'.ph ≠ 2) (hk : s.k = s'.k) (hc : s.crc = s'.crc) (he : s.err = s'.err) (ha : s.can = s'.can) : goS bl W true s = goS bl W true s' := by
  obtain ⟨ph, k, crc, err, tries, wait, can⟩ := s
  obtain ⟨ph', k', crc', err', tries', wait', can'⟩ := s'
  simp only at h1 h2 hk hc he ha
  subst hk hc he ha
  unfold goS
  simp only
  split
  · rfl
  · rw [if_pos ⟨trivial, h1⟩, if_pos ⟨trivial, h2⟩]
theorem whS_go (bl : Bks) (T W : Nat) : putS bl T W true (newS W true) 67 = whS bl W true 0 := by
  unfold putS
  rw [if_neg (by simp [newS]), if_neg (by simp [newS]), if_pos (by simp [newS]), if_pos (.inr ⟨rfl, rfl⟩)]
  rfl
theorem whS_nak (bl : Bks) (T W : Nat) (crc : Bool) : putS bl T W true (newS W crc) 21 = whS bl W false 0 := by
  unfold putS
  rw [if_neg (by simp [newS]), if_neg (by simp [newS]), if_pos (by simp [newS]), if_pos (.inl rfl)]
  rfl
theorem whS_at {bl : Bks} {W : Nat} {crc : Bool} {k : Nat} {num : UInt8} {d : List UInt8} (h : bl[k]? = some (num, d)) (ho : encOk d = true) : whS bl W crc k = (enc num d crc, ⟨1, k, crc, 0, 1, W, false⟩) := by
  have hk : k < bl.length := by
    rcases Nat.lt_or_ge k bl.length with hl | hl
    · exact hl
    · rw [List.getElem?_eq_none hl] at h; cases h
  unfold whS goS
  rw [if_pos hk]
  unfold sendS
  rw [if_pos rfl]
  simp only
  rw [h]
  simp [ho]
theorem whS_end (bl : Bks) (W : Nat) (crc : Bool) : whS bl W crc bl.length = ([4], ⟨2, bl.length, crc, 0, 1, W, false⟩) := by
  unfold whS goS
  rw [if_neg (Nat.lt_irrefl _), if_pos ⟨rfl, by simp⟩]
theorem whS_ack {bl : Bks} {T W : Nat} {crc : Bool} {k : Nat} {num : UInt8} {d : List UInt8} (h : bl[k]? = some (num, d)) (ho : encOk d = true) : putS bl T W true (whS bl W crc k).2 6 = whS bl W crc (k + 1) := by
  rw [whS_at h ho]
  unfold putS
  rw [if_neg (by simp), if_neg (by simp), if_neg (by simp), if_pos rfl]
  exact goS_same (by simp) (by simp) rfl rfl rfl rfl
theorem whS_last (bl : Bks) (T W : Nat) (crc : Bool) : putS bl T W true (whS bl W crc bl.length).2 6 = ([], ⟨3, bl.length, crc, 0, 1, W, false⟩) := by
  rw [whS_end]
  unfold putS
  rw [if_neg (by simp), if_neg (by simp), if_neg (by simp), if_pos rfl]
  unfold goS
  rw [if_neg (by simp), if_neg (by simp)]
  rfl
end Go.Proofs.Ytdhipkfiigiicaa
