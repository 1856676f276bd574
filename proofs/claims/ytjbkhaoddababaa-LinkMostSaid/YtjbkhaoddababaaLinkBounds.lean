/-
  How much is sent, answered and kept, at most.
-/
import Derived.Test.YtjbkhaoddababaaLinkPlain
namespace Go.Proofs.Ytjbkhaoddababaa
set_option linter.unusedVariables false

theorem enc_le {d : List UInt8} (num : UInt8) (crc : Bool) (h : encOk d = true) : (enc num d crc).length ≤ 1029 := by
  have := szT_pos crc
  rw [enc_len]
  have h2 : d.length = 128 ∨ d.length = 1024 := by simpa [encOk] using h
  have h3 : szT crc ≤ 2 := by unfold szT; split <;> omega
  omega
theorem send_le (bl : Bks) (s : Sd) : (sendS bl s).1.length ≤ 1029 := by
  unfold sendS
  split
  · split
    · split
      · rename_i h; exact enc_le _ _ h
      · simp
    · simp
  · split <;> simp
theorem go_le (bl : Bks) (W : Nat) (cl : Bool) (s : Sd) : (goS bl W cl s).1.length ≤ 1029 := by
  unfold goS
  split
  · exact send_le _ _
  · split <;> simp
theorem again_le (bl : Bks) (T W : Nat) (s : Sd) : (againS bl T W s).1.length ≤ 1029 := by
  unfold againS
  split
  · simp
  · exact send_le _ _
theorem sput_le (bl : Bks) (T W : Nat) (cl : Bool) (s : Sd) (c : UInt8) : (putS bl T W cl s c).1.length ≤ 1029 := by
  unfold putS
  split
  · simp
  split
  · simp
  split
  · split
    · exact go_le _ _ _ _
    · simp
  split
  · exact go_le _ _ _ _
  split
  · exact again_le _ _ _ _
  · simp
theorem stick_le (bl : Bks) (T W : Nat) (s : Sd) : (tickS bl T W s).1.length ≤ 1029 := by
  unfold tickS
  split
  · simp
  split
  · simp
  · exact again_le _ _ _ _
theorem feed_le (p : LP) : ∀ (l : List UInt8) (s : Sd), (feedO p s l).length ≤ 1029 * l.length
  | [], s => by simp [feedO]
  | c :: r, s => by
    have h1 := sput_le p.bl p.T p.W true s c
    have h2 := feed_le p r (putS p.bl p.T p.W true s c).2
    unfold feedO
    rw [List.length_append, List.length_cons]
    omega
theorem arr_le (ns : List Nz) (j : Nat) (x : List UInt8) : (arr ns j x).length ≤ x.length := by
  unfold arr
  split
  · exact Nat.le_refl _
  · split
    · simp
    · simp [hitL]
theorem rput_out (crc cl : Bool) (V : Nat) (s : Rd) (b : List UInt8) : (putR crc cl V s b).1.length ≤ 2 := by
  unfold putR seeR scanR takeR finR
  repeat' split
  all_goals simp
theorem rtick_out_le (crc : Bool) (V : Nat) (s : Rd) : (tickR crc V s).1.length ≤ 2 := by
  unfold tickR askR
  repeat' split
  all_goals simp
structure Rb (da bu k : Nat) (s : Rd) : Prop where
  da : s.da.length ≤ da
  bu : s.bu.length ≤ bu
  bl : 1 - (k : Int) ≤ s.bl
theorem Rb.tick {da bu k : Nat} {s : Rd} (h : Rb da bu k s) (crc : Bool) (V : Nat) : Rb da bu k (tickR crc V s).2 := by
  obtain ⟨h1, h2, h3⟩ := h
  unfold tickR askR stopR
  repeat' split
  all_goals exact ⟨h1, by first | exact h2 | (simp), h3⟩
theorem take_rb {da bu k : Nat} {s : Rd} (h : Rb da bu k s) (cl : Bool) (num : UInt8) (d : List UInt8) (hd : d.length ≤ 1024) : Rb (da + 1024) bu (k + 1) (takeR cl s num d).2 := by
  obtain ⟨h1, h2, h3⟩ := h
  unfold takeR finR stopR
  repeat' split
  all_goals exact ⟨by first | (show (s.da ++ d).length ≤ _; rw [List.length_append]; omega) | (show s.da.length ≤ _; omega), by first | exact h2 | (show ([] : List UInt8).length ≤ _; simp), by first | (show _ ≤ s.bl - 1; omega) | (show _ ≤ s.bl; omega)⟩
theorem Rb.put {da bu k : Nat} {s : Rd} (h : Rb da bu k s) (crc cl : Bool) (V : Nat) (b : List UInt8) : Rb (da + 1024) (bu + b.length) (k + 1) (putR crc cl V s b).2 := by
  have h0 : Rb (da + 1024) (bu + b.length) (k + 1) s := ⟨by have := h.da; omega, by have := h.bu; omega, by have := h.bl; omega⟩
  have h1 : Rb (da + 1024) (bu + b.length) (k + 1) { s with tk := V, bu := s.bu ++ b } := ⟨h0.da, by show (s.bu ++ b).length ≤ _; rw [List.length_append]; have := h.bu; omega, h0.bl⟩
  have h2 : Rb da (bu + b.length) k { s with tk := V, bu := [] } := ⟨h.da, by simp, h.bl⟩
  unfold putR
  split
  · exact h0
  unfold seeR
  split
  · exact ⟨h1.da, by show ([] : List UInt8).length ≤ _; simp, h1.bl⟩
  split
  · exact ⟨h1.da, by show ([] : List UInt8).length ≤ _; simp, h1.bl⟩
  split
  · exact h1
  unfold scanR
  split
  · exact h1
  split
  · exact ⟨h1.da, by show ([] : List UInt8).length ≤ _; simp, h1.bl⟩
  · rename_i e1 e2
    refine take_rb h2 cl _ _ ?_
    rcases scan_state (s.bu ++ b) crc with e | e | e
    · exact absurd e e1
    · exact absurd e e2
    · rcases scan_data (s.bu ++ b) crc e with e | e <;> (show (scanL (s.bu ++ b) crc).2.2.length ≤ _; omega)
/-- What is sent in a tick. -/
def downL (p : LP) (x : Lk) : List UInt8 := (tickS p.bl p.T p.W x.s).1 ++ feedO p (tickS p.bl p.T p.W x.s).2 (x.up ++ (tickR p.crc p.V x.r).1)
theorem down_le (p : LP) (x : Lk) (h : x.up.length ≤ 2) : (downL p x).length ≤ 6000 := by
  have h1 := stick_le p.bl p.T p.W x.s
  have h2 := feed_le p (x.up ++ (tickR p.crc p.V x.r).1) (tickS p.bl p.T p.W x.s).2
  have h3 := rtick_out_le p.crc p.V x.r
  unfold downL
  rw [List.length_append] at h2 ⊢
  omega
/-- The talk, with what was seen at the beginning of the last tick: whether both are over, what went wrong. -/
def runX (p : LP) (ns : List Nz) : Nat → Lk → Bool × Nat × Nat → Lk × Nat × (Bool × Nat × Nat)
  | 0, x, o => (x, 0, o)
  | n + 1, x, _ => if overL x = true then (x, 0, (true, x.s.err, x.r.er)) else
      ((runX p ns n (stepL p ns x) (false, x.s.err, x.r.er)).1, (runX p ns n (stepL p ns x) (false, x.s.err, x.r.er)).2.1 + 1, (runX p ns n (stepL p ns x) (false, x.s.err, x.r.er)).2.2)
theorem runX_run (p : LP) (ns : List Nz) : ∀ (n : Nat) (x : Lk) (o : Bool × Nat × Nat), ((runX p ns n x o).1, (runX p ns n x o).2.1) = runL p ns n x
  | 0, x, o => rfl
  | n + 1, x, o => by
    unfold runX runL
    by_cases h : overL x = true
    · rw [if_pos h, if_pos h]
    · rw [if_neg h, if_neg h]
      have ih := runX_run p ns n (stepL p ns x) (false, x.s.err, x.r.er)
      rw [← ih]
/-- What was seen tells the truth if both were over; and so it is if fewer ticks went by than might. -/
theorem runX_over (p : LP) (ns : List Nz) : ∀ (n : Nat) (x : Lk) (o : Bool × Nat × Nat), (o.1 = true → False) →
    ((runX p ns n x o).2.2.1 = true → overL (runX p ns n x o).1 = true ∧ (runX p ns n x o).2.2.2 = ((runX p ns n x o).1.s.err, (runX p ns n x o).1.r.er)) ∧
    ((runX p ns n x o).2.1 < n → (runX p ns n x o).2.2.1 = true)
  | 0, x, o, ho => ⟨fun h => (ho h).elim, fun h => absurd h (Nat.not_lt_zero _)⟩
  | n + 1, x, o, ho => by
    unfold runX
    by_cases h : overL x = true
    · rw [if_pos h]
      exact ⟨fun _ => ⟨h, rfl⟩, fun _ => rfl⟩
    · rw [if_neg h]
      have ih := runX_over p ns n (stepL p ns x) (false, x.s.err, x.r.er) (fun hh => by cases hh)
      exact ⟨ih.1, fun hh => ih.2 (by simpa using hh)⟩
theorem runX_le (p : LP) (ns : List Nz) : ∀ (n : Nat) (x : Lk) (o : Bool × Nat × Nat), (runX p ns n x o).2.1 ≤ n
  | 0, x, o => Nat.le_refl _
  | n + 1, x, o => by
    unfold runX
    by_cases h : overL x = true
    · rw [if_pos h]; exact Nat.zero_le _
    · rw [if_neg h]
      have ih := runX_le p ns n (stepL p ns x) (false, x.s.err, x.r.er)
      simp only
      omega
end Go.Proofs.Ytjbkhaoddababaa
