/-
  A sender of blocks, plain: where it is, what it sends at a byte and at a tick.
-/
import Derived.Test.YtgdjopiejmdbnaaGreatDoorBlockPlain
namespace Go.Proofs.YtgdjopiejmdbnaaGreatDoor
set_option linter.unusedVariables false

/-- Where a sender is: its phase (0 the beginning, 1 a block, 2 the end, 3 over), how many blocks were taken, whether CRCs, what went wrong (0: nothing), tries, ticks left, whether the byte put last cancels. -/
structure Sd where
  ph : Nat
  k : Nat
  crc : Bool
  err : Nat
  tries : Nat
  wait : Nat
  can : Bool

/-- A sender's blocks: each one's number and data. -/
abbrev Bks := List (UInt8 × List UInt8)
def encOk (d : List UInt8) : Bool := d.length == 128 || d.length == 1024
def sendS (bl : Bks) (s : Sd) : List UInt8 × Sd :=
  if s.ph = 1 then
    match bl[s.k]? with
    | some p => if encOk p.2 then (enc p.1 p.2 s.crc, s) else ([], { s with ph := 3, err := 14 })
    | none => ([], s)
  else if s.ph = 2 then ([4], s) else ([], s)
def goS (bl : Bks) (W : Nat) (cl : Bool) (s : Sd) : List UInt8 × Sd :=
  if s.k < bl.length then sendS bl { s with ph := 1, tries := 1, wait := W }
  else if cl = true ∧ s.ph ≠ 2 then ([4], { s with ph := 2, tries := 1, wait := W })
  else ([], { s with ph := 3, err := 0, tries := 1, wait := W })
def againS (bl : Bks) (T W : Nat) (s : Sd) : List UInt8 × Sd :=
  if T ≤ s.tries then ([24, 24], { s with ph := 3, err := 10 }) else sendS bl { s with tries := s.tries + 1, wait := W }
def putS (bl : Bks) (T W : Nat) (cl : Bool) (s : Sd) (c : UInt8) : List UInt8 × Sd :=
  if s.ph = 3 then ([], { s with can := c == 24 })
  else if s.can = true ∧ c = 24 then ([], { s with ph := 3, err := 9, can := c == 24 })
  else if s.ph = 0 then
    if c = 21 ∨ c = 67 ∧ s.crc = true then goS bl W cl { s with crc := c == 67, can := c == 24 } else ([], { s with can := c == 24 })
  else if c = 6 then goS bl W cl { s with k := if s.ph = 1 then s.k + 1 else s.k, can := c == 24 }
  else if c = 21 then againS bl T W { s with can := c == 24 }
  else ([], { s with can := c == 24 })
def tickS (bl : Bks) (T W : Nat) (s : Sd) : List UInt8 × Sd :=
  if s.ph = 3 then ([], s)
  else if 1 < s.wait then ([], { s with wait := s.wait - 1 })
  else againS bl T W { s with wait := s.wait - 1 }
def newS (W : Nat) (crc : Bool) : Sd := { ph := 0, k := 0, crc := crc, err := 0, tries := 1, wait := W, can := false }

/-- What holds of every sender, wherever it is. -/
structure Ok (bl : Bks) (T W : Nat) (s : Sd) : Prop where
  ph : s.ph ≤ 3
  k : s.k ≤ bl.length
  one : s.ph = 1 → s.k < bl.length
  zero : s.ph = 0 → s.k = 0
  tries : s.tries ≤ T
  tries1 : 1 ≤ s.tries
  wait : s.wait ≤ W
  err : s.err ≤ 14
  wait1 : s.ph ≠ 3 → 1 ≤ s.wait
theorem ok_new (bl : Bks) {T W : Nat} (crc : Bool) (hT : 1 ≤ T) (hW : 1 ≤ W) : Ok bl T W (newS W crc) :=
  ⟨by simp [newS], by simp [newS], by simp [newS], by simp [newS], by simp [newS]; omega, by simp [newS], by simp [newS], by simp [newS], fun _ => hW⟩
theorem ok_send {bl : Bks} {T W : Nat} {s : Sd} (h : Ok bl T W s) : Ok bl T W (sendS bl s).2 := by
  obtain ⟨h1, h2, h3, h4, h5, h6, h7, h8, h9⟩ := h
  unfold sendS
  split
  · split
    · split
      · exact ⟨h1, h2, h3, h4, h5, h6, h7, h8, h9⟩
      · exact ⟨by simp, h2, by simp, by simp, h5, h6, h7, by simp, by simp⟩
    · exact ⟨h1, h2, h3, h4, h5, h6, h7, h8, h9⟩
  · split <;> exact ⟨h1, h2, h3, h4, h5, h6, h7, h8, h9⟩
theorem ok_go {bl : Bks} {T W : Nat} {s : Sd} (cl : Bool) (hT : 1 ≤ T) (hW : 1 ≤ W) (h2 : s.k ≤ bl.length) (h8 : s.err ≤ 14) : Ok bl T W (goS bl W cl s).2 := by
  unfold goS
  split
  · rename_i h
    exact ok_send ⟨by simp, h2, fun _ => h, by simp, hT, by simp, by simp, h8, fun _ => hW⟩
  · split
    · exact ⟨by simp, h2, by simp, by simp, hT, by simp, by simp, h8, fun _ => hW⟩
    · exact ⟨by simp, h2, by simp, by simp, hT, by simp, by simp, by simp, by simp⟩
theorem ok_again {bl : Bks} {T W : Nat} {s : Sd} (hW : 1 ≤ W) (h1 : s.ph ≤ 3) (h2 : s.k ≤ bl.length) (h3 : s.ph = 1 → s.k < bl.length) (h4 : s.ph = 0 → s.k = 0) (h5 : s.tries ≤ T) (h6 : 1 ≤ s.tries) (h7 : s.wait ≤ W) (h8 : s.err ≤ 14) : Ok bl T W (againS bl T W s).2 := by
  unfold againS
  split
  · exact ⟨by simp, h2, by simp, by simp, h5, h6, h7, by simp, by simp⟩
  · exact ok_send ⟨h1, h2, h3, h4, by simp; omega, by simp, by simp, h8, fun _ => hW⟩
theorem ok_put {bl : Bks} {T W : Nat} {s : Sd} (cl : Bool) (c : UInt8) (hT : 1 ≤ T) (hW : 1 ≤ W) (h : Ok bl T W s) : Ok bl T W (putS bl T W cl s c).2 := by
  obtain ⟨h1, h2, h3, h4, h5, h6, h7, h8, h9⟩ := h
  unfold putS
  split
  · exact ⟨h1, h2, h3, h4, h5, h6, h7, h8, h9⟩
  split
  · exact ⟨by simp, h2, by simp, by simp, h5, h6, h7, by simp, by simp⟩
  split
  · split
    · exact ok_go cl hT hW h2 h8
    · exact ⟨h1, h2, h3, h4, h5, h6, h7, h8, h9⟩
  split
  · refine ok_go cl hT hW ?_ h8
    show (if s.ph = 1 then s.k + 1 else s.k) ≤ _
    split
    · rename_i h; exact h3 h
    · exact h2
  split
  · exact ok_again hW h1 h2 h3 h4 h5 h6 h7 h8
  · exact ⟨h1, h2, h3, h4, h5, h6, h7, h8, h9⟩
theorem ok_tick {bl : Bks} {T W : Nat} {s : Sd} (hW : 1 ≤ W) (h : Ok bl T W s) : Ok bl T W (tickS bl T W s).2 := by
  obtain ⟨h1, h2, h3, h4, h5, h6, h7, h8, h9⟩ := h
  unfold tickS
  split
  · exact ⟨h1, h2, h3, h4, h5, h6, h7, h8, h9⟩
  split
  · exact ⟨h1, h2, h3, h4, h5, h6, by simp; omega, h8, fun _ => by simp; omega⟩
  · exact ok_again hW h1 h2 h3 h4 h5 h6 (by simp; omega) h8
end Go.Proofs.YtgdjopiejmdbnaaGreatDoor
