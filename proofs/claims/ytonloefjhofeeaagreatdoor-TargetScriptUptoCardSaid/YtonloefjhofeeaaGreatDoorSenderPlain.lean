/-
  A sender of blocks, plain: where it is, what it sends at a byte and at a tick.
-/
import Derived.Test.YtonloefjhofeeaaGreatDoorBlockPlain
import Derived.Test.YtonloefjhofeeaaGreatDoorReceiverPlain
namespace Go.Proofs.YtonloefjhofeeaaGreatDoor
set_option linter.unusedVariables false

/-- Where a sender is: its phase (0 the beginning, 1 a block, 2 the end, 3 over), how many blocks were taken, whether CRCs, what went wrong (0: nothing), tries, ticks left, whether the byte put last cancels. -/
structure Sd where
  ph : Nat
  k : Nat
  crc : Bool
  err : Nat
  tries : Nat
  wait : Nat
  can : Bool

/-- A sender's blocks: each one's number and data. -/
abbrev Bks := List (UInt8 × List UInt8)
def encOk (d : List UInt8) : Bool := d.length == 128 || d.length == 1024
def sendS (bl : Bks) (s : Sd) : List UInt8 × Sd :=
  if s.ph = 1 then
    match bl[s.k]? with
    | some p => if encOk p.2 then (enc p.1 p.2 s.crc, s) else ([], { s with ph := 3, err := 14 })
    | none => ([], s)
  else if s.ph = 2 then ([4], s) else ([], s)
def goS (bl : Bks) (W : Nat) (cl : Bool) (s : Sd) : List UInt8 × Sd :=
  if s.k < bl.length then sendS bl { s with ph := 1, tries := 1, wait := W }
  else if cl = true ∧ s.ph ≠ 2 then ([4], { s with ph := 2, tries := 1, wait := W })
  else ([], { s with ph := 3, err := 0, tries := 1, wait := W })
def againS (bl : Bks) (T W : Nat) (s : Sd) : List UInt8 × Sd :=
  if T ≤ s.tries then ([24, 24], { s with ph := 3, err := 10 }) else sendS bl { s with tries := s.tries + 1, wait := W }
def putS (bl : Bks) (T W : Nat) (cl : Bool) (s : Sd) (c : UInt8) : List UInt8 × Sd :=
  if s.ph = 3 then ([], { s with can := c == 24 })
  else if s.can = true ∧ c = 24 then ([], { s with ph := 3, err := 9, can := c == 24 })
  else if s.ph = 0 then
    if c = 21 ∨ c = 67 ∧ s.crc = true then goS bl W cl { s with crc := c == 67, can := c == 24 } else ([], { s with can := c == 24 })
  else if c = 6 then goS bl W cl { s with k := if s.ph = 1 then s.k + 1 else s.k, can := c == 24 }
  else if c = 21 then againS bl T W { s with can := c == 24 }
  else ([], { s with can := c == 24 })
def tickS (bl : Bks) (T W : Nat) (s : Sd) : List UInt8 × Sd :=
  if s.ph = 3 then ([], s)
  else if 1 < s.wait then ([], { s with wait := s.wait - 1 })
  else againS bl T W { s with wait := s.wait - 1 }
def newS (W : Nat) (crc : Bool) : Sd := { ph := 0, k := 0, crc := crc, err := 0, tries := 1, wait := W, can := false }

/-- What holds of every sender, wherever it is. -/
structure Ok (bl : Bks) (T W : Nat) (s : Sd) : Prop where
  ph : s.ph ≤ 3
  k : s.k ≤ bl.length
  one : s.ph = 1 → s.k < bl.length
  zero : s.ph = 0 → s.k = 0
  tries : s.tries ≤ T
  tries1 : 1 ≤ s.tries
  wait : s.wait ≤ W
  err : s.err ≤ 14
  wait1 : s.ph ≠ 3 → 1 ≤ s.wait
theorem ok_new (bl : Bks) {T W : Nat} (crc : Bool) (hT : 1 ≤ T) (hW : 1 ≤ W) : Ok bl T W (newS W crc) :=
  ⟨by simp [newS], by simp [newS], by simp [newS], by simp [newS], by simp [newS]; omega, by simp [newS], by simp [newS], by simp [newS], fun _ => hW⟩
theorem ok_send {bl : Bks} {T W : Nat} {s : Sd} (h : Ok bl T W s) : Ok bl T W (sendS bl s).2 := by
  obtain ⟨h1, h2, h3, h4, h5, h6, h7, h8, h9⟩ := h
  unfold sendS
  split
  · split
    · split
      · exact ⟨h1, h2, h3, h4, h5, h6, h7, h8, h9⟩
      · exact ⟨by simp, h2, by simp, by simp, h5, h6, h7, by simp, by simp⟩
    · exact ⟨h1, h2, h3, h4, h5, h6, h7, h8, h9⟩
  · split <;> exact ⟨h1, h2, h3, h4, h5, h6, h7, h8, h9⟩
theorem ok_go {bl : Bks} {T W : Nat} {s : Sd} (cl : Bool) (hT : 1 ≤ T) (hW : 1 ≤ W) (h2 : s.k ≤ bl.length) (h8 : s.err ≤ 14) : Ok bl T W (goS bl W cl s).2 := by
  unfold goS
  split
  · rename_i h
    exact ok_send ⟨by simp, h2, fun _ => h, by simp, hT, by simp, by simp, h8, fun _ => hW⟩
  · split
    · exact ⟨by simp, h2, by simp, by simp, hT, by simp, by simp, h8, fun _ => hW⟩
    · exact ⟨by simp, h2, by simp, by simp, hT, by simp, by simp, by simp, by simp⟩
theorem ok_again {bl : Bks} {T W : Nat} {s : Sd} (hW : 1 ≤ W) (h1 : s.ph ≤ 3) (h2 : s.k ≤ bl.length) (h3 : s.ph = 1 → s.k < bl.length) (h4 : s.ph = 0 → s.k = 0) (h5 : s.tries ≤ T) (h6 : 1 ≤ s.tries) (h7 : s.wait ≤ W) (h8 : s.err ≤ 14) : Ok bl T W (againS bl T W s).2 := by
  unfold againS
  split
  · exact ⟨by simp, h2, by simp, by simp, h5, h6, h7, by simp, by simp⟩
  · exact ok_send ⟨h1, h2, h3, h4, by simp; omega, by simp, by simp, h8, fun _ => hW⟩
theorem ok_put {bl : Bks} {T W : Nat} {s : Sd} (cl : Bool) (c : UInt8) (hT : 1 ≤ T) (hW : 1 ≤ W) (h : Ok bl T W s) : Ok bl T W (putS bl T W cl s c).2 := by
  obtain ⟨h1, h2, h3, h4, h5, h6, h7, h8, h9⟩ := h
  unfold putS
  split
  · exact ⟨h1, h2, h3, h4, h5, h6, h7, h8, h9⟩
  split
  · exact ⟨by simp, h2, by simp, by simp, h5, h6, h7, by simp, by simp⟩
  split
  · split
    · exact ok_go cl hT hW h2 h8
    · exact ⟨h1, h2, h3, h4, h5, h6, h7, h8, h9⟩
  split
  · refine ok_go cl hT hW ?_ h8
    show (if s.ph = 1 then s.k + 1 else s.k) ≤ _
    split
    · rename_i h; exact h3 h
    · exact h2
  split
  · exact ok_again hW h1 h2 h3 h4 h5 h6 h7 h8
  · exact ⟨h1, h2, h3, h4, h5, h6, h7, h8, h9⟩
theorem ok_tick {bl : Bks} {T W : Nat} {s : Sd} (hW : 1 ≤ W) (h : Ok bl T W s) : Ok bl T W (tickS bl T W s).2 := by
  obtain ⟨h1, h2, h3, h4, h5, h6, h7, h8, h9⟩ := h
  unfold tickS
  split
  · exact ⟨h1, h2, h3, h4, h5, h6, h7, h8, h9⟩
  split
  · exact ⟨h1, h2, h3, h4, h5, h6, by simp; omega, h8, fun _ => by simp; omega⟩
  · exact ok_again hW h1 h2 h3 h4 h5 h6 (by simp; omega) h8


/-- Noise. -/
structure Nz where
  lost : Bool
  at_ : Int
  by_ : UInt8
/-- Whose talk it is: the blocks, the sender's tries and ticks, whether CRCs, the receiver's ticks. Both go by an end. -/
structure LP where
  bl : Bks
  T : Nat
  W : Nat
  crc : Bool
  V : Nat
def hitI (x : List UInt8) (n : Nz) : Nat := (n.at_ % (x.length : Int)).toNat
def hitL (x : List UInt8) (n : Nz) : List UInt8 := x.set (hitI x n) (x.getD (hitI x n) 0 ^^^ n.by_)
/-- What arrives of bytes. -/
def arr (ns : List Nz) (j : Nat) (x : List UInt8) : List UInt8 :=
  match ns[j]? with
  | none => x
  | some n => if n.lost then [] else hitL x n
def feedS (p : LP) : Sd → List UInt8 → Sd
  | s, [] => s
  | s, c :: r => feedS p (putS p.bl p.T p.W true s c).2 r
def feedO (p : LP) : Sd → List UInt8 → List UInt8
  | _, [] => []
  | s, c :: r => (putS p.bl p.T p.W true s c).1 ++ feedO p (putS p.bl p.T p.W true s c).2 r
/-- Both, what travels up, and how often something travelled down. -/
structure Lk where
  s : Sd
  r : Rd
  up : List UInt8
  sent : Nat
def stepL (p : LP) (ns : List Nz) (x : Lk) : Lk :=
  let u := x.up ++ (tickR p.crc p.V x.r).1
  let r1 := (tickR p.crc p.V x.r).2
  let s1 := (tickS p.bl p.T p.W x.s).2
  let d := (tickS p.bl p.T p.W x.s).1 ++ feedO p s1 u
  if d = [] then ⟨feedS p s1 u, r1, [], x.sent⟩
  else ⟨feedS p s1 u, (putR p.crc true p.V r1 (arr ns x.sent d)).2, (putR p.crc true p.V r1 (arr ns x.sent d)).1, x.sent + 1⟩
def overL (x : Lk) : Bool := x.s.ph == 3 && x.r.ov
/-- So many ticks at most: where both are then, and how many ticks went by. -/
def runL (p : LP) (ns : List Nz) : Nat → Lk → Lk × Nat
  | 0, x => (x, 0)
  | n + 1, x => if overL x = true then (x, 0) else ((runL p ns n (stepL p ns x)).1, (runL p ns n (stepL p ns x)).2 + 1)

theorem step_none {p : LP} {ns : List Nz} {x : Lk} {o d0 d1 : List UInt8} {r1 : Rd} {s1 s2 : Sd} (hr : tickR p.crc p.V x.r = (o, r1)) (ht : tickS p.bl p.T p.W x.s = (d0, s1)) (hf : feedO p s1 (x.up ++ o) = d1) (hs : feedS p s1 (x.up ++ o) = s2) (hd : d0 ++ d1 = []) :
    stepL p ns x = ⟨s2, r1, [], x.sent⟩ := by
  unfold stepL
  simp only [hr, ht, hf, hs, hd, if_pos]
theorem step_some {p : LP} {ns : List Nz} {x : Lk} {o d0 d1 d a : List UInt8} {r1 r2 : Rd} {s1 s2 : Sd} (hr : tickR p.crc p.V x.r = (o, r1)) (ht : tickS p.bl p.T p.W x.s = (d0, s1)) (hf : feedO p s1 (x.up ++ o) = d1) (hs : feedS p s1 (x.up ++ o) = s2) (hd : d0 ++ d1 = d) (hne : d ≠ [])
    (hp : putR p.crc true p.V r1 (arr ns x.sent d) = (a, r2)) : stepL p ns x = ⟨s2, r2, a, x.sent + 1⟩ := by
  unfold stepL
  simp only [hr, ht, hf, hs, hd, if_neg hne, hp]
theorem feedO_one (p : LP) (s : Sd) (c : UInt8) : feedO p s [c] = (putS p.bl p.T p.W true s c).1 := by simp [feedO]
theorem feedS_one (p : LP) (s : Sd) (c : UInt8) : feedS p s [c] = (putS p.bl p.T p.W true s c).2 := rfl
theorem feedO_two (p : LP) (s : Sd) (c c' : UInt8) : feedO p s [c, c'] = (putS p.bl p.T p.W true s c).1 ++ (putS p.bl p.T p.W true (putS p.bl p.T p.W true s c).2 c').1 := by simp [feedO]
theorem feedS_two (p : LP) (s : Sd) (c c' : UInt8) : feedS p s [c, c'] = (putS p.bl p.T p.W true (putS p.bl p.T p.W true s c).2 c').2 := rfl

/-! ### The sender at a piece -/
structure LOk (p : LP) : Prop where
  num : ∀ (j : Nat) (b : UInt8 × List UInt8), p.bl[j]? = some b → b.1 = UInt8.ofNat (j + 1) ∧ (b.2.length = 128 ∨ b.2.length = 1024)
  few : p.bl.length ≤ 250
  T1 : 1 ≤ p.T
/-- The k-th piece: a block, or the end. -/
def pc (p : LP) (k : Nat) : List UInt8 :=
  match p.bl[k]? with
  | some b => enc b.1 b.2 p.crc
  | none => [4]
def phK (p : LP) (k : Nat) : Nat := if k < p.bl.length then 1 else 2
/-- The sender that has sent piece k for the i-th time, and waits so many ticks. -/
def sat (p : LP) (k i a : Nat) : Sd := ⟨phK p k, k, p.crc, 0, i, a, false⟩
theorem pc_lt {p : LP} {k : Nat} (h : k < p.bl.length) : ∃ b, p.bl[k]? = some b ∧ pc p k = enc b.1 b.2 p.crc := by
  obtain ⟨b, hb⟩ : ∃ b, p.bl[k]? = some b := ⟨_, List.getElem?_eq_getElem h⟩
  exact ⟨b, hb, by unfold pc; rw [hb]⟩
theorem pc_end (p : LP) : pc p p.bl.length = [4] := by unfold pc; rw [List.getElem?_eq_none (Nat.le_refl _)]
theorem pc_ne (p : LP) (k : Nat) : pc p k ≠ [] := by
  unfold pc
  split
  · simp [enc]
  · simp
theorem phK_or (p : LP) (k : Nat) : phK p k = 1 ∨ phK p k = 2 := by unfold phK; split <;> simp
theorem phK_ne (p : LP) (k : Nat) : phK p k ≠ 3 ∧ phK p k ≠ 0 := by rcases phK_or p k with h | h <;> omega
theorem sat3 (p : LP) (k i a : Nat) : ¬ (sat p k i a).ph = 3 := (phK_ne p k).1
theorem sat0 (p : LP) (k i a : Nat) : ¬ (sat p k i a).ph = 0 := (phK_ne p k).2
theorem send_at {p : LP} (hp : LOk p) {s : Sd} {k : Nat} (hk : k ≤ p.bl.length) (h1 : s.ph = phK p k) (h2 : s.k = k) (h3 : s.crc = p.crc) : sendS p.bl s = (pc p k, s) := by
  unfold sendS
  rcases Nat.lt_or_ge k p.bl.length with h | h
  · obtain ⟨b, hb, e⟩ := pc_lt h
    rw [if_pos (by rw [h1]; unfold phK; rw [if_pos h]), h2, hb]
    have ho : encOk b.2 = true := by
      rcases (hp.num k b hb).2 with e | e <;> simp [encOk, e]
    simp only [ho, if_true, h3, e]
  · obtain rfl : k = p.bl.length := by omega
    rw [if_neg (by rw [h1]; unfold phK; rw [if_neg (Nat.lt_irrefl _)]; omega), if_pos (by rw [h1]; unfold phK; rw [if_neg (Nat.lt_irrefl _)]), pc_end]
theorem go_at' {p : LP} (hp : LOk p) {s : Sd} {k : Nat} (hk : k ≤ p.bl.length) (h1 : s.ph ≠ 2) (h2 : s.k = k) (h3 : s.crc = p.crc) (h4 : s.err = 0) (h5 : s.can = false) : goS p.bl p.W true s = (pc p k, sat p k 1 p.W) := by
  obtain ⟨ph, k', crc, err, tries, wait, can⟩ := s
  simp only at h1 h2 h3 h4 h5
  subst h2 h3 h4 h5
  unfold goS
  rcases Nat.lt_or_ge k' p.bl.length with h | h
  · rw [if_pos h]
    have e : (⟨1, k', p.crc, 0, 1, p.W, false⟩ : Sd) = sat p k' 1 p.W := by unfold sat phK; rw [if_pos h]
    show sendS p.bl ⟨1, k', p.crc, 0, 1, p.W, false⟩ = _
    rw [e]
    exact send_at hp hk rfl rfl rfl
  · obtain rfl : k' = p.bl.length := by omega
    rw [if_neg (Nat.lt_irrefl _), if_pos ⟨rfl, h1⟩, pc_end]
    unfold sat phK
    rw [if_neg (Nat.lt_irrefl _)]
theorem again_yes {p : LP} (hp : LOk p) {k i a : Nat} (hk : k ≤ p.bl.length) (hi : i < p.T) : againS p.bl p.T p.W (sat p k i a) = (pc p k, sat p k (i + 1) p.W) := by
  unfold againS
  rw [if_neg (by show ¬ p.T ≤ i; omega)]
  exact send_at hp hk rfl rfl rfl
theorem again_no {p : LP} {k i a : Nat} (hi : p.T ≤ i) : againS p.bl p.T p.W (sat p k i a) = ([24, 24], { sat p k i a with ph := 3, err := 10 }) := by
  unfold againS
  rw [if_pos (by exact hi)]
theorem tick_more {p : LP} {k i a : Nat} (ha : 1 < a) : tickS p.bl p.T p.W (sat p k i a) = ([], sat p k i (a - 1)) := by
  unfold tickS
  rw [if_neg (sat3 _ _ _ _)]
  exact if_pos ha
theorem tick_now {p : LP} {k i a : Nat} (ha : a ≤ 1) : tickS p.bl p.T p.W (sat p k i a) = againS p.bl p.T p.W (sat p k i (a - 1)) := by
  unfold tickS
  rw [if_neg (sat3 _ _ _ _), if_neg (by show ¬ 1 < a; omega)]
  rfl
theorem put_ack {p : LP} (hp : LOk p) {k i a : Nat} (hk : k < p.bl.length) : putS p.bl p.T p.W true (sat p k i a) 6 = (pc p (k + 1), sat p (k + 1) 1 p.W) := by
  have h1 : phK p k = 1 := by unfold phK; rw [if_pos hk]
  unfold putS
  rw [if_neg (sat3 _ _ _ _), if_neg (by simp), if_neg (sat0 _ _ _ _), if_pos rfl]
  refine go_at' hp (by omega) ?_ ?_ rfl rfl rfl
  · show phK p k ≠ 2; omega
  · show (if phK p k = 1 then k + 1 else k) = k + 1; rw [if_pos h1]
theorem put_end {p : LP} {i a : Nat} : putS p.bl p.T p.W true (sat p p.bl.length i a) 6 = ([], ⟨3, p.bl.length, p.crc, 0, 1, p.W, false⟩) := by
  have h1 : phK p p.bl.length = 2 := by unfold phK; rw [if_neg (Nat.lt_irrefl _)]
  unfold putS
  rw [if_neg (sat3 _ _ _ _), if_neg (by simp), if_neg (sat0 _ _ _ _), if_pos rfl]
  unfold goS
  have e : (if (sat p p.bl.length i a).ph = 1 then (sat p p.bl.length i a).k + 1 else (sat p p.bl.length i a).k) = p.bl.length := by
    show (if phK p p.bl.length = 1 then _ else _) = _
    rw [if_neg (by omega)]
    rfl
  simp only [e]
  rw [if_neg (Nat.lt_irrefl _), if_neg (by intro hh; exact hh.2 h1)]
  rfl
theorem put_nak {p : LP} {k i a : Nat} : putS p.bl p.T p.W true (sat p k i a) 21 = againS p.bl p.T p.W (sat p k i a) := by
  unfold putS
  rw [if_neg (sat3 _ _ _ _), if_neg (by simp), if_neg (sat0 _ _ _ _), if_neg (by decide), if_pos rfl]
  rfl
theorem put_C {p : LP} {k i a : Nat} : putS p.bl p.T p.W true (sat p k i a) 67 = ([], sat p k i a) := by
  unfold putS
  rw [if_neg (sat3 _ _ _ _), if_neg (by simp), if_neg (sat0 _ _ _ _), if_neg (by decide), if_neg (by decide)]
  rfl
/-- What a receiver asks with. -/
def goB (crc : Bool) : UInt8 := if crc then 67 else 21
theorem put_start {p : LP} (hp : LOk p) (a : Nat) : putS p.bl p.T p.W true ⟨0, 0, p.crc, 0, 1, a, false⟩ (goB p.crc) = (pc p 0, sat p 0 1 p.W) := by
  unfold putS
  rw [if_neg (by simp), if_neg (by simp), if_pos (by rfl)]
  cases hc : p.crc
  · rw [if_pos (.inl rfl)]
    exact go_at' hp (Nat.zero_le _) (by simp) rfl (by rw [hc]; rfl) rfl rfl
  · rw [if_pos (.inr ⟨rfl, rfl⟩)]
    exact go_at' hp (Nat.zero_le _) (by simp) rfl (by rw [hc]; rfl) rfl rfl
theorem tick_over {bl : Bks} {T W : Nat} {s : Sd} (h : s.ph = 3) : tickS bl T W s = ([], s) := by unfold tickS; rw [if_pos h]
theorem put_over_ {bl : Bks} {T W : Nat} {cl : Bool} {s : Sd} {c : UInt8} (h : s.ph = 3) : putS bl T W cl s c = ([], { s with can := c == 24 }) := by unfold putS; rw [if_pos h]
theorem feed_over {p : LP} : ∀ (l : List UInt8) (s : Sd), s.ph = 3 → feedO p s l = [] ∧ (feedS p s l).ph = 3 ∧ (feedS p s l).err = s.err ∧ (feedS p s l).k = s.k
  | [], s, h => ⟨rfl, h, rfl, rfl⟩
  | c :: r, s, h => by
    have e := put_over_ (bl := p.bl) (T := p.T) (W := p.W) (cl := true) (c := c) h
    have ih := feed_over (p := p) r ({ s with can := c == 24 }) h
    unfold feedO feedS
    rw [e]
    exact ⟨by simpa using ih.1, ih.2.1, ih.2.2.1, ih.2.2.2⟩

/-! ### The receiver -/
def flat (p : LP) (j : Nat) : List UInt8 := ((p.bl.take j).map (·.2)).flatten
theorem flat_zero (p : LP) : flat p 0 = [] := rfl
theorem flat_succ {p : LP} {j : Nat} {b : UInt8 × List UInt8} (h : p.bl[j]? = some b) : flat p (j + 1) = flat p j ++ b.2 := by
  unfold flat
  rw [List.take_add_one, h]
  simp
theorem flat_all (p : LP) : flat p p.bl.length = (p.bl.map (·.2)).flatten := by unfold flat; rw [List.take_length]
theorem flat_pos {p : LP} (hp : LOk p) {j : Nat} (h1 : 0 < j) (h2 : j ≤ p.bl.length) : flat p j ≠ [] := by
  obtain ⟨k, rfl⟩ : ∃ k, j = k + 1 := ⟨j - 1, by omega⟩
  obtain ⟨b, hb, _⟩ := pc_lt (p := p) (k := k) (by omega)
  rw [flat_succ hb]
  intro e
  have := (List.append_eq_nil_iff.1 e).2
  rcases (hp.num k b hb).2 with e | e <;> (rw [this] at e; simp at e)
/-- The receiver that has j blocks. -/
def rat (p : LP) (j tr c : Nat) (bu : List UInt8) : Rd := ⟨UInt8.ofNat (j + 1), 1 - (j : Int), tr, c, bu, flat p j, false, 0⟩
theorem rtick_more {p : LP} {j tr c : Nat} {bu : List UInt8} (h : 1 < c) : tickR p.crc p.V (rat p j tr c bu) = ([], rat p j tr (c - 1) bu) := by
  unfold tickR
  rw [if_neg (by simp [rat]), if_pos (by exact h)]
  rfl
theorem rtick_nak {p : LP} (hp : LOk p) {j tr c : Nat} {bu : List UInt8} (h : c ≤ 1) (h1 : 0 < j) (h2 : j ≤ p.bl.length) : tickR p.crc p.V (rat p j tr c bu) = ([21], rat p j tr p.V []) := by
  unfold tickR askR
  rw [if_neg (by simp [rat]), if_neg (by show ¬ 1 < c; omega), if_pos (by show flat p j ≠ []; exact flat_pos hp h1 h2)]
  rfl
theorem rtick_ask {p : LP} {tr c : Nat} {bu : List UInt8} (h : c ≤ 1) (ht : 0 < tr) : tickR p.crc p.V (rat p 0 tr c bu) = ([goB p.crc], rat p 0 (tr - 1) p.V []) := by
  unfold tickR askR
  rw [if_neg (by simp [rat]), if_neg (by show ¬ 1 < c; omega), if_neg (by show ¬ flat p 0 ≠ []; simp [flat]), if_neg (by show ¬ tr = 0; omega)]
  rfl
theorem rtick_out {p : LP} {c : Nat} {bu : List UInt8} (h : c ≤ 1) : tickR p.crc p.V (rat p 0 0 c bu) = ([24, 24], stopR (rat p 0 0 p.V []) 10) := by
  unfold tickR askR
  rw [if_neg (by simp [rat]), if_neg (by show ¬ 1 < c; omega), if_neg (by show ¬ flat p 0 ≠ []; simp [flat]), if_pos (by rfl)]
  rfl
theorem rtick_over {crc : Bool} {V : Nat} {r : Rd} (h : r.ov = true) : tickR crc V r = ([], r) := by unfold tickR; rw [if_pos h]
theorem rput_none {crc : Bool} {V : Nat} {r : Rd} : putR crc true V r [] = ([], r) := by unfold putR; rw [if_pos (.inr rfl)]
theorem rput_over {crc : Bool} {V : Nat} {r : Rd} {x : List UInt8} (h : r.ov = true) : putR crc true V r x = ([], r) := by unfold putR; rw [if_pos (.inl h)]
theorem rput_see {p : LP} {j tr c : Nat} {x : List UInt8} (hx : x ≠ []) : putR p.crc true p.V (rat p j tr c []) x = seeR p.crc true (rat p j tr p.V x) := by
  unfold putR
  rw [if_neg (by simp [rat, hx])]
  rfl
/-- A block, whatever comes behind it. -/
theorem rput_block {p : LP} (hp : LOk p) {j tr c : Nat} (hj : j < p.bl.length) (rest : List UInt8) : putR p.crc true p.V (rat p j tr c []) (pc p j ++ rest) = ([6], rat p (j + 1) tr p.V []) := by
  obtain ⟨b, hb, e⟩ := pc_lt hj
  obtain ⟨h1, h2⟩ := hp.num j b hb
  rw [rput_see (by rw [e]; simp [enc]), e]
  obtain ⟨r, er, hl⟩ := enc_head b.1 b.2 p.crc
  rw [see_lead p.crc true _ (leadB b.2.length) (r ++ rest) (by show enc b.1 b.2 p.crc ++ rest = _; rw [er]; rfl) hl]
  unfold scanR
  have hs := scan_enc b.1 b.2 p.crc h2 rest
  show (if (scanL (enc b.1 b.2 p.crc ++ rest) p.crc).1 = 0 then _ else if (scanL (enc b.1 b.2 p.crc ++ rest) p.crc).1 = 1 then _ else takeR true _ (scanL (enc b.1 b.2 p.crc ++ rest) p.crc).2.1 (scanL (enc b.1 b.2 p.crc ++ rest) p.crc).2.2) = _
  rw [hs]
  show takeR true (rat p j tr p.V []) b.1 b.2 = _
  unfold takeR
  rw [if_pos (by exact h1)]
  unfold finR
  rw [if_neg (fun e => by cases e.1)]
  have e1 : UInt8.ofNat (j + 1) + 1 = UInt8.ofNat (j + 1 + 1) := by rw [UInt8.ofNat_add (j + 1) 1]; rfl
  have e2 : (1 : Int) - (j : Int) - 1 = 1 - ((j + 1 : Nat) : Int) := by omega
  show ([6], (⟨UInt8.ofNat (j + 1) + 1, 1 - (j : Int) - 1, tr, p.V, [], flat p j ++ b.2, false, 0⟩ : Rd)) = _
  rw [e1, e2, ← flat_succ hb]
  rfl
theorem scan_bad_app {bs : List UInt8} {crc : Bool} (h : scanL bs crc = (1, 0, [])) (h3 : 3 ≤ bs.length) (rest : List UInt8) : scanL (bs ++ rest) crc = (1, 0, []) := by
  match bs, h3 with
  | a :: b :: c :: r, _ =>
    have hf : firstOf (a :: b :: c :: r ++ rest) = firstOf (a :: b :: c :: r) := rfl
    have ht : third (a :: b :: c :: r ++ rest) = third (a :: b :: c :: r) := rfl
    have hne : (a :: b :: c :: r).length ≠ 0 := by simp
    have hne2 : (a :: b :: c :: r ++ rest).length ≠ 0 := by simp
    by_cases h1 : szD (firstOf (a :: b :: c :: r)) = 0
    · exact scan_lead crc hne2 (by rw [hf]; exact h1)
    · cases h2 : third (a :: b :: c :: r)
      · exact scan_third crc hne2 (by rw [hf]; exact h1) (by rw [ht]; exact h2)
      · rcases Nat.lt_or_ge (a :: b :: c :: r).length (szA (firstOf (a :: b :: c :: r)) crc) with hl | hl
        · rw [scan_few hne h1 h2 hl] at h; simp at h
        · by_cases htl : tailOf (a :: b :: c :: r) crc = trl crc (dataOf (a :: b :: c :: r))
          · rw [scan_good hne h1 h2 (by omega) htl] at h; simp at h
          · have hs : szA (firstOf (a :: b :: c :: r)) crc = 3 + szD (firstOf (a :: b :: c :: r)) + szT crc := by unfold szA; rw [if_neg h1]
            have e1 : tailOf (a :: b :: c :: r ++ rest) crc = tailOf (a :: b :: c :: r) crc := by
              unfold tailOf
              rw [hf, List.drop_append_of_le_length (by omega), List.take_append_of_le_length (by rw [List.length_drop]; omega)]
            have e2 : dataOf (a :: b :: c :: r ++ rest) = dataOf (a :: b :: c :: r) := by
              unfold dataOf
              rw [hf, List.drop_append_of_le_length (by omega), List.take_append_of_le_length (by rw [List.length_drop]; omega)]
            exact scan_tail hne2 (by rw [hf]; exact h1) (by rw [ht]; exact h2) (by rw [hf, List.length_append]; omega) (by rw [e1, e2]; exact htl)
/-- A block of which a byte is turned, whatever comes behind it. -/
theorem rput_turned {p : LP} (hp : LOk p) {j tr c : Nat} (hj : j < p.bl.length) (rest : List UInt8) (k : Nat) (hk1 : 1 ≤ k) (hk : k < (pc p j).length) (y : UInt8) (hy : y ≠ 0) :
    putR p.crc true p.V (rat p j tr c []) ((pc p j ++ rest).set k ((pc p j ++ rest).getD k 0 ^^^ y)) = ([21], rat p j tr p.V []) := by
  obtain ⟨b, hb, e⟩ := pc_lt hj
  obtain ⟨h1, h2⟩ := hp.num j b hb
  obtain ⟨z, hz⟩ : ∃ z, (pc p j)[k]? = some z := ⟨_, List.getElem?_eq_getElem hk⟩
  have hg : (pc p j ++ rest).getD k 0 = z := by
    rw [List.getD_eq_getElem?_getD, List.getElem?_append_left hk, hz]; rfl
  rw [hg, List.set_append_left _ _ hk, e]
  rw [e] at hz hk
  have hsc := scan_turn b.1 b.2 p.crc h2 k hk1 z (z ^^^ y) hz (u8_xor_ne hy)
  have hsc2 := scan_bad_app hsc (by rw [List.length_set, enc_len]; omega) rest
  obtain ⟨r, er, hl⟩ := enc_head b.1 b.2 p.crc
  obtain ⟨k', rfl⟩ : ∃ k', k = k' + 1 := ⟨k - 1, by omega⟩
  have e2 : (enc b.1 b.2 p.crc).set (k' + 1) (z ^^^ y) ++ rest = leadB b.2.length :: (r.set k' (z ^^^ y) ++ rest) := by rw [er]; rfl
  rw [rput_see (by rw [e2]; simp), see_lead p.crc true _ _ _ e2 hl]
  unfold scanR
  show (if (scanL ((enc b.1 b.2 p.crc).set (k' + 1) (z ^^^ y) ++ rest) p.crc).1 = 0 then _ else if (scanL ((enc b.1 b.2 p.crc).set (k' + 1) (z ^^^ y) ++ rest) p.crc).1 = 1 then _ else _) = _
  rw [hsc2]
  rfl
theorem rput_eot {p : LP} {j tr c : Nat} : putR p.crc true p.V (rat p j tr c []) [4] = ([6], stopR (rat p j tr p.V [4]) 0) := by
  rw [rput_see (by simp)]
  unfold seeR
  rw [if_pos ⟨rfl, rfl⟩]
theorem scan_short {bs : List UInt8} {crc : Bool} (h : bs.length < 132) : (scanL bs crc).1 = 0 ∨ (scanL bs crc).1 = 1 := by
  rcases scan_state bs crc with e | e | e
  · exact .inl e
  · exact .inr e
  · exfalso
    unfold scanL at e
    split at e
    · simp at e
    split at e
    · simp at e
    split at e
    · simp at e
    split at e
    · simp at e
    split at e
    · simp at e
    rename_i h1 h2 h3 h4 h5
    have hs : szA (firstOf bs) crc = 3 + szD (firstOf bs) + szT crc := by unfold szA; rw [if_neg h2]
    have hd : 128 ≤ szD (firstOf bs) := by
      unfold szD at h2 ⊢
      split
      · exact Nat.le_refl _
      · split
        · omega
        · rename_i a b; rw [if_neg a, if_neg b] at h2; exact absurd rfl h2
    have := szT_pos crc
    omega
/-- Few bytes are no block: what they come to. -/
theorem rput_few {p : LP} {j tr c : Nat} {x : List UInt8} (hx : x ≠ []) (hl : x.length < 132) :
    (x.head? = some 4 ∧ putR p.crc true p.V (rat p j tr c []) x = ([6], stopR (rat p j tr p.V x) 0)) ∨ (x.head? ≠ some 4 ∧
      (putR p.crc true p.V (rat p j tr c []) x = ([], stopR (rat p j tr p.V x) 9) ∨ putR p.crc true p.V (rat p j tr c []) x = ([], rat p j tr p.V x) ∨ putR p.crc true p.V (rat p j tr c []) x = ([21], rat p j tr p.V []))) := by
  rw [rput_see hx]
  unfold seeR
  by_cases h1 : true = true ∧ (rat p j tr p.V x).bu.head? = some 4
  · rw [if_pos h1]; exact .inl ⟨h1.2, rfl⟩
  rw [if_neg h1]
  refine .inr ⟨fun e => h1 ⟨rfl, e⟩, ?_⟩
  by_cases h2 : (rat p j tr p.V x).bu.take 2 = [24, 24]
  · rw [if_pos h2]; exact .inl rfl
  rw [if_neg h2]
  by_cases h3 : (rat p j tr p.V x).bu = [24]
  · rw [if_pos h3]; exact .inr (.inl rfl)
  rw [if_neg h3]
  unfold scanR
  rcases scan_short (crc := p.crc) hl with e | e
  · have e' : (scanL (rat p j tr p.V x).bu p.crc).1 = 0 := e
    rw [if_pos e']; exact .inr (.inl rfl)
  · have e' : (scanL (rat p j tr p.V x).bu p.crc).1 = 1 := e
    rw [if_neg (by rw [e']; decide), if_pos e']; exact .inr (.inr rfl)


theorem enc_le {d : List UInt8} (num : UInt8) (crc : Bool) (h : encOk d = true) : (enc num d crc).length ≤ 1029 := by
  have := szT_pos crc
  rw [enc_len]
  have h2 : d.length = 128 ∨ d.length = 1024 := by simpa [encOk] using h
  have h3 : szT crc ≤ 2 := by unfold szT; split <;> omega
  omega
theorem send_le (bl : Bks) (s : Sd) : (sendS bl s).1.length ≤ 1029 := by
  unfold sendS
  split
  · split
    · split
      · rename_i h; exact enc_le _ _ h
      · simp
    · simp
  · split <;> simp
theorem go_le (bl : Bks) (W : Nat) (cl : Bool) (s : Sd) : (goS bl W cl s).1.length ≤ 1029 := by
  unfold goS
  split
  · exact send_le _ _
  · split <;> simp
theorem again_le (bl : Bks) (T W : Nat) (s : Sd) : (againS bl T W s).1.length ≤ 1029 := by
  unfold againS
  split
  · simp
  · exact send_le _ _
theorem sput_le (bl : Bks) (T W : Nat) (cl : Bool) (s : Sd) (c : UInt8) : (putS bl T W cl s c).1.length ≤ 1029 := by
  unfold putS
  split
  · simp
  split
  · simp
  split
  · split
    · exact go_le _ _ _ _
    · simp
  split
  · exact go_le _ _ _ _
  split
  · exact again_le _ _ _ _
  · simp
theorem stick_le (bl : Bks) (T W : Nat) (s : Sd) : (tickS bl T W s).1.length ≤ 1029 := by
  unfold tickS
  split
  · simp
  split
  · simp
  · exact again_le _ _ _ _
theorem feed_le (p : LP) : ∀ (l : List UInt8) (s : Sd), (feedO p s l).length ≤ 1029 * l.length
  | [], s => by simp [feedO]
  | c :: r, s => by
    have h1 := sput_le p.bl p.T p.W true s c
    have h2 := feed_le p r (putS p.bl p.T p.W true s c).2
    unfold feedO
    rw [List.length_append, List.length_cons]
    omega
theorem arr_le (ns : List Nz) (j : Nat) (x : List UInt8) : (arr ns j x).length ≤ x.length := by
  unfold arr
  split
  · exact Nat.le_refl _
  · split
    · simp
    · simp [hitL]
theorem rput_out (crc cl : Bool) (V : Nat) (s : Rd) (b : List UInt8) : (putR crc cl V s b).1.length ≤ 2 := by
  unfold putR seeR scanR takeR finR
  repeat' split
  all_goals simp
theorem rtick_out_le (crc : Bool) (V : Nat) (s : Rd) : (tickR crc V s).1.length ≤ 2 := by
  unfold tickR askR
  repeat' split
  all_goals simp
structure Rb (da bu k : Nat) (s : Rd) : Prop where
  da : s.da.length ≤ da
  bu : s.bu.length ≤ bu
  bl : 1 - (k : Int) ≤ s.bl
theorem Rb.tick {da bu k : Nat} {s : Rd} (h : Rb da bu k s) (crc : Bool) (V : Nat) : Rb da bu k (tickR crc V s).2 := by
  obtain ⟨h1, h2, h3⟩ := h
  unfold tickR askR stopR
  repeat' split
  all_goals exact ⟨h1, by first | exact h2 | (simp), h3⟩
theorem take_rb {da bu k : Nat} {s : Rd} (h : Rb da bu k s) (cl : Bool) (num : UInt8) (d : List UInt8) (hd : d.length ≤ 1024) : Rb (da + 1024) bu (k + 1) (takeR cl s num d).2 := by
  obtain ⟨h1, h2, h3⟩ := h
  unfold takeR finR stopR
  repeat' split
  all_goals exact ⟨by first | (show (s.da ++ d).length ≤ _; rw [List.length_append]; omega) | (show s.da.length ≤ _; omega), by first | exact h2 | (show ([] : List UInt8).length ≤ _; simp), by first | (show _ ≤ s.bl - 1; omega) | (show _ ≤ s.bl; omega)⟩
theorem Rb.put {da bu k : Nat} {s : Rd} (h : Rb da bu k s) (crc cl : Bool) (V : Nat) (b : List UInt8) : Rb (da + 1024) (bu + b.length) (k + 1) (putR crc cl V s b).2 := by
  have h0 : Rb (da + 1024) (bu + b.length) (k + 1) s := ⟨by have := h.da; omega, by have := h.bu; omega, by have := h.bl; omega⟩
  have h1 : Rb (da + 1024) (bu + b.length) (k + 1) { s with tk := V, bu := s.bu ++ b } := ⟨h0.da, by show (s.bu ++ b).length ≤ _; rw [List.length_append]; have := h.bu; omega, h0.bl⟩
  have h2 : Rb da (bu + b.length) k { s with tk := V, bu := [] } := ⟨h.da, by simp, h.bl⟩
  unfold putR
  split
  · exact h0
  unfold seeR
  split
  · exact ⟨h1.da, by show ([] : List UInt8).length ≤ _; simp, h1.bl⟩
  split
  · exact ⟨h1.da, by show ([] : List UInt8).length ≤ _; simp, h1.bl⟩
  split
  · exact h1
  unfold scanR
  split
  · exact h1
  split
  · exact ⟨h1.da, by show ([] : List UInt8).length ≤ _; simp, h1.bl⟩
  · rename_i e1 e2
    refine take_rb h2 cl _ _ ?_
    rcases scan_state (s.bu ++ b) crc with e | e | e
    · exact absurd e e1
    · exact absurd e e2
    · rcases scan_data (s.bu ++ b) crc e with e | e <;> (show (scanL (s.bu ++ b) crc).2.2.length ≤ _; omega)
/-- What is sent in a tick. -/
def downL (p : LP) (x : Lk) : List UInt8 := (tickS p.bl p.T p.W x.s).1 ++ feedO p (tickS p.bl p.T p.W x.s).2 (x.up ++ (tickR p.crc p.V x.r).1)
theorem down_le (p : LP) (x : Lk) (h : x.up.length ≤ 2) : (downL p x).length ≤ 6000 := by
  have h1 := stick_le p.bl p.T p.W x.s
  have h2 := feed_le p (x.up ++ (tickR p.crc p.V x.r).1) (tickS p.bl p.T p.W x.s).2
  have h3 := rtick_out_le p.crc p.V x.r
  unfold downL
  rw [List.length_append] at h2 ⊢
  omega
/-- The talk, with what was seen at the beginning of the last tick: whether both are over, what went wrong. -/
def runX (p : LP) (ns : List Nz) : Nat → Lk → Bool × Nat × Nat → Lk × Nat × (Bool × Nat × Nat)
  | 0, x, o => (x, 0, o)
  | n + 1, x, _ => if overL x = true then (x, 0, (true, x.s.err, x.r.er)) else
      ((runX p ns n (stepL p ns x) (false, x.s.err, x.r.er)).1, (runX p ns n (stepL p ns x) (false, x.s.err, x.r.er)).2.1 + 1, (runX p ns n (stepL p ns x) (false, x.s.err, x.r.er)).2.2)
theorem runX_run (p : LP) (ns : List Nz) : ∀ (n : Nat) (x : Lk) (o : Bool × Nat × Nat), ((runX p ns n x o).1, (runX p ns n x o).2.1) = runL p ns n x
  | 0, x, o => rfl
  | n + 1, x, o => by
    unfold runX runL
    by_cases h : overL x = true
    · rw [if_pos h, if_pos h]
    · rw [if_neg h, if_neg h]
      have ih := runX_run p ns n (stepL p ns x) (false, x.s.err, x.r.er)
      rw [← ih]
/-- What was seen tells the truth if both were over; and so it is if fewer ticks went by than might. -/
theorem runX_over (p : LP) (ns : List Nz) : ∀ (n : Nat) (x : Lk) (o : Bool × Nat × Nat), (o.1 = true → False) →
    ((runX p ns n x o).2.2.1 = true → overL (runX p ns n x o).1 = true ∧ (runX p ns n x o).2.2.2 = ((runX p ns n x o).1.s.err, (runX p ns n x o).1.r.er)) ∧
    ((runX p ns n x o).2.1 < n → (runX p ns n x o).2.2.1 = true)
  | 0, x, o, ho => ⟨fun h => (ho h).elim, fun h => absurd h (Nat.not_lt_zero _)⟩
  | n + 1, x, o, ho => by
    unfold runX
    by_cases h : overL x = true
    · rw [if_pos h]
      exact ⟨fun _ => ⟨h, rfl⟩, fun _ => rfl⟩
    · rw [if_neg h]
      have ih := runX_over p ns n (stepL p ns x) (false, x.s.err, x.r.er) (fun hh => by cases hh)
      exact ⟨ih.1, fun hh => ih.2 (by simpa using hh)⟩
theorem runX_le (p : LP) (ns : List Nz) : ∀ (n : Nat) (x : Lk) (o : Bool × Nat × Nat), (runX p ns n x o).2.1 ≤ n
  | 0, x, o => Nat.le_refl _
  | n + 1, x, o => by
    unfold runX
    by_cases h : overL x = true
    · rw [if_pos h]; exact Nat.zero_le _
    · rw [if_neg h]
      have ih := runX_le p ns n (stepL p ns x) (false, x.s.err, x.r.er)
      simp only
      omega


/-- Both at the beginning. -/
def startL (p : LP) (R : Nat) : Lk := ⟨newS p.W p.crc, newR 1 1 R, [], 0⟩
/-- The receiver that has taken piece k. -/
def took (p : LP) (k tr : Nat) : Rd := if k < p.bl.length then rat p (k + 1) tr p.V [] else stopR (rat p k tr p.V [4]) 0
theorem took_put {p : LP} (hp : LOk p) {k tr c : Nat} (hk : k ≤ p.bl.length) : putR p.crc true p.V (rat p k tr c []) (pc p k) = ([6], took p k tr) := by
  unfold took
  by_cases h : k < p.bl.length
  · rw [if_pos h]
    have := rput_block hp (tr := tr) (c := c) h []
    rwa [List.append_nil] at this
  · rw [if_neg h]
    obtain rfl : k = p.bl.length := by omega
    rw [pc_end]
    exact rput_eot
theorem new_rat (p : LP) (R : Nat) : newR 1 1 R = rat p 0 R 1 [] := by
  unfold newR rat
  rw [flat_zero]
  rfl
theorem new_s (p : LP) : newS p.W p.crc = ⟨0, 0, p.crc, 0, 1, p.W, false⟩ := rfl
theorem stick_start {p : LP} (hW : 2 ≤ p.W) : tickS p.bl p.T p.W (newS p.W p.crc) = ([], ⟨0, 0, p.crc, 0, 1, p.W - 1, false⟩) := by
  unfold tickS
  rw [if_neg (by simp [newS]), if_pos (by show 1 < p.W; omega)]
  rfl
/-- The first tick: piece 0 is sent. -/
theorem step_start {p : LP} (hp : LOk p) (hW : 2 ≤ p.W) (ns : List Nz) {R : Nat} (hR : 0 < R) :
    stepL p ns (startL p R) = ⟨sat p 0 1 p.W, (putR p.crc true p.V (rat p 0 (R - 1) p.V []) (arr ns 0 (pc p 0))).2, (putR p.crc true p.V (rat p 0 (R - 1) p.V []) (arr ns 0 (pc p 0))).1, 1⟩ := by
  refine step_some (x := startL p R) (o := [goB p.crc]) (d0 := []) (d1 := pc p 0) (d := pc p 0) (r1 := rat p 0 (R - 1) p.V []) (s1 := ⟨0, 0, p.crc, 0, 1, p.W - 1, false⟩) ?_ (stick_start hW) ?_ ?_ rfl (pc_ne p 0) rfl
  · show tickR p.crc p.V (newR 1 1 R) = _
    rw [new_rat p R]
    exact rtick_ask (Nat.le_refl _) hR
  · show feedO p _ [goB p.crc] = _
    rw [feedO_one, put_start hp]
  · show feedS p _ [goB p.crc] = _
    rw [feedS_one, put_start hp]
theorem took_tick {p : LP} (hV : 2 ≤ p.V) (k tr : Nat) : ∃ r, tickR p.crc p.V (took p k tr) = ([], r) ∧ ((k < p.bl.length ∧ r = rat p (k + 1) tr (p.V - 1) []) ∨ (¬ k < p.bl.length ∧ r = took p k tr)) := by
  by_cases h : k < p.bl.length
  · refine ⟨_, ?_, .inl ⟨h, rfl⟩⟩
    unfold took
    rw [if_pos h]
    exact rtick_more (by omega)
  · refine ⟨_, ?_, .inr ⟨h, rfl⟩⟩
    unfold took
    rw [if_neg h]
    exact rtick_over rfl
/-- An answer that takes piece k: the next one is sent. -/
theorem step_ack {p : LP} (hp : LOk p) (hW : 2 ≤ p.W) (hV : 2 ≤ p.V) (ns : List Nz) {k i tr j : Nat} (hk : k < p.bl.length) :
    stepL p ns ⟨sat p k i p.W, took p k tr, [6], j⟩ = ⟨sat p (k + 1) 1 p.W, (putR p.crc true p.V (rat p (k + 1) tr (p.V - 1) []) (arr ns j (pc p (k + 1)))).2, (putR p.crc true p.V (rat p (k + 1) tr (p.V - 1) []) (arr ns j (pc p (k + 1)))).1, j + 1⟩ := by
  refine step_some (x := ⟨sat p k i p.W, took p k tr, [6], j⟩) (o := []) (d0 := []) (d1 := pc p (k + 1)) (d := pc p (k + 1)) (r1 := rat p (k + 1) tr (p.V - 1) []) (s1 := sat p k i (p.W - 1)) ?_ (tick_more (by omega)) ?_ ?_ rfl (pc_ne p _) rfl
  · show tickR p.crc p.V (took p k tr) = _
    unfold took
    rw [if_pos hk]
    exact rtick_more (by omega)
  · show feedO p _ [6] = _
    rw [feedO_one, put_ack hp hk]
  · show feedS p _ [6] = _
    rw [feedS_one, put_ack hp hk]
/-- The answer to the end: both are over. -/
theorem step_end {p : LP} (hW : 2 ≤ p.W) (ns : List Nz) {i tr j : Nat} :
    stepL p ns ⟨sat p p.bl.length i p.W, took p p.bl.length tr, [6], j⟩ = ⟨⟨3, p.bl.length, p.crc, 0, 1, p.W, false⟩, took p p.bl.length tr, [], j⟩ := by
  refine step_none (x := ⟨sat p p.bl.length i p.W, took p p.bl.length tr, [6], j⟩) (o := []) (d0 := []) (d1 := []) (s1 := sat p p.bl.length i (p.W - 1)) ?_ (tick_more (by omega)) ?_ ?_ rfl
  · show tickR p.crc p.V (took p p.bl.length tr) = _
    unfold took
    rw [if_neg (Nat.lt_irrefl _)]
    exact rtick_over rfl
  · show feedO p _ [6] = _
    rw [feedO_one, put_end]
  · show feedS p _ [6] = _
    rw [feedS_one, put_end]
theorem sat_not_over (p : LP) (k i a : Nat) (r : Rd) (up : List UInt8) (j : Nat) : overL ⟨sat p k i a, r, up, j⟩ = false := by
  have := sat3 p k i a
  unfold overL
  have e : ((sat p k i a).ph == 3) = false := by simpa using this
  show ((sat p k i a).ph == 3 && r.ov) = false
  rw [e]; rfl
theorem start_not_over (p : LP) (R : Nat) : overL (startL p R) = false := rfl
theorem runX_step {p : LP} {ns : List Nz} {n : Nat} {x : Lk} {o : Bool × Nat × Nat} (h : overL x = false) : runX p ns (n + 1) x o = ((runX p ns n (stepL p ns x) (false, x.s.err, x.r.er)).1, (runX p ns n (stepL p ns x) (false, x.s.err, x.r.er)).2.1 + 1, (runX p ns n (stepL p ns x) (false, x.s.err, x.r.er)).2.2) := by
  show (if overL x = true then _ else _) = _
  rw [if_neg (by rw [h]; simp)]
theorem runX_stop {p : LP} {ns : List Nz} {n : Nat} {x : Lk} {o : Bool × Nat × Nat} (h : overL x = true) : runX p ns (n + 1) x o = (x, 0, (true, x.s.err, x.r.er)) := by
  show (if overL x = true then _ else _) = _
  rw [if_pos h]
/-- Noise that does nothing up to some place. -/
def Still (ns : List Nz) (m : Nat) : Prop := ∀ j, j < m → ∀ x, arr ns j x = x
theorem still_none (m : Nat) : Still [] m := fun j _ x => by unfold arr; simp
/-- Behind the answer to piece k, all to come. -/
theorem run_acks {p : LP} (hp : LOk p) (hW : 2 ≤ p.W) (hV : 2 ≤ p.V) (ns : List Nz) (hs : Still ns (p.bl.length + 1)) (tr : Nat) : ∀ (q k N : Nat) (o : Bool × Nat × Nat), k + q = p.bl.length → q + 2 ≤ N →
    runX p ns N ⟨sat p k 1 p.W, took p k tr, [6], k + 1⟩ o = (⟨⟨3, p.bl.length, p.crc, 0, 1, p.W, false⟩, took p p.bl.length tr, [], p.bl.length + 1⟩, q + 1, (true, 0, 0))
  | 0, k, N, o, hk, hN => by
    obtain rfl : k = p.bl.length := by omega
    obtain ⟨N', rfl⟩ : ∃ N', N = N' + 1 + 1 := ⟨N - 2, by omega⟩
    rw [runX_step (sat_not_over _ _ _ _ _ _ _), step_end hW, runX_stop (by unfold overL took; rw [if_neg (Nat.lt_irrefl _)]; rfl)]
    unfold took
    rw [if_neg (Nat.lt_irrefl _)]
    rfl
  | q + 1, k, N, o, hk, hN => by
    obtain ⟨N', rfl⟩ : ∃ N', N = N' + 1 := ⟨N - 1, by omega⟩
    rw [runX_step (sat_not_over _ _ _ _ _ _ _), step_ack hp hW hV ns (by omega), hs (k + 1) (by omega), took_put hp (by omega), run_acks hp hW hV ns hs tr q (k + 1) N' _ (by omega) (by omega)]
/-- Without noise all is taken. -/
theorem run_clean {p : LP} (hp : LOk p) (hW : 2 ≤ p.W) (hV : 2 ≤ p.V) (ns : List Nz) (hs : Still ns (p.bl.length + 1)) {R : Nat} (hR : 0 < R) {N : Nat} (hN : p.bl.length + 3 ≤ N) (o : Bool × Nat × Nat) :
    runX p ns N (startL p R) o = (⟨⟨3, p.bl.length, p.crc, 0, 1, p.W, false⟩, took p p.bl.length (R - 1), [], p.bl.length + 1⟩, p.bl.length + 2, (true, 0, 0)) := by
  obtain ⟨N', rfl⟩ : ∃ N', N = N' + 1 := ⟨N - 1, by omega⟩
  rw [runX_step (start_not_over p R), step_start hp hW ns hR, hs 0 (by omega), took_put hp (Nat.zero_le _), run_acks hp hW hV ns hs (R - 1) p.bl.length 0 N' _ (by omega) (by omega)]
theorem took_da (p : LP) (tr : Nat) : (took p p.bl.length tr).da = flat p p.bl.length := by unfold took; rw [if_neg (Nat.lt_irrefl _)]; rfl


/-- What a batch is of: tries and ticks, the blocks of the three parts; what data tell, and how many bytes that is; what tells that nothing more comes. -/
structure BP (φ : Type) where
  T : Nat
  W : Nat
  b0 : Bks
  b1 : Bks
  b2 : Bks
  rd : List UInt8 → Option φ
  sz : φ → Nat
  en : List UInt8 → Bool
def blkB {φ : Type} (p : BP φ) : Nat → Bks
  | 0 => p.b0
  | 1 => p.b1
  | _ => p.b2
/-- Which parts end with an end. -/
def clB (k : Nat) : Bool := k == 1
structure Bs where
  k : Nat
  s : Sd
  ov : Bool
  er : Nat
def nextBS {φ : Type} (p : BP φ) (b : Bs) (s : Sd) : Bs :=
  if s.ph = 3 then (if s.err ≠ 0 ∨ b.k = 2 then ⟨b.k, s, true, s.err⟩ else ⟨b.k + 1, newS p.W true, false, 0⟩) else ⟨b.k, s, false, 0⟩
def putBS {φ : Type} (p : BP φ) (b : Bs) (c : UInt8) : List UInt8 × Bs :=
  if b.ov = true then ([], b) else ((putS (blkB p b.k) p.T p.W (clB b.k) b.s c).1, nextBS p b (putS (blkB p b.k) p.T p.W (clB b.k) b.s c).2)
def tickBS {φ : Type} (p : BP φ) (b : Bs) : List UInt8 × Bs :=
  if b.ov = true then ([], b) else ((tickS (blkB p b.k) p.T p.W b.s).1, nextBS p b (tickS (blkB p b.k) p.T p.W b.s).2)
structure Br (φ : Type) where
  k : Nat
  r : Rd
  ov : Bool
  er : Nat
  fi : Option φ
  da : List UInt8
def nextBR {φ : Type} (p : BP φ) (b : Br φ) (r : Rd) : Br φ :=
  if r.ov = true then
    if r.er ≠ 0 then { b with r := r, ov := true, er := r.er }
    else if b.k = 0 then
      match p.rd r.da with
      | some f => ⟨1, newR 1 1 p.T, false, 0, some f, []⟩
      | none => { b with r := r, ov := true, er := 14 }
    else if b.k = 1 then
      match b.fi with
      | some f => if r.da.length < p.sz f then { b with r := r, ov := true, er := 13 } else ⟨2, newR 0 1 p.T, false, 0, some f, r.da.take (p.sz f)⟩
      | none => { b with r := r, ov := true, er := 13 }
    else { b with r := r, ov := true, er := if p.en r.da then 0 else 14 }
  else { b with r := r }
def putBR {φ : Type} (p : BP φ) (b : Br φ) (x : List UInt8) : List UInt8 × Br φ :=
  if b.ov = true then ([], b) else ((putR true (clB b.k) p.W b.r x).1, nextBR p b (putR true (clB b.k) p.W b.r x).2)
def tickBR {φ : Type} (p : BP φ) (b : Br φ) : List UInt8 × Br φ :=
  if b.ov = true then ([], b) else ((tickR true p.W b.r).1, nextBR p b (tickR true p.W b.r).2)
def newBS {φ : Type} (p : BP φ) : Bs := ⟨0, newS p.W true, false, 0⟩
def newBR {φ : Type} (p : BP φ) : Br φ := ⟨0, newR 0 1 p.T, false, 0, none, []⟩
def feedBS {φ : Type} (p : BP φ) : Bs → List UInt8 → Bs
  | b, [] => b
  | b, c :: r => feedBS p (putBS p b c).2 r
def feedBO {φ : Type} (p : BP φ) : Bs → List UInt8 → List UInt8
  | _, [] => []
  | b, c :: r => (putBS p b c).1 ++ feedBO p (putBS p b c).2 r
/-- Both, and what travels up. -/
structure Tlk (φ : Type) where
  s : Bs
  r : Br φ
  up : List UInt8
/-- A tick of the talk. -/
def stepT {φ : Type} (p : BP φ) (x : Tlk φ) : Tlk φ :=
  let u := x.up ++ (tickBR p x.r).1
  let d := (tickBS p x.s).1 ++ feedBO p (tickBS p x.s).2 u
  if d = [] then ⟨feedBS p (tickBS p x.s).2 u, (tickBR p x.r).2, []⟩
  else ⟨feedBS p (tickBS p x.s).2 u, (putBR p (tickBR p x.r).2 d).2, (putBR p (tickBR p x.r).2 d).1⟩
def runT {φ : Type} (p : BP φ) : Nat → Tlk φ → Tlk φ
  | 0, x => x
  | n + 1, x => runT p n (stepT p x)
theorem runT_add {φ : Type} (p : BP φ) : ∀ (m n : Nat) (x : Tlk φ), runT p (m + n) x = runT p n (runT p m x)
  | 0, n, x => by rw [Nat.zero_add]; rfl
  | m + 1, n, x => by rw [show m + 1 + n = (m + n) + 1 by omega]; exact runT_add p m n (stepT p x)
theorem stepT_some {φ : Type} {p : BP φ} {x : Tlk φ} {o d0 d1 d a : List UInt8} {r1 r2 : Br φ} {s1 s2 : Bs} (hr : tickBR p x.r = (o, r1)) (ht : tickBS p x.s = (d0, s1)) (hf : feedBO p s1 (x.up ++ o) = d1) (hs : feedBS p s1 (x.up ++ o) = s2) (hd : d0 ++ d1 = d) (hne : d ≠ []) (hp : putBR p r1 d = (a, r2)) : stepT p x = ⟨s2, r2, a⟩ := by
  unfold stepT
  simp only [hr, ht, hf, hs, hd, if_neg hne, hp]
theorem stepT_none {φ : Type} {p : BP φ} {x : Tlk φ} {o d0 d1 : List UInt8} {r1 : Br φ} {s1 s2 : Bs} (hr : tickBR p x.r = (o, r1)) (ht : tickBS p x.s = (d0, s1)) (hf : feedBO p s1 (x.up ++ o) = d1) (hs : feedBS p s1 (x.up ++ o) = s2) (hd : d0 ++ d1 = []) : stepT p x = ⟨s2, r1, []⟩ := by
  unfold stepT
  simp only [hr, ht, hf, hs, hd, if_pos]

/-- What is asked of a batch's parts. -/
structure BOk {φ : Type} (p : BP φ) (head tail : List UInt8) (f : φ) : Prop where
  T1 : 1 ≤ p.T
  W2 : 2 ≤ p.W
  b0 : p.b0 = [(0, head)]
  b2 : p.b2 = [(0, tail)]
  h0 : head.length = 128 ∨ head.length = 1024
  h2 : tail.length = 128 ∨ tail.length = 1024
  num : ∀ (j : Nat) (b : UInt8 × List UInt8), p.b1[j]? = some b → b.1 = UInt8.ofNat (j + 1) ∧ (b.2.length = 128 ∨ b.2.length = 1024)
  few : p.b1.length ≤ 250
  rd : p.rd head = some f
  en : p.en tail = true
  sz : p.sz f ≤ ((p.b1.map (·.2)).flatten).length
/-- The second part's talk. -/
def lpB {φ : Type} (p : BP φ) : LP := ⟨p.b1, p.T, p.W, true, p.W⟩
theorem BOk.lok {φ : Type} {p : BP φ} {head tail : List UInt8} {f : φ} (h : BOk p head tail f) : LOk (lpB p) := ⟨h.num, h.few, h.T1⟩

/-- A part of one block: its sender at the block. -/
def oneS (p : Nat) (W : Nat) : Sd := ⟨1, 0, true, 0, 1, W, false⟩
theorem one_start {bl : Bks} {d : List UInt8} {T W a : Nat} (hb : bl = [(0, d)]) (hd : d.length = 128 ∨ d.length = 1024) : putS bl T W false ⟨0, 0, true, 0, 1, a, false⟩ 67 = (enc 0 d true, oneS 0 W) := by
  subst hb
  unfold putS
  rw [if_neg (by simp), if_neg (by simp), if_pos (by rfl), if_pos (.inr ⟨rfl, rfl⟩)]
  unfold goS
  rw [if_pos (by simp)]
  unfold sendS
  rw [if_pos rfl]
  have ho : encOk d = true := by rcases hd with e | e <;> simp [encOk, e]
  simp only [List.getElem?_cons_zero, ho, if_true]
  rfl
theorem one_ack {bl : Bks} {d : List UInt8} {T W a : Nat} (hb : bl = [(0, d)]) : putS bl T W false ⟨1, 0, true, 0, 1, a, false⟩ 6 = ([], ⟨3, 1, true, 0, 1, W, false⟩) := by
  subst hb
  unfold putS
  rw [if_neg (by simp), if_neg (by simp), if_neg (by simp), if_pos rfl]
  unfold goS
  rw [if_neg (by simp), if_neg (by simp)]
  rfl
/-- A receiver that has asked once. -/
def askd (number : UInt8) (T V : Nat) : Rd := ⟨number, 1, T - 1, V, [], [], false, 0⟩
theorem new_ask {V : Nat} {number : UInt8} {T : Nat} (hT : 1 ≤ T) : tickR true V (newR number 1 T) = ([67], askd number T V) := by
  unfold tickR askR newR
  rw [if_neg (by simp), if_neg (by simp), if_neg (by simp), if_neg (by show ¬ T = 0; omega)]
  rfl
theorem one_take {d : List UInt8} {T V W : Nat} (hd : d.length = 128 ∨ d.length = 1024) : putR true false V (askd 0 T W) (enc 0 d true) = ([6], ⟨1, 0, T - 1, V, [], d, true, 0⟩) := by
  rw [put_block true false V _ 0 d hd rfl rfl]
  unfold takeR askd
  simp only
  rw [if_pos trivial]
  unfold finR
  simp only
  rw [if_pos ⟨trivial, by omega⟩]
  rfl
theorem stick_wait {bl : Bks} {T W : Nat} {s : Sd} (h3 : s.ph ≠ 3) (hw : 1 < s.wait) : tickS bl T W s = ([], { s with wait := s.wait - 1 }) := by
  unfold tickS
  rw [if_neg h3, if_pos hw]
theorem feedB_one {φ : Type} (p : BP φ) (b : Bs) (c : UInt8) : feedBO p b [c] = (putBS p b c).1 ∧ feedBS p b [c] = (putBS p b c).2 := ⟨by simp [feedBO], rfl⟩
theorem feedB_two {φ : Type} (p : BP φ) (b : Bs) (c e : UInt8) : feedBO p b [c, e] = (putBS p b c).1 ++ (putBS p (putBS p b c).2 e).1 ∧ feedBS p b [c, e] = (putBS p (putBS p b c).2 e).2 := ⟨by simp [feedBO], rfl⟩
theorem enc_ne (n : UInt8) (d : List UInt8) (crc : Bool) : enc n d crc ≠ [] := by simp [enc]

section
variable {φ : Type} {p : BP φ} {head tail : List UInt8} {f : φ}
/-- Behind the first part's block. -/
def after0 (p : BP φ) (f : φ) : Tlk φ := ⟨⟨0, oneS 0 p.W, false, 0⟩, ⟨1, newR 1 1 p.T, false, 0, some f, []⟩, [6]⟩
theorem step0 (h : BOk p head tail f) : stepT p ⟨newBS p, newBR p, []⟩ = after0 p f := by
  have hT := h.T1
  have hW := h.W2
  have e1 : tickBR p (newBR p) = ([67], ⟨0, askd 0 p.T p.W, false, 0, none, []⟩) := by
    unfold tickBR newBR
    rw [if_neg (by simp)]
    simp only
    rw [new_ask hT]
    rfl
  have e2 : tickBS p (newBS p) = ([], ⟨0, ⟨0, 0, true, 0, 1, p.W - 1, false⟩, false, 0⟩) := by
    unfold tickBS newBS
    rw [if_neg (by simp)]
    simp only
    rw [stick_wait (by simp [newS]) (by show 1 < p.W; omega)]
    rfl
  have e3 : putBS p ⟨0, ⟨0, 0, true, 0, 1, p.W - 1, false⟩, false, 0⟩ 67 = (enc 0 head true, ⟨0, oneS 0 p.W, false, 0⟩) := by
    unfold putBS
    rw [if_neg (by simp)]
    show ((putS (blkB p 0) p.T p.W false _ 67).1, nextBS p _ (putS (blkB p 0) p.T p.W false _ 67).2) = _
    rw [one_start (d := head) (show blkB p 0 = _ from h.b0) h.h0]
    rfl
  refine stepT_some (o := [67]) (d0 := []) (d1 := enc 0 head true) (d := enc 0 head true) e1 e2 (by rw [List.nil_append, (feedB_one _ _ _).1, e3]) (by rw [List.nil_append, (feedB_one _ _ _).2, e3]) rfl (enc_ne _ _ _) ?_
  unfold putBR
  rw [if_neg (by simp)]
  show ((putR true false p.W _ (enc 0 head true)).1, nextBR p _ (putR true false p.W _ (enc 0 head true)).2) = _
  rw [one_take h.h0]
  unfold nextBR
  rw [if_pos rfl, if_neg (by simp), if_pos rfl, h.rd]
/-- In the second part: piece k has been taken. -/
def in1 (p : BP φ) (f : φ) (k : Nat) : Tlk φ := ⟨⟨1, sat (lpB p) k 1 p.W, false, 0⟩, if k < p.b1.length then ⟨1, rat (lpB p) (k + 1) (p.T - 1) p.W [], false, 0, some f, []⟩ else ⟨2, newR 0 1 p.T, false, 0, some f, ((p.b1.map (·.2)).flatten).take (p.sz f)⟩, [6]⟩
theorem next1 {r r0 : Rd} (h1 : r.ov = true) (h2 : r.er = 0) (h3 : ¬ r.da.length < p.sz f) : nextBR p ⟨1, r0, false, 0, some f, []⟩ r = ⟨2, newR 0 1 p.T, false, 0, some f, r.da.take (p.sz f)⟩ := by
  unfold nextBR
  simp [h1, h2, h3]
theorem br_put1 (h : BOk p head tail f) {k c : Nat} (hk : k ≤ p.b1.length) : putBR p ⟨1, rat (lpB p) k (p.T - 1) c [], false, 0, some f, []⟩ (pc (lpB p) k) = ([6], (in1 p f k).r) := by
  have e := took_put h.lok (tr := p.T - 1) (c := c) (show k ≤ (lpB p).bl.length from hk)
  unfold putBR
  rw [if_neg (by simp)]
  show ((putR true true p.W _ (pc (lpB p) k)).1, nextBR p _ (putR true true p.W _ (pc (lpB p) k)).2) = _
  have e' : putR true true p.W (rat (lpB p) k (p.T - 1) c []) (pc (lpB p) k) = ([6], took (lpB p) k (p.T - 1)) := e
  rw [e']
  unfold in1
  by_cases hkl : k < p.b1.length
  · have e2 : took (lpB p) k (p.T - 1) = rat (lpB p) (k + 1) (p.T - 1) p.W [] := by unfold took; rw [if_pos (show k < (lpB p).bl.length from hkl)]; rfl
    rw [e2, if_pos hkl]
    rfl
  · obtain rfl : k = p.b1.length := by omega
    have e2 : took (lpB p) p.b1.length (p.T - 1) = stopR (rat (lpB p) p.b1.length (p.T - 1) p.W [4]) 0 := by unfold took; rw [if_neg (show ¬ p.b1.length < (lpB p).bl.length from Nat.lt_irrefl _)]; rfl
    rw [e2, if_neg (Nat.lt_irrefl _)]
    have hda : (stopR (rat (lpB p) p.b1.length (p.T - 1) p.W [4]) 0).da = (p.b1.map (·.2)).flatten := flat_all (lpB p)
    show (([6] : List UInt8), nextBR p _ (stopR (rat (lpB p) p.b1.length (p.T - 1) p.W [4]) 0)) = _
    rw [next1 rfl rfl (by rw [hda]; have := h.sz; omega), hda]
theorem tick_sat1 (h : BOk p head tail f) {k : Nat} : tickBS p ⟨1, sat (lpB p) k 1 p.W, false, 0⟩ = ([], ⟨1, sat (lpB p) k 1 (p.W - 1), false, 0⟩) := by
  have hW := h.W2
  unfold tickBS
  rw [if_neg (by simp)]
  have e : tickS (blkB p 1) p.T p.W (sat (lpB p) k 1 p.W) = ([], sat (lpB p) k 1 (p.W - 1)) := tick_more (p := lpB p) (by omega)
  show ((tickS (blkB p 1) p.T p.W (sat (lpB p) k 1 p.W)).1, nextBS p _ (tickS (blkB p 1) p.T p.W (sat (lpB p) k 1 p.W)).2) = _
  rw [e]
  unfold nextBS
  rw [if_neg (sat3 _ _ _ _)]
theorem step1 (h : BOk p head tail f) : stepT p (after0 p f) = in1 p f 0 := by
  have hT := h.T1
  have hW := h.W2
  have e1 : tickBR p (after0 p f).r = ([67], ⟨1, rat (lpB p) 0 (p.T - 1) p.W [], false, 0, some f, []⟩) := by
    unfold tickBR after0
    rw [if_neg (by simp)]
    simp only
    rw [new_ask hT]
    rfl
  have e2 : tickBS p (after0 p f).s = ([], ⟨0, ⟨1, 0, true, 0, 1, p.W - 1, false⟩, false, 0⟩) := by
    unfold tickBS after0 oneS
    rw [if_neg (by simp)]
    simp only
    rw [stick_wait (by simp) (by show 1 < p.W; omega)]
    rfl
  have e3 : putBS p ⟨0, ⟨1, 0, true, 0, 1, p.W - 1, false⟩, false, 0⟩ 6 = ([], ⟨1, newS p.W true, false, 0⟩) := by
    unfold putBS
    rw [if_neg (by simp)]
    show ((putS (blkB p 0) p.T p.W false _ 6).1, nextBS p _ (putS (blkB p 0) p.T p.W false _ 6).2) = _
    rw [one_ack (d := head) (show blkB p 0 = _ from h.b0)]
    rfl
  have e4 : putBS p ⟨1, newS p.W true, false, 0⟩ 67 = (pc (lpB p) 0, ⟨1, sat (lpB p) 0 1 p.W, false, 0⟩) := by
    have e := put_start h.lok p.W
    have e' : putS (blkB p 1) p.T p.W true (newS p.W true) 67 = (pc (lpB p) 0, sat (lpB p) 0 1 p.W) := e
    unfold putBS
    rw [if_neg (by simp)]
    show ((putS (blkB p 1) p.T p.W true (newS p.W true) 67).1, nextBS p _ (putS (blkB p 1) p.T p.W true (newS p.W true) 67).2) = _
    rw [e']
    unfold nextBS
    rw [if_neg (sat3 _ _ _ _)]
  refine (stepT_some (x := after0 p f) (o := [67]) (d0 := []) (d1 := pc (lpB p) 0) (d := pc (lpB p) 0) (s2 := ⟨1, sat (lpB p) 0 1 p.W, false, 0⟩) e1 e2 ?_ ?_ rfl (pc_ne _ _) (br_put1 h (Nat.zero_le _))).trans rfl
  · show feedBO p _ [6, 67] = _
    rw [(feedB_two _ _ _ _).1, e3, e4]
    rfl
  · show feedBS p _ [6, 67] = _
    rw [(feedB_two _ _ _ _).2, e3, e4]
theorem step_in1 (h : BOk p head tail f) {k : Nat} (hk : k < p.b1.length) : stepT p (in1 p f k) = in1 p f (k + 1) := by
  have hW := h.W2
  have e0 : (in1 p f k).r = ⟨1, rat (lpB p) (k + 1) (p.T - 1) p.W [], false, 0, some f, []⟩ := by unfold in1; simp only; rw [if_pos hk]
  have e1 : tickBR p (in1 p f k).r = ([], ⟨1, rat (lpB p) (k + 1) (p.T - 1) (p.W - 1) [], false, 0, some f, []⟩) := by
    rw [e0]
    unfold tickBR
    rw [if_neg (by simp)]
    have e : tickR true p.W (rat (lpB p) (k + 1) (p.T - 1) p.W []) = ([], rat (lpB p) (k + 1) (p.T - 1) (p.W - 1) []) := rtick_more (p := lpB p) (by omega)
    show ((tickR true p.W (rat (lpB p) (k + 1) (p.T - 1) p.W [])).1, nextBR p _ (tickR true p.W (rat (lpB p) (k + 1) (p.T - 1) p.W [])).2) = _
    rw [e]
    rfl
  have e3 : putBS p ⟨1, sat (lpB p) k 1 (p.W - 1), false, 0⟩ 6 = (pc (lpB p) (k + 1), ⟨1, sat (lpB p) (k + 1) 1 p.W, false, 0⟩) := by
    have e := put_ack h.lok (i := 1) (a := p.W - 1) (show k < (lpB p).bl.length from hk)
    have e' : putS (blkB p 1) p.T p.W true (sat (lpB p) k 1 (p.W - 1)) 6 = (pc (lpB p) (k + 1), sat (lpB p) (k + 1) 1 p.W) := e
    unfold putBS
    rw [if_neg (by simp)]
    show ((putS (blkB p 1) p.T p.W true (sat (lpB p) k 1 (p.W - 1)) 6).1, nextBS p _ (putS (blkB p 1) p.T p.W true (sat (lpB p) k 1 (p.W - 1)) 6).2) = _
    rw [e']
    unfold nextBS
    rw [if_neg (sat3 _ _ _ _)]
  refine (stepT_some (x := in1 p f k) (o := []) (d0 := []) (d1 := pc (lpB p) (k + 1)) (d := pc (lpB p) (k + 1)) (s2 := ⟨1, sat (lpB p) (k + 1) 1 p.W, false, 0⟩) e1 (tick_sat1 h) ?_ ?_ rfl (pc_ne _ _) (br_put1 h (by omega))).trans rfl
  · show feedBO p _ [6] = _
    rw [(feedB_one _ _ _).1, e3]
  · show feedBS p _ [6] = _
    rw [(feedB_one _ _ _).2, e3]
/-- Behind the third part's block. -/
def after2 (p : BP φ) (f : φ) (tail : List UInt8) : Tlk φ := ⟨⟨2, oneS 0 p.W, false, 0⟩, ⟨2, ⟨1, 0, p.T - 1, p.W, [], tail, true, 0⟩, true, 0, some f, ((p.b1.map (·.2)).flatten).take (p.sz f)⟩, [6]⟩
theorem step2 (h : BOk p head tail f) : stepT p (in1 p f p.b1.length) = after2 p f tail := by
  have hT := h.T1
  have hW := h.W2
  have e0 : (in1 p f p.b1.length).r = ⟨2, newR 0 1 p.T, false, 0, some f, ((p.b1.map (·.2)).flatten).take (p.sz f)⟩ := by unfold in1; simp only; rw [if_neg (Nat.lt_irrefl _)]
  have e1 : tickBR p (in1 p f p.b1.length).r = ([67], ⟨2, askd 0 p.T p.W, false, 0, some f, ((p.b1.map (·.2)).flatten).take (p.sz f)⟩) := by
    rw [e0]
    unfold tickBR
    rw [if_neg (by simp)]
    simp only
    rw [new_ask hT]
    rfl
  have e3 : putBS p ⟨1, sat (lpB p) p.b1.length 1 (p.W - 1), false, 0⟩ 6 = ([], ⟨2, newS p.W true, false, 0⟩) := by
    have e' : putS (blkB p 1) p.T p.W true (sat (lpB p) p.b1.length 1 (p.W - 1)) 6 = ([], ⟨3, p.b1.length, true, 0, 1, p.W, false⟩) := put_end (p := lpB p)
    unfold putBS
    rw [if_neg (by simp)]
    show ((putS (blkB p 1) p.T p.W true (sat (lpB p) p.b1.length 1 (p.W - 1)) 6).1, nextBS p _ (putS (blkB p 1) p.T p.W true (sat (lpB p) p.b1.length 1 (p.W - 1)) 6).2) = _
    rw [e']
    rfl
  have e4 : putBS p ⟨2, newS p.W true, false, 0⟩ 67 = (enc 0 tail true, ⟨2, oneS 0 p.W, false, 0⟩) := by
    unfold putBS
    rw [if_neg (by simp)]
    show ((putS (blkB p 2) p.T p.W false ⟨0, 0, true, 0, 1, p.W, false⟩ 67).1, nextBS p _ (putS (blkB p 2) p.T p.W false ⟨0, 0, true, 0, 1, p.W, false⟩ 67).2) = _
    rw [one_start (d := tail) (show blkB p 2 = _ from h.b2) h.h2]
    rfl
  refine stepT_some (x := in1 p f p.b1.length) (o := [67]) (d0 := []) (d1 := enc 0 tail true) (d := enc 0 tail true) e1 (tick_sat1 h) ?_ ?_ rfl (enc_ne _ _ _) ?_
  · show feedBO p _ [6, 67] = _
    rw [(feedB_two _ _ _ _).1, e3, e4]
    rfl
  · show feedBS p _ [6, 67] = _
    rw [(feedB_two _ _ _ _).2, e3, e4]
  · unfold putBR
    rw [if_neg (by simp)]
    show ((putR true false p.W _ (enc 0 tail true)).1, nextBR p _ (putR true false p.W _ (enc 0 tail true)).2) = _
    rw [one_take h.h2]
    unfold nextBR
    rw [if_pos rfl, if_neg (by simp), if_neg (by simp), if_neg (by simp)]
    simp only
    rw [h.en]
    rfl
/-- Both are over. -/
def endT (p : BP φ) (f : φ) (tail : List UInt8) : Tlk φ := ⟨⟨2, ⟨3, 1, true, 0, 1, p.W, false⟩, true, 0⟩, (after2 p f tail).r, []⟩
theorem step3 (h : BOk p head tail f) : stepT p (after2 p f tail) = endT p f tail := by
  have hW := h.W2
  have e1 : tickBR p (after2 p f tail).r = ([], (after2 p f tail).r) := by
    unfold tickBR after2
    rw [if_pos rfl]
  have e2 : tickBS p (after2 p f tail).s = ([], ⟨2, ⟨1, 0, true, 0, 1, p.W - 1, false⟩, false, 0⟩) := by
    unfold tickBS after2 oneS
    rw [if_neg (by simp)]
    simp only
    rw [stick_wait (by simp) (by show 1 < p.W; omega)]
    rfl
  have e3 : putBS p ⟨2, ⟨1, 0, true, 0, 1, p.W - 1, false⟩, false, 0⟩ 6 = ([], ⟨2, ⟨3, 1, true, 0, 1, p.W, false⟩, true, 0⟩) := by
    unfold putBS
    rw [if_neg (by simp)]
    show ((putS (blkB p 2) p.T p.W false _ 6).1, nextBS p _ (putS (blkB p 2) p.T p.W false _ 6).2) = _
    rw [one_ack (d := tail) (show blkB p 2 = _ from h.b2)]
    rfl
  refine stepT_none (x := after2 p f tail) (o := []) (d0 := []) (d1 := []) e1 e2 ?_ ?_ rfl
  · show feedBO p _ [6] = _
    rw [(feedB_one _ _ _).1, e3]
  · show feedBS p _ [6] = _
    rw [(feedB_one _ _ _).2, e3]
theorem step_end' (h : BOk p head tail f) : stepT p (endT p f tail) = endT p f tail := by
  refine stepT_none (x := endT p f tail) (o := []) (d0 := []) (d1 := []) (r1 := (after2 p f tail).r) (s1 := (endT p f tail).s) ?_ ?_ rfl rfl rfl
  · unfold tickBR endT after2
    simp
  · unfold tickBS endT
    simp
theorem run_in1 (h : BOk p head tail f) : ∀ (q k : Nat), k + q = p.b1.length → runT p q (in1 p f k) = in1 p f p.b1.length
  | 0, k, e => by
    obtain rfl : k = p.b1.length := by omega
    rfl
  | q + 1, k, e => by
    show runT p q (stepT p (in1 p f k)) = _
    rw [step_in1 h (by omega), run_in1 h q (k + 1) (by omega)]
theorem run_endT (h : BOk p head tail f) : ∀ q, runT p q (endT p f tail) = endT p f tail
  | 0 => rfl
  | q + 1 => by
    show runT p q (stepT p (endT p f tail)) = _
    rw [step_end' h, run_endT h q]
/-- A file that is sent is taken. -/
theorem run_batch (h : BOk p head tail f) {N : Nat} (hN : p.b1.length + 4 ≤ N) : runT p N ⟨newBS p, newBR p, []⟩ = endT p f tail := by
  obtain ⟨M, rfl⟩ : ∃ M, N = 2 + (p.b1.length + (2 + M)) := ⟨N - p.b1.length - 4, by omega⟩
  rw [runT_add, runT_add, runT_add]
  have e1 : runT p 2 ⟨newBS p, newBR p, []⟩ = in1 p f 0 := by
    show stepT p (stepT p _) = _
    rw [step0 h, step1 h]
  have e2 : runT p 2 (in1 p f p.b1.length) = endT p f tail := by
    show stepT p (stepT p _) = _
    rw [step2 h, step3 h]
  rw [e1, run_in1 h p.b1.length 0 (by omega), e2, run_endT h M]
end
end Go.Proofs.YtonloefjhofeeaaGreatDoor
