/-
  A receiver of blocks, plain: what it has, what it answers to bytes and to a tick.
-/
import Derived.Test.YtonloefjhofeeaaGreatDoorBlockPlain
namespace Go.Proofs.YtonloefjhofeeaaGreatDoor
set_option linter.unusedVariables false

/-- What a receiver has: the number of the next block, how many blocks are to come, tries that are left, ticks that are left, bytes that wait, data, whether it is over, what went wrong (0: nothing). -/
structure Rd where
  ex : UInt8
  bl : Int
  tr : Nat
  tk : Nat
  bu : List UInt8
  da : List UInt8
  ov : Bool
  er : Nat

def stopR (s : Rd) (e : Nat) : Rd := { s with ov := true, er := e, bu := [] }
def finR (cl : Bool) (s : Rd) : List UInt8 × Rd := if cl = false ∧ s.bl ≤ 0 then ([6], stopR s 0) else ([6], s)
def takeR (cl : Bool) (s : Rd) (num : UInt8) (d : List UInt8) : List UInt8 × Rd :=
  if num = s.ex then finR cl { s with da := s.da ++ d, ex := s.ex + 1, bl := s.bl - 1 }
  else if num ≠ s.ex - 1 ∨ s.da = [] then ([24, 24], stopR s 14)
  else finR cl s
def scanR (crc cl : Bool) (s : Rd) : List UInt8 × Rd :=
  if (scanL s.bu crc).1 = 0 then ([], s)
  else if (scanL s.bu crc).1 = 1 then ([21], { s with bu := [] })
  else takeR cl { s with bu := [] } (scanL s.bu crc).2.1 (scanL s.bu crc).2.2
def seeR (crc cl : Bool) (s : Rd) : List UInt8 × Rd :=
  if cl = true ∧ s.bu.head? = some 4 then ([6], stopR s 0)
  else if s.bu.take 2 = [24, 24] then ([], stopR s 9)
  else if s.bu = [24] then ([], s)
  else scanR crc cl s
def putR (crc cl : Bool) (W : Nat) (s : Rd) (b : List UInt8) : List UInt8 × Rd :=
  if s.ov = true ∨ b = [] then ([], s) else seeR crc cl { s with tk := W, bu := s.bu ++ b }
def askR (crc : Bool) (s : Rd) : List UInt8 × Rd :=
  if s.da ≠ [] then ([21], s)
  else if s.tr = 0 then ([24, 24], stopR s 10)
  else ([if crc then 67 else 21], { s with tr := s.tr - 1 })
def tickR (crc : Bool) (W : Nat) (s : Rd) : List UInt8 × Rd :=
  if s.ov = true then ([], s)
  else if 1 < s.tk then ([], { s with tk := s.tk - 1 })
  else askR crc { s with tk := W, bu := [] }
def newR (number : UInt8) (many : Int) (T : Nat) : Rd := { ex := number, bl := max many 1, tr := T, tk := 1, bu := [], da := [], ov := false, er := 0 }

theorem scan_state (bs : List UInt8) (crc : Bool) : (scanL bs crc).1 = 0 ∨ (scanL bs crc).1 = 1 ∨ (scanL bs crc).1 = 2 := by
  unfold scanL
  repeat' split
  all_goals simp
theorem scan_data (bs : List UInt8) (crc : Bool) (h : (scanL bs crc).1 = 2) : (scanL bs crc).2.2.length = 128 ∨ (scanL bs crc).2.2.length = 1024 := by
  unfold scanL at h ⊢
  split at h
  · simp at h
  split at h
  · simp at h
  split at h
  · simp at h
  split at h
  · simp at h
  split at h
  · simp at h
  rename_i h1 h2 h3 h4 h5
  rw [if_neg h1, if_neg h2, if_neg h3, if_neg h4, if_neg h5]
  have hs : szA (firstOf bs) crc = 3 + szD (firstOf bs) + szT crc := by unfold szA; rw [if_neg h2]
  have hd : szD (firstOf bs) = 128 ∨ szD (firstOf bs) = 1024 := by
    unfold szD at h2 ⊢
    split
    · exact .inl rfl
    · split
      · exact .inr rfl
      · rename_i a b; rw [if_neg a, if_neg b] at h2; exact absurd rfl h2
  show (dataOf bs).length = 128 ∨ (dataOf bs).length = 1024
  unfold dataOf
  rw [List.length_take, List.length_drop]
  have := szT_pos crc
  omega

/-! ### Blocks that come -/
theorem enc_head (num : UInt8) (d : List UInt8) (crc : Bool) : ∃ r, enc num d crc = leadB d.length :: r ∧ (leadB d.length = 1 ∨ leadB d.length = 2) := by
  refine ⟨_, rfl, ?_⟩
  unfold leadB
  split
  · exact .inr rfl
  · exact .inl rfl
/-- Bytes that begin as a block does are scanned. -/
theorem see_lead (crc cl : Bool) (s : Rd) (l : UInt8) (r : List UInt8) (h : s.bu = l :: r) (hl : l = 1 ∨ l = 2) : seeR crc cl s = scanR crc cl s := by
  unfold seeR
  rw [if_neg, if_neg, if_neg]
  · rw [h]; intro e; injection e with e1 _; rcases hl with rfl | rfl <;> exact absurd e1 (by decide)
  · rw [h]; intro e
    rcases r with _ | ⟨a, r⟩
    · simp at e
    · simp at e; rcases hl with rfl | rfl <;> exact absurd e.1 (by decide)
  · rw [h]; rintro ⟨_, e⟩; simp at e; rcases hl with rfl | rfl <;> exact absurd e (by decide)
/-- A part of a block: nothing is answered. -/
theorem put_part (crc cl : Bool) (W : Nat) (s : Rd) (num : UInt8) (d : List UInt8) (hd : d.length = 128 ∨ d.length = 1024) (k : Nat) (hk : k < (enc num d crc).length) (ho : s.ov = false) (hb : s.bu = []) :
    ∃ tk, (tk = s.tk ∨ tk = W) ∧ putR crc cl W s ((enc num d crc).take k) = ([], { s with tk := tk, bu := (enc num d crc).take k }) := by
  unfold putR
  rcases Nat.eq_zero_or_pos k with rfl | h
  · refine ⟨s.tk, .inl rfl, ?_⟩
    rw [if_pos (.inr (by simp))]
    obtain ⟨ex, bl, tr, tk, bu, da, ov, er⟩ := s
    subst hb
    simp
  · refine ⟨W, .inr rfl, ?_⟩
    obtain ⟨r, e, hl⟩ := enc_head num d crc
    have e2 : (enc num d crc).take k = leadB d.length :: r.take (k - 1) := by
      rw [e]
      obtain ⟨j, rfl⟩ : ∃ j, k = j + 1 := ⟨k - 1, by omega⟩
      rfl
    have hcut := scan_cut num d crc hd k hk
    rw [if_neg (by rw [ho, e2]; simp), hb, List.nil_append]
    rw [e2] at hcut ⊢
    rw [see_lead crc cl _ _ _ rfl hl]
    unfold scanR
    rw [show (scanL _ crc).1 = 0 from congrArg (·.1) hcut]
    rfl
/-- What makes a block whole: it is taken as it is the next one. -/
theorem put_whole (crc cl : Bool) (W : Nat) (s : Rd) (num : UInt8) (d : List UInt8) (hd : d.length = 128 ∨ d.length = 1024) (k : Nat) (hk : k < (enc num d crc).length) (ho : s.ov = false) (hb : s.bu = (enc num d crc).take k) :
    putR crc cl W s ((enc num d crc).drop k) = takeR cl { s with tk := W, bu := [] } num d := by
  have hne : (enc num d crc).drop k ≠ [] := by
    intro h
    have := congrArg List.length h
    rw [List.length_drop] at this
    simp at this
    omega
  unfold putR
  rw [if_neg (by rw [ho]; simp; omega), hb, List.take_append_drop]
  obtain ⟨r, e, hl⟩ := enc_head num d crc
  rw [see_lead crc cl _ _ _ e hl]
  have h := scan_enc num d crc hd []
  rw [List.append_nil] at h
  unfold scanR
  show (if (scanL (enc num d crc) crc).1 = 0 then _ else if (scanL (enc num d crc) crc).1 = 1 then _ else takeR cl _ (scanL (enc num d crc) crc).2.1 (scanL (enc num d crc) crc).2.2) = _
  rw [h]
  rfl
theorem put_block (crc cl : Bool) (W : Nat) (s : Rd) (num : UInt8) (d : List UInt8) (hd : d.length = 128 ∨ d.length = 1024) (ho : s.ov = false) (hb : s.bu = []) :
    putR crc cl W s (enc num d crc) = takeR cl { s with tk := W, bu := [] } num d := by
  have := put_whole crc cl W s num d hd 0 (by rw [enc_len]; omega) ho (by rw [hb]; rfl)
  simpa using this
/-- A block of which a byte behind its lead is turned is asked for again. -/
theorem put_turned (crc cl : Bool) (W : Nat) (s : Rd) (num : UInt8) (d : List UInt8) (hd : d.length = 128 ∨ d.length = 1024) (ho : s.ov = false) (hb : s.bu = []) (k : Nat) (h1 : 1 ≤ k) (c e : UInt8) (hc : (enc num d crc)[k]? = some c) (hne : c ≠ e) :
    putR crc cl W s ((enc num d crc).set k e) = ([21], { s with tk := W, bu := [] }) := by
  have h := scan_turn num d crc hd k h1 c e hc hne
  obtain ⟨r, er, hl⟩ := enc_head num d crc
  have e2 : (enc num d crc).set k e = leadB d.length :: r.set (k - 1) e := by
    rw [er]
    obtain ⟨j, rfl⟩ : ∃ j, k = j + 1 := ⟨k - 1, by omega⟩
    rfl
  unfold putR
  rw [if_neg (by rw [ho, e2]; simp), hb, List.nil_append]
  rw [e2] at h ⊢
  rw [see_lead crc cl _ _ _ rfl hl]
  unfold scanR
  show (if (scanL _ crc).1 = 0 then _ else if (scanL _ crc).1 = 1 then _ else _) = _
  rw [h]
  rfl
end Go.Proofs.YtonloefjhofeeaaGreatDoor
