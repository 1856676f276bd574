/-
  Files as a batch tells them: numerals in a base, names, the 128 bytes; plain lists, no program.
-/
import Derived.Test.YtonloefjhofeeaaGreatDoorMake
import Derived.Lib.Bytealg
import Derived.Lib.ItoaNum
namespace Go.Proofs.YtonloefjhofeeaaGreatDoor
set_option linter.unusedVariables false

/-! ### Numerals -/
def digs (b n : Nat) : List UInt8 :=
  if h : 2 ≤ b ∧ b ≤ n then digs b (n / b) ++ [UInt8.ofNat (48 + n % b)] else [UInt8.ofNat (48 + n)]
termination_by n
decreasing_by exact Nat.div_lt_self (by omega) (by omega)
theorem digs_lt {b n : Nat} (h : n < b) : digs b n = [UInt8.ofNat (48 + n)] := by rw [digs, dif_neg (by omega)]
theorem digs_ge {b n : Nat} (h2 : 2 ≤ b) (h : b ≤ n) : digs b n = digs b (n / b) ++ [UInt8.ofNat (48 + n % b)] := by rw [digs, dif_pos ⟨h2, h⟩]
theorem digs_dec (n : Nat) : Lib.decDigits n = digs 10 n := by
  induction n using Nat.strongRecOn with
  | ind n ih =>
    rw [Lib.decDigits]
    split
    · rename_i h; rw [digs_lt h]
    · rename_i h; rw [digs_ge (by omega) (by omega), ih (n / 10) (by omega)]
theorem digs_itoa (n : Nat) : Lib.itoa (n : Int) = digs 10 n := by
  unfold Lib.itoa; rw [if_neg (by omega), ← digs_dec]; rfl
theorem digs_len {b : Nat} (hb : 2 ≤ b) : ∀ (k n : Nat), 1 ≤ k → n < b ^ k → (digs b n).length ≤ k
  | 0, _, h, _ => absurd h (by omega)
  | k + 1, n, _, h => by
    rcases Nat.lt_or_ge n b with hn | hn
    · rw [digs_lt hn]; simp
    · have hk : 1 ≤ k := by
        rcases Nat.eq_zero_or_pos k with rfl | h0
        · simp at h; omega
        · exact h0
      rw [digs_ge hb hn, List.length_append]
      have := digs_len hb k (n / b) hk (by rw [Nat.div_lt_iff_lt_mul (by omega), ← Nat.pow_succ]; exact h)
      simp; omega
theorem digs_pos (b n : Nat) : 1 ≤ (digs b n).length := by
  rw [digs]; split <;> simp
theorem digs_mem {b : Nat} (hb : 2 ≤ b) (hb2 : b ≤ 10) (n : Nat) : ∀ c ∈ digs b n, 48 ≤ c.toNat ∧ c.toNat < 48 + b := by
  induction n using Nat.strongRecOn with
  | ind n ih =>
    intro c hc
    rcases Nat.lt_or_ge n b with hn | hn
    · rw [digs_lt hn] at hc
      simp at hc
      subst hc
      simp; omega
    · rw [digs_ge hb hn] at hc
      rcases List.mem_append.1 hc with hc | hc
      · exact ih (n / b) (Nat.div_lt_self (by omega) hb) c hc
      · simp at hc
        subst hc
        have := Nat.mod_lt n (show 0 < b by omega)
        simp; omega

/-- What digits of a base are worth, from the left, as long as it stays below 2^63; none, where one is none. -/
def valL (b : Nat) : List UInt8 → Nat → Option Nat
  | [], acc => some acc
  | c :: r, acc => if 48 ≤ c.toNat ∧ c.toNat < 48 + b ∧ acc * b + (c.toNat - 48) < 9223372036854775808 then valL b r (acc * b + (c.toNat - 48)) else none
theorem valL_digs {b : Nat} (hb : 2 ≤ b) (hb2 : b ≤ 10) (n : Nat) : ∀ (r : List UInt8), n < 9223372036854775808 → valL b (digs b n ++ r) 0 = valL b r n := by
  induction n using Nat.strongRecOn with
  | ind n ih =>
    intro r hn
    rcases Nat.lt_or_ge n b with h | h
    · rw [digs_lt h]
      have e : (UInt8.ofNat (48 + n)).toNat = 48 + n := by simp; omega
      show valL b (UInt8.ofNat (48 + n) :: r) 0 = _
      rw [valL, e, if_pos ⟨by omega, by omega, by omega⟩]
      congr 1; omega
    · have hlt : n / b < n := Nat.div_lt_self (by omega) hb
      rw [digs_ge hb h, List.append_assoc, ih (n / b) hlt _ (by omega)]
      have hm := Nat.mod_lt n (show 0 < b by omega)
      have e : (UInt8.ofNat (48 + n % b)).toNat = 48 + n % b := by simp; omega
      have e2 : n / b * b + (48 + n % b - 48) = n := by
        have := Nat.div_add_mod n b
        rw [Nat.mul_comm] at this; omega
      show valL b (UInt8.ofNat (48 + n % b) :: r) (n / b) = _
      rw [valL, e, e2, if_pos ⟨by omega, by omega, hn⟩]
theorem val_digs {b : Nat} (hb : 2 ≤ b) (hb2 : b ≤ 10) (n : Nat) (hn : n < 9223372036854775808) : valL b (digs b n) 0 = some n := by
  have := valL_digs hb hb2 n [] hn
  rw [List.append_nil] at this
  rw [this]; rfl

/-! ### Cuts -/
def cutL (c : UInt8) : List UInt8 → List UInt8 × List UInt8
  | [] => ([], [])
  | x :: r => if x = c then ([], r) else (x :: (cutL c r).1, (cutL c r).2)
theorem cutL_at {c : UInt8} : ∀ (a : List UInt8) (r : List UInt8), c ∉ a → cutL c (a ++ c :: r) = (a, r)
  | [], r, _ => by simp [cutL]
  | x :: a, r, h => by
    have hx : x ≠ c := fun e => h (e ▸ List.mem_cons_self)
    have := cutL_at a r (fun hc => h (List.mem_cons_of_mem _ hc))
    simp [cutL, hx, this]
theorem cutL_none {c : UInt8} : ∀ (a : List UInt8), c ∉ a → cutL c a = (a, [])
  | [], _ => rfl
  | x :: a, h => by
    have hx : x ≠ c := fun e => h (e ▸ List.mem_cons_self)
    have := cutL_none a (fun hc => h (List.mem_cons_of_mem _ hc))
    simp [cutL, hx, this]
theorem cutL_hit {c : UInt8} : ∀ (l : List UInt8) (i : Nat), Lib.indexByte l c = (i : Int) → i < l.length ∧ cutL c l = (l.take i, l.drop (i + 1))
  | [], i, h => by simp [Lib.indexByte] at h
  | x :: l, i, h => by
    unfold Lib.indexByte at h
    by_cases hx : x = c
    · subst hx
      simp at h
      obtain rfl : i = 0 := by omega
      simp [cutL]
    · have hb : (x == c) = false := by simpa using hx
      rw [hb] at h
      by_cases h1 : Lib.indexByte l c = -1
      · rw [h1] at h; simp at h
      · have hge := Lib.indexByte_ge l c
        have h2 : (Lib.indexByte l c == -1) = false := by simpa using h1
        rw [h2] at h
        simp at h
        obtain ⟨j, hj⟩ : ∃ j : Nat, Lib.indexByte l c = (j : Int) := ⟨(Lib.indexByte l c).toNat, by omega⟩
        obtain ⟨hl, e⟩ := cutL_hit l j hj
        obtain rfl : i = j + 1 := by omega
        simp [cutL, hx, e]; exact hl
theorem cutL_miss {c : UInt8} : ∀ (l : List UInt8), Lib.indexByte l c = -1 → cutL c l = (l, [])
  | [], _ => rfl
  | x :: l, h => by
    unfold Lib.indexByte at h
    by_cases hx : x = c
    · subst hx; simp at h
    · have hb : (x == c) = false := by simpa using hx
      rw [hb] at h
      have hge := Lib.indexByte_ge l c
      by_cases h1 : Lib.indexByte l c = -1
      · simp [cutL, hx, cutL_miss l h1]
      · have h2 : (Lib.indexByte l c == -1) = false := by simpa using h1
        rw [h2] at h
        simp at h; omega
theorem cutL_len1 (c : UInt8) : ∀ l : List UInt8, (cutL c l).1.length ≤ l.length
  | [] => by simp [cutL]
  | x :: l => by
    have := cutL_len1 c l
    unfold cutL; split <;> simp; omega
theorem cutL_len2 (c : UInt8) : ∀ l : List UInt8, (cutL c l).2.length ≤ l.length
  | [] => by simp [cutL]
  | x :: l => by
    have := cutL_len2 c l
    unfold cutL; split <;> simp; omega

/-! ### Names -/
def letterB (c : UInt8) : Bool := (decide (97 ≤ c.toNat) && decide (c.toNat ≤ 122)) || (decide (65 ≤ c.toNat) && decide (c.toNat ≤ 90))
def withinB (c : UInt8) : Bool := letterB c || (decide (48 ≤ c.toNat) && decide (c.toNat ≤ 57)) || decide (c.toNat = 46) || decide (c.toNat = 45) || decide (c.toNat = 95)
def nameB (l : List UInt8) : Bool := decide (1 ≤ l.length) && decide (l.length ≤ 32) && letterB (l.headD 0) && l.all withinB
theorem letter_within {c : UInt8} (h : letterB c = true) : withinB c = true := by unfold withinB; rw [h]; rfl
theorem within_pos {c : UInt8} (h : withinB c = true) : c ≠ 0 := by rintro rfl; revert h; decide
theorem nameB_zero {l : List UInt8} (h : nameB l = true) : (0 : UInt8) ∉ l := by
  unfold nameB at h
  simp only [Bool.and_eq_true] at h
  intro h0
  exact within_pos (List.all_eq_true.1 h.2 0 h0) rfl
theorem nameB_len {l : List UInt8} (h : nameB l = true) : 1 ≤ l.length ∧ l.length ≤ 32 := by
  unfold nameB at h
  simp only [Bool.and_eq_true, decide_eq_true_eq] at h
  exact ⟨h.1.1.1, h.1.1.2⟩
theorem nameB_nil : nameB [] = false := rfl

/-! ### Files -/
structure Fl where
  name : List UInt8
  size : Int
  time : Int
  mode : Int
deriving DecidableEq
def mayB (f : Fl) : Bool := nameB f.name && (decide (0 ≤ f.size) && decide (f.size ≤ 8192)) && (decide (0 ≤ f.time) && decide (f.time ≤ 4294967295)) && (decide (0 ≤ f.mode) && decide (f.mode ≤ 65535))
structure May (f : Fl) : Prop where
  name : nameB f.name = true
  size0 : 0 ≤ f.size
  size : f.size ≤ 8192
  time0 : 0 ≤ f.time
  time : f.time ≤ 4294967295
  mode0 : 0 ≤ f.mode
  mode : f.mode ≤ 65535
theorem mayB_iff (f : Fl) : mayB f = true ↔ May f := by
  unfold mayB
  simp only [Bool.and_eq_true, decide_eq_true_eq]
  exact ⟨fun ⟨⟨⟨a, b, c⟩, d, e⟩, g, h⟩ => ⟨a, b, c, d, e, g, h⟩, fun ⟨a, b, c, d, e, g, h⟩ => ⟨⟨⟨a, b, c⟩, d, e⟩, g, h⟩⟩

def bodyL (f : Fl) : List UInt8 := f.name ++ [0] ++ digs 10 f.size.toNat ++ [32] ++ digs 8 f.time.toNat ++ [32] ++ digs 8 f.mode.toNat
def encL (f : Fl) : List UInt8 := bodyL f ++ zeros (128 - (bodyL f).length)
theorem body_len {f : Fl} (h : May f) : 7 ≤ (bodyL f).length ∧ (bodyL f).length ≤ 56 := by
  have h0 := nameB_len h.name
  have h1 := digs_len (b := 10) (by omega) 4 f.size.toNat (by omega) (by have := h.size; omega)
  have h2 := digs_len (b := 8) (by omega) 11 f.time.toNat (by omega) (by have := h.time; omega)
  have h3 := digs_len (b := 8) (by omega) 6 f.mode.toNat (by omega) (by have := h.mode; omega)
  have p1 := digs_pos 10 f.size.toNat
  have p2 := digs_pos 8 f.time.toNat
  have p3 := digs_pos 8 f.mode.toNat
  unfold bodyL
  simp only [List.length_append, List.length_cons, List.length_nil]
  omega
theorem encL_len {f : Fl} (h : May f) : (encL f).length = 128 := by
  have := body_len h
  unfold encL; rw [List.length_append, zeros_len]; omega

/-- The numbers behind the name. -/
def numsL (f : Fl) : List UInt8 := digs 10 f.size.toNat ++ 32 :: (digs 8 f.time.toNat ++ 32 :: digs 8 f.mode.toNat)
theorem body_nums (f : Fl) : bodyL f = f.name ++ 0 :: numsL f := by unfold bodyL numsL; simp
theorem digs_no {b : Nat} (hb : 2 ≤ b) (hb2 : b ≤ 10) (n : Nat) (c : UInt8) (hc : c.toNat < 48) : c ∉ digs b n := fun h => by have := (digs_mem hb hb2 n c h).1; omega
theorem nums_no (f : Fl) : (0 : UInt8) ∉ numsL f := by
  unfold numsL
  simp only [List.mem_append, List.mem_cons, not_or]
  exact ⟨digs_no (by omega) (by omega) _ _ (by decide), by decide, digs_no (by omega) (by omega) _ _ (by decide), by decide, digs_no (by omega) (by omega) _ _ (by decide)⟩
theorem zeros_succ (n : Nat) : zeros (n + 1) = 0 :: zeros n := rfl
theorem cut_name {f : Fl} (h : May f) : cutL 0 (encL f) = (f.name, numsL f ++ zeros (128 - (bodyL f).length)) := by
  unfold encL
  rw [body_nums]
  have e : f.name ++ 0 :: numsL f ++ zeros (128 - (f.name ++ 0 :: numsL f).length) = f.name ++ 0 :: (numsL f ++ zeros (128 - (f.name ++ 0 :: numsL f).length)) := by simp
  rw [e, cutL_at _ _ (nameB_zero h.name)]
theorem cut_nums {f : Fl} (h : May f) : (cutL 0 (numsL f ++ zeros (128 - (bodyL f).length))).1 = numsL f := by
  have := body_len h
  obtain ⟨n, hn⟩ : ∃ n, 128 - (bodyL f).length = n + 1 := ⟨127 - (bodyL f).length, by omega⟩
  rw [hn, zeros_succ, cutL_at _ _ (nums_no f)]
theorem cut_size (f : Fl) : cutL 32 (numsL f) = (digs 10 f.size.toNat, digs 8 f.time.toNat ++ 32 :: digs 8 f.mode.toNat) := cutL_at _ _ (digs_no (by omega) (by omega) _ _ (by decide))
theorem cut_time (f : Fl) : cutL 32 (digs 8 f.time.toNat ++ 32 :: digs 8 f.mode.toNat) = (digs 8 f.time.toNat, digs 8 f.mode.toNat) := cutL_at _ _ (digs_no (by omega) (by omega) _ _ (by decide))

/-- Who is told by the same bytes is the same file. -/
theorem enc_inj {f g : Fl} (hf : May f) (hg : May g) (h : encL f = encL g) : f = g := by
  have h1 := congrArg (cutL 0) h
  rw [cut_name hf, cut_name hg] at h1
  have hn := congrArg Prod.fst h1
  have h2 := congrArg (fun p => (cutL 0 p.2).1) h1
  simp only at hn h2
  rw [cut_nums hf, cut_nums hg] at h2
  have h3 := congrArg (cutL 32) h2
  rw [cut_size, cut_size] at h3
  have hs := congrArg Prod.fst h3
  have h4 := congrArg (fun p => cutL 32 p.2) h3
  simp only at hs h4
  rw [cut_time, cut_time] at h4
  have ht := congrArg Prod.fst h4
  have hm := congrArg Prod.snd h4
  simp only at ht hm
  have inj : ∀ (b m n : Nat), 2 ≤ b → b ≤ 10 → m < 9223372036854775808 → n < 9223372036854775808 → digs b m = digs b n → m = n := fun b m n h1 h2 h3 h4 e => by
    have := val_digs h1 h2 m h3
    rw [e, val_digs h1 h2 n h4] at this
    exact (Option.some.inj this).symm
  have a1 := hf.size0; have a2 := hf.size; have a3 := hf.time0; have a4 := hf.time; have a5 := hf.mode0; have a6 := hf.mode
  have b1 := hg.size0; have b2 := hg.size; have b3 := hg.time0; have b4 := hg.time; have b5 := hg.mode0; have b6 := hg.mode
  have e1 := inj 10 _ _ (by omega) (by omega) (by omega) (by omega) hs
  have e2 := inj 8 _ _ (by omega) (by omega) (by omega) (by omega) ht
  have e3 := inj 8 _ _ (by omega) (by omega) (by omega) (by omega) hm
  cases f; cases g
  simp only [Fl.mk.injEq] at *
  exact ⟨hn, by omega, by omega, by omega⟩
end Go.Proofs.YtonloefjhofeeaaGreatDoor
