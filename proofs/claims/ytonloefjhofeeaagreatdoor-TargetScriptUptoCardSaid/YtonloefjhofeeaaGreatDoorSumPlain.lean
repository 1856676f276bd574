/-
  Sums of bytes, in plain numbers: the sum by 256, what is left of bytes (a register of 16 bits), the print (two sums by 65521).
-/
import Derived.Test.YtonloefjhofeeaaGreatDoorMem
namespace Go.Proofs.YtonloefjhofeeaaGreatDoor

/-! ### The sum by 256 -/
def addByte (r : Nat) (c : UInt8) : Nat := (r + c.toNat) % 256
def chk (bs : List UInt8) : Nat := bs.foldl addByte 0
def plus (r : Nat) (c : UInt8) : Nat := r + c.toNat
def total (bs : List UInt8) : Nat := bs.foldl plus 0

theorem fold_lt (m : Nat) (f : Nat → UInt8 → Nat) (hf : ∀ r c, r < m → f r c < m) : ∀ (bs : List UInt8) (a : Nat), a < m → bs.foldl f a < m
  | [], _, h => h
  | c :: bs, a, h => fold_lt m f hf bs (f a c) (hf a c h)
theorem chk_lt (bs : List UInt8) : chk bs < 256 := fold_lt 256 addByte (fun r c _ => by unfold addByte; omega) bs 0 (by omega)
theorem chk_take {bs : List UInt8} {k : Nat} {c : UInt8} (h : bs[k]? = some c) : chk (bs.take (k + 1)) = (chk (bs.take k) + c.toNat) % 256 := fold_take addByte 0 bs k c h
theorem total_take {bs : List UInt8} {k : Nat} {c : UInt8} (h : bs[k]? = some c) : total (bs.take (k + 1)) = total (bs.take k) + c.toNat := fold_take plus 0 bs k c h
theorem total_le : ∀ (bs : List UInt8), total bs ≤ 255 * bs.length := by
  suffices h : ∀ (bs : List UInt8) (a : Nat), bs.foldl plus a ≤ a + 255 * bs.length by
    intro bs; have := h bs 0; unfold total; omega
  intro bs
  induction bs with
  | nil => intro a; simp
  | cons c bs ih => intro a; have h1 := ih (plus a c); have h2 := u8lt c; rw [List.foldl_cons, List.length_cons]; unfold plus at h1 ⊢; omega
theorem chk_total (bs : List UInt8) : chk bs = total bs % 256 := by
  suffices h : ∀ (bs : List UInt8) (a b : Nat), a = b % 256 → bs.foldl addByte a = bs.foldl plus b % 256 from h bs 0 0 rfl
  intro bs
  induction bs with
  | nil => intro a b h; simpa using h
  | cons c bs ih => intro a b h; rw [List.foldl_cons, List.foldl_cons]; exact ih _ _ (by unfold addByte plus; omega)

/-! ### What is left of bytes -/
/-- One bit of the register is shifted out. -/
def bitStep (r : Nat) : Nat := if 32768 ≤ r then (2 * r - 65536) ^^^ 4129 else 2 * r
def bitsN : Nat → Nat → Nat
  | 0, r => r
  | k + 1, r => bitStep (bitsN k r)
def crcByte (r : Nat) (c : UInt8) : Nat := bitsN 8 (r ^^^ (c.toNat * 256))
def crcL (bs : List UInt8) : Nat := bs.foldl crcByte 0

theorem bitStep_lt {r : Nat} (h : r < 65536) : bitStep r < 65536 := by
  unfold bitStep
  split
  · exact Nat.xor_lt_two_pow (n := 16) (by omega) (by omega)
  · omega
theorem bitsN_lt {r : Nat} (h : r < 65536) : ∀ k, bitsN k r < 65536
  | 0 => h
  | k + 1 => bitStep_lt (bitsN_lt h k)
theorem mix_lt {r : Nat} (c : UInt8) (h : r < 65536) : r ^^^ (c.toNat * 256) < 65536 := Nat.xor_lt_two_pow (n := 16) h (by have := u8lt c; omega)
theorem crcByte_lt {r : Nat} (c : UInt8) (h : r < 65536) : crcByte r c < 65536 := bitsN_lt (mix_lt c h) 8
theorem crc_lt (bs : List UInt8) : crcL bs < 65536 := fold_lt 65536 crcByte (fun _ c h => crcByte_lt c h) bs 0 (by omega)
theorem crc_take {bs : List UInt8} {k : Nat} {c : UInt8} (h : bs[k]? = some c) : crcL (bs.take (k + 1)) = crcByte (crcL (bs.take k)) c := fold_take crcByte 0 bs k c h

/-! ### The print -/
def pS (s : Nat) (c : UInt8) : Nat := (s + c.toNat) % 65521
def pStep (x : Nat × Nat) (c : UInt8) : Nat × Nat := (pS x.1 c, (x.2 + pS x.1 c + 1) % 65521)
def prL (bs : List UInt8) : Nat × Nat := bs.foldl pStep (0, 0)
def prNum (x : Nat × Nat) : Nat := x.2 * 65536 + x.1
theorem pr_take {bs : List UInt8} {k : Nat} {c : UInt8} (h : bs[k]? = some c) : prL (bs.take (k + 1)) = pStep (prL (bs.take k)) c := fold_take pStep (0, 0) bs k c h
theorem pStep_lt (x : Nat × Nat) (c : UInt8) : (pStep x c).1 < 65521 ∧ (pStep x c).2 < 65521 := by unfold pStep pS; simp only; omega
theorem prF_lt : ∀ (bs : List UInt8) (x : Nat × Nat), x.1 < 65521 ∧ x.2 < 65521 → (bs.foldl pStep x).1 < 65521 ∧ (bs.foldl pStep x).2 < 65521
  | [], _, h => h
  | c :: bs, x, _ => prF_lt bs (pStep x c) (pStep_lt x c)
theorem pr_lt (bs : List UInt8) : (prL bs).1 < 65521 ∧ (prL bs).2 < 65521 := prF_lt bs (0, 0) (by omega)
theorem prF_append (a b : List UInt8) : prL (a ++ b) = b.foldl pStep (prL a) := by unfold prL; rw [List.foldl_append]

/-! ### By a table -/
def byStep (t : List Nat) (r : Nat) (c : UInt8) : Nat := (r * 256 % 65536) ^^^ (t[(r / 256) ^^^ c.toNat]?.getD 0)
def byL (t : List Nat) (bs : List UInt8) : Nat := bs.foldl (byStep t) 0
theorem by_take {t : List Nat} {bs : List UInt8} {k : Nat} {c : UInt8} (h : bs[k]? = some c) : byL t (bs.take (k + 1)) = byStep t (byL t (bs.take k)) c := fold_take (byStep t) 0 bs k c h
theorem byStep_lt {t : List Nat} (ht : ∀ x ∈ t, x < 65536) {r : Nat} (c : UInt8) : byStep t r c < 65536 := by
  unfold byStep
  refine Nat.xor_lt_two_pow (n := 16) (by omega) ?_
  rcases e : t[(r / 256) ^^^ c.toNat]? with _ | x
  · simp
  · exact ht x (List.mem_of_getElem? e)
theorem by_lt {t : List Nat} (ht : ∀ x ∈ t, x < 65536) (bs : List UInt8) : byL t bs < 65536 := fold_lt 65536 (byStep t) (fun _ c _ => byStep_lt ht c) bs 0 (by omega)

/-! ### The register goes over what is turned into one another -/
theorem xor_lc (a b c : Nat) : a ^^^ (b ^^^ c) = b ^^^ (a ^^^ c) := by rw [← Nat.xor_assoc, Nat.xor_comm a b, Nat.xor_assoc]
theorem xor_z {a b : Nat} (h : a ^^^ b = 0) : a = b := by
  have : a ^^^ (a ^^^ b) = a ^^^ 0 := by rw [h]
  rw [← Nat.xor_assoc, Nat.xor_self, Nat.zero_xor, Nat.xor_zero] at this
  exact this.symm
theorem bitStep_xor {a b : Nat} (ha : a < 65536) (hb : b < 65536) : bitStep (a ^^^ b) = bitStep a ^^^ bitStep b := by
  have hx : a ^^^ b < 65536 := Nat.xor_lt_two_pow (n := 16) ha hb
  have key : ∀ r, r < 65536 → bitStep r = (2 * r) % 65536 ^^^ (if r.testBit 15 then 4129 else 0) := by
    intro r hr
    unfold bitStep
    have ht : r.testBit 15 = decide (32768 ≤ r) := by
      rw [Nat.testBit_eq_decide_div_mod_eq]
      congr 1
      apply propext
      constructor <;> intro h <;> omega
    rw [ht]
    by_cases h : 32768 ≤ r
    · have e : 2 * r - 65536 = 2 * r % 65536 := by omega
      rw [if_pos h, e, decide_eq_true h, if_pos rfl]
    · have e : 2 * r % 65536 = 2 * r := by omega
      rw [if_neg h, e, decide_eq_false h, if_neg Bool.false_ne_true, Nat.xor_zero]
  have dbl : (2 * (a ^^^ b)) % 65536 = (2 * a) % 65536 ^^^ (2 * b) % 65536 := by
    have h2 : ∀ x : Nat, (2 * x) % 65536 = (x <<< 1) % 2 ^ 16 := fun x => by rw [Nat.shiftLeft_eq, Nat.mul_comm]
    rw [h2, h2, h2, Nat.shiftLeft_xor_distrib, Nat.xor_mod_two_pow]
  rw [key _ hx, key _ ha, key _ hb, dbl, Nat.testBit_xor]
  rcases a.testBit 15 <;> rcases b.testBit 15
  · simp
  · simp [Nat.xor_assoc]
  · have h : ∀ x y z : Nat, x ^^^ y ^^^ z = x ^^^ z ^^^ y := fun x y z => by rw [Nat.xor_assoc, Nat.xor_comm y z, Nat.xor_assoc]
    simpa using h _ _ _
  · have h : ∀ x y z : Nat, x ^^^ z ^^^ (y ^^^ z) = x ^^^ y := fun x y z => by rw [Nat.xor_assoc, xor_lc z y z, Nat.xor_self, Nat.xor_zero]
    simp [h]
theorem bitsN_xor {a b : Nat} (ha : a < 65536) (hb : b < 65536) : ∀ k, bitsN k (a ^^^ b) = bitsN k a ^^^ bitsN k b
  | 0 => rfl
  | k + 1 => by rw [bitsN, bitsN_xor ha hb k, bitStep_xor (bitsN_lt ha k) (bitsN_lt hb k)]; rfl
theorem bitStep_zero {r : Nat} (h : r < 65536) (hz : bitStep r = 0) : r = 0 := by
  unfold bitStep at hz
  split at hz
  · have he : 2 * r - 65536 = 4129 := xor_z hz
    omega
  · omega
theorem bitsN_zero {r : Nat} (h : r < 65536) : ∀ k, bitsN k r = 0 → r = 0
  | 0, hz => hz
  | k + 1, hz => bitsN_zero h k (bitStep_zero (bitsN_lt h k) hz)
theorem bitsN_inj {a b : Nat} (ha : a < 65536) (hb : b < 65536) (k : Nat) (h : bitsN k a = bitsN k b) : a = b := by
  have hx := bitsN_zero (r := a ^^^ b) (Nat.xor_lt_two_pow (n := 16) ha hb) k (by rw [bitsN_xor ha hb, h]; simp)
  exact xor_z hx

/-! ### A byte that is turned is seen -/
theorem xor_cancel_left {a b c : Nat} (h : a ^^^ b = a ^^^ c) : b = c := by
  have e : a ^^^ (a ^^^ b) = a ^^^ (a ^^^ c) := by rw [h]
  rwa [← Nat.xor_assoc, ← Nat.xor_assoc, Nat.xor_self, Nat.zero_xor, Nat.zero_xor] at e
theorem crcByte_inj {r s : Nat} (c : UInt8) (hr : r < 65536) (hs : s < 65536) (h : crcByte r c = crcByte s c) : r = s := by
  have e := bitsN_inj (mix_lt c hr) (mix_lt c hs) 8 h
  rw [Nat.xor_comm r, Nat.xor_comm s] at e
  exact xor_cancel_left e
theorem crcByte_byte {r : Nat} (c d : UInt8) (hr : r < 65536) (h : crcByte r c = crcByte r d) : c = d := by
  have e := xor_cancel_left (bitsN_inj (mix_lt c hr) (mix_lt d hr) 8 h)
  exact UInt8.toNat_inj.1 (by omega)
theorem crc_from_inj (bs : List UInt8) : ∀ (r s : Nat), r < 65536 → s < 65536 → bs.foldl crcByte r = bs.foldl crcByte s → r = s := by
  induction bs with
  | nil => intro r s _ _ h; rw [List.foldl_nil, List.foldl_nil] at h; exact h
  | cons c bs ih => intro r s hr hs h; rw [List.foldl_cons, List.foldl_cons] at h; exact crcByte_inj c hr hs (ih _ _ (crcByte_lt c hr) (crcByte_lt c hs) h)
theorem chk_from_inj : ∀ (bs : List UInt8) (r s : Nat), r < 256 → s < 256 → bs.foldl addByte r = bs.foldl addByte s → r = s
  | [], _, _, _, _, h => h
  | c :: bs, r, s, hr, hs, h => by
    have e := chk_from_inj bs (addByte r c) (addByte s c) (by unfold addByte; omega) (by unfold addByte; omega) h
    unfold addByte at e
    omega
theorem parts_of {α : Type} {bs : List α} {k : Nat} {c : α} (h : bs[k]? = some c) (d : α) : bs = bs.take k ++ c :: bs.drop (k + 1) ∧ bs.set k d = bs.take k ++ d :: bs.drop (k + 1) := by
  have hk : k < bs.length := by
    rcases Nat.lt_or_ge k bs.length with hl | hl
    · exact hl
    · rw [List.getElem?_eq_none hl] at h; cases h
  have hc : bs[k] = c := by rw [List.getElem?_eq_getElem hk] at h; exact Option.some.inj h
  refine ⟨?_, List.set_eq_take_append_cons_drop .. |>.trans (by rw [if_pos hk])⟩
  rw [← hc, ← List.drop_eq_getElem_cons hk, List.take_append_drop]
theorem crc_turn {bs : List UInt8} {k : Nat} {c d : UInt8} (h : bs[k]? = some c) (hne : c ≠ d) : crcL bs ≠ crcL (bs.set k d) := by
  obtain ⟨e1, e2⟩ := parts_of h d
  intro he
  rw [e2] at he
  conv at he => lhs; rw [e1]
  unfold crcL at he
  rw [List.foldl_append, List.foldl_append, List.foldl_cons, List.foldl_cons] at he
  have hr := crc_lt (bs.take k)
  unfold crcL at hr
  exact hne (crcByte_byte c d hr (crc_from_inj _ _ _ (crcByte_lt c hr) (crcByte_lt d hr) he))
theorem chk_turn {bs : List UInt8} {k : Nat} {c d : UInt8} (h : bs[k]? = some c) (hne : c ≠ d) : chk bs ≠ chk (bs.set k d) := by
  obtain ⟨e1, e2⟩ := parts_of h d
  intro he
  rw [e2] at he
  conv at he => lhs; rw [e1]
  unfold chk at he
  rw [List.foldl_append, List.foldl_append, List.foldl_cons, List.foldl_cons] at he
  have hr := chk_lt (bs.take k)
  unfold chk at hr
  have e := chk_from_inj _ _ _ (by unfold addByte; omega) (by unfold addByte; omega) he
  unfold addByte at e
  have hc := u8lt c
  have hd := u8lt d
  exact hne (UInt8.toNat_inj.1 (by omega))
theorem u8_xor_ne {c y : UInt8} (hy : y ≠ 0) : c ≠ c ^^^ y := by
  intro h
  have e : c.toNat = c.toNat ^^^ y.toNat := by rw [← UInt8.toNat_xor, ← h]
  have e2 : c.toNat ^^^ 0 = c.toNat ^^^ y.toNat := by rw [Nat.xor_zero]; exact e
  have := xor_cancel_left e2
  exact hy (UInt8.toNat_inj.1 (by simpa using this.symm))

/-! ### What is left goes over what is turned into one another -/
theorem crcByte_xor {r s : Nat} (a b : UInt8) (hr : r < 65536) (hs : s < 65536) : crcByte (r ^^^ s) (a ^^^ b) = crcByte r a ^^^ crcByte s b := by
  unfold crcByte
  have hsh : (a ^^^ b).toNat * 256 = a.toNat * 256 ^^^ b.toNat * 256 := by
    have h := Nat.shiftLeft_xor_distrib (a := a.toNat) (b := b.toNat) (i := 8)
    rw [UInt8.toNat_xor]
    simpa [Nat.shiftLeft_eq] using h
  have e : r ^^^ s ^^^ (a ^^^ b).toNat * 256 = (r ^^^ a.toNat * 256) ^^^ (s ^^^ b.toNat * 256) := by
    rw [hsh, Nat.xor_assoc, Nat.xor_assoc, xor_lc s]
  rw [e, bitsN_xor (mix_lt a hr) (mix_lt b hs)]
theorem crc_zip (as : List UInt8) : ∀ (bs : List UInt8) (r s : Nat), as.length = bs.length → r < 65536 → s < 65536 → (List.zipWith (· ^^^ ·) as bs).foldl crcByte (r ^^^ s) = as.foldl crcByte r ^^^ bs.foldl crcByte s := by
  induction as with
  | nil =>
    intro bs r s hl _ _
    cases bs with
    | nil => rw [List.zipWith_nil_left, List.foldl_nil, List.foldl_nil, List.foldl_nil]
    | cons b bs => simp at hl
  | cons a as ih =>
    intro bs r s hl hr hs
    cases bs with
    | nil => simp at hl
    | cons b bs =>
      rw [List.zipWith_cons_cons, List.foldl_cons, List.foldl_cons, List.foldl_cons, crcByte_xor a b hr hs]
      exact ih bs _ _ (by simpa using hl) (crcByte_lt a hr) (crcByte_lt b hs)
theorem crc_two (as bs : List UInt8) (hl : as.length = bs.length) : crcL (List.zipWith (· ^^^ ·) as bs) = crcL as ^^^ crcL bs := by
  have h := crc_zip as bs 0 0 hl (by omega) (by omega)
  rw [Nat.xor_self] at h
  exact h
/-! ### A byte that is turned is seen by the print -/
theorem ps_total : ∀ (bs : List UInt8) (x : Nat × Nat) (a : Nat), x.1 = a % 65521 → (bs.foldl pStep x).1 = bs.foldl plus a % 65521
  | [], x, a, h => by rw [List.foldl_nil, List.foldl_nil]; exact h
  | c :: bs, x, a, h => by
    rw [List.foldl_cons, List.foldl_cons]
    exact ps_total bs _ _ (by unfold pStep pS plus; simp only; omega)
theorem total_from (bs : List UInt8) : ∀ a, bs.foldl plus a = a + total bs := by
  induction bs with
  | nil => intro a; simp [total]
  | cons c bs ih =>
    intro a
    unfold total
    rw [List.foldl_cons, List.foldl_cons, ih, ih (plus 0 c)]
    unfold plus
    omega
theorem pr_fst (bs : List UInt8) : (prL bs).1 = total bs % 65521 := ps_total bs (0, 0) 0 rfl
theorem total_mid (a b : List UInt8) (c : UInt8) : total (a ++ c :: b) = total a + c.toNat + total b := by
  have h : total (a ++ c :: b) = b.foldl plus (plus (total a) c) := by unfold total; rw [List.foldl_append, List.foldl_cons]
  rw [h, total_from]
  rfl
theorem pr_turn {bs : List UInt8} {k : Nat} {c d : UInt8} (h : bs[k]? = some c) (hne : c ≠ d) : prNum (prL bs) ≠ prNum (prL (bs.set k d)) := by
  obtain ⟨e1, e2⟩ := parts_of h d
  intro he
  have h1 := pr_lt bs
  have h2 := pr_lt (bs.set k d)
  have h3 : (prL bs).1 = (prL (bs.set k d)).1 := by unfold prNum at he; omega
  have t1 : total bs = total (bs.take k) + c.toNat + total (bs.drop (k + 1)) := (congrArg total e1).trans (total_mid _ _ _)
  have t2 : total (bs.set k d) = total (bs.take k) + d.toNat + total (bs.drop (k + 1)) := (congrArg total e2).trans (total_mid _ _ _)
  rw [pr_fst, pr_fst, t1, t2] at h3
  have hc := u8lt c
  have hd := u8lt d
  exact hne (UInt8.toNat_inj.1 (by omega))
end Go.Proofs.YtonloefjhofeeaaGreatDoor
