/-
  A pattern that is read of a text has few nodes.
-/
import Derived.Test.YtgidoieppplhpaaDoorRegexLen
import Derived.Test.YtgidoieppplhpaaDoorNfaPlain
namespace Go.Proofs.YtgidoieppplhpaaDoor
set_option linter.unusedVariables false

def SzG (c : Nat) (f : List UInt8 → R Re) : Prop := ∀ l n r, f l = (some n, r) → nds n + 2 ≤ c * (l.length - r.length)
def SzA (a : Nat) (f : List UInt8 → R Re) : Prop := ∀ l n r, f l = (some n, r) → nds n + 2 ≤ a * (l.length - r.length + 1)
theorem mul_up {c x y : Nat} (h : x ≤ y) : c * x ≤ c * y := Nat.mul_le_mul_left c h
theorem cls_nds {l r : List UInt8} {n : Re} (h : clsF l = (some n, r)) : nds n = 1 := by
  unfold clsF at h
  split at h
  · cases h
  · injection h with h1 h2
    injection h1 with h1
    subst h1
    rfl
theorem one_le {c m n : Nat} (hc : 3 ≤ c) (hn : n = 1) (hm : 0 < m) : n + 2 ≤ c * m := by
  subst hn
  exact Nat.le_trans hc (Nat.le_mul_of_pos_right c hm)
theorem atom_sz {c : Nat} (hc : 3 ≤ c) {grp : List UInt8 → R Re} (hg : Less grp) (hs : SzG c grp) {l : List UInt8} (hne : l ≠ []) {n : Re} {r : List UInt8} (h : atomF grp l = (some n, r)) : nds n + 2 ≤ c * (l.length - r.length) := by
  have hlt := atomF_lt hg hne h
  unfold atomF at h
  split at h
  · exact hs _ _ _ h
  split at h
  · exact one_le hc (cls_nds h) (by omega)
  split at h
  · cases h
  split at h
  · injection h with h1 h2
    injection h1 with h1
    subst h1
    exact one_le hc rfl (by omega)
  · split at h
    · cases h
    · injection h with h1 h2
      injection h1 with h1
      subst h1
      exact one_le hc rfl (by omega)
theorem piece_sz {c : Nat} (hc : 3 ≤ c) {grp : List UInt8 → R Re} (hg : Less grp) (hs : SzG c grp) {l : List UInt8} (hne : l ≠ []) {n : Re} {r : List UInt8} (h : pieceF grp l = (some n, r)) : nds n + 2 ≤ 2 * c * (l.length - r.length) := by
  unfold pieceF at h
  split at h
  · cases h
  · rename_i m r1 e
    have h1 := atomF_lt hg hne e
    have h0 := atom_sz hc hg hs hne e
    have hx : ∀ q, nx q r1 = true → l.length - r1.length + 1 ≤ l.length - r1.tail.length := fun q hq => by have := nx_tail hq; omega
    have key : ∀ m', l.length - r1.length + 1 ≤ m' → 2 * (c * (l.length - r1.length)) + 1 ≤ 2 * c * m' := fun m' hm => by
      have := mul_up (c := 2 * c) hm
      rw [Nat.mul_add, Nat.mul_assoc] at this
      omega
    split at h
    · rename_i hn
      injection h with h3 h4; injection h3 with h3; subst h3 h4
      have := key _ (hx _ hn)
      simp only [nds]; omega
    split at h
    · rename_i hn
      injection h with h3 h4; injection h3 with h3; subst h3 h4
      have := key _ (hx _ hn)
      simp only [nds]; omega
    split at h
    · rename_i hn
      injection h with h3 h4; injection h3 with h3; subst h3 h4
      have := key _ (hx _ hn)
      simp only [nds]; omega
    · injection h with h3 h4; injection h3 with h3; subst h3 h4
      rw [Nat.mul_assoc]; omega
theorem seqL_sz {c : Nat} (hc : 3 ≤ c) {grp : List UInt8 → R Re} (hg : Less grp) (hs : SzG c grp) : ∀ (f : Nat) (n m : Re) (l r : List UInt8), seqL grp f n l = (some m, r) → nds m + 2 ≤ nds n + 2 + 2 * c * (l.length - r.length)
  | 0, _, _, _, _, h => by cases h
  | f + 1, n, m, l, r, h => by
    unfold seqL at h
    split at h
    · injection h with h1 h2; injection h1 with h1; subst h1 h2; omega
    · rename_i he
      split at h
      · cases h
      · rename_i k r1 e
        have hne := ends_ne (by simpa using he)
        have h1 := pieceF_lt hg hne e
        have h3 := piece_sz hc hg hs hne e
        have h2 := seqL_sz hc hg hs f _ _ _ _ h
        have h4 := seqL_le hg f _ _ _ _ h
        simp only [nds] at h2
        have : 2 * c * (l.length - r.length) = 2 * c * (l.length - r1.length) + 2 * c * (r1.length - r.length) := by
          rw [← Nat.mul_add]; congr 1; omega
        rw [this]
        generalize 2 * c * (l.length - r1.length) = X at *
        generalize 2 * c * (r1.length - r.length) = Y at *
        omega
theorem seq_sz {c : Nat} (hc : 3 ≤ c) {grp : List UInt8 → R Re} (hg : Less grp) (hs : SzG c grp) : SzA (2 * c) (seqF grp) := fun l n r h => by
  unfold seqF at h
  split at h
  · injection h with h1 h2; injection h1 with h1; subst h1 h2
    have := mul_up (c := 2 * c) (show 1 ≤ l.length - l.length + 1 by omega)
    simp only [nds]; omega
  · rename_i he
    split at h
    · cases h
    · rename_i k r1 e
      have hne := ends_ne (by simpa using he)
      have h1 := pieceF_lt hg hne e
      have h3 := piece_sz hc hg hs hne e
      have h2 := seqL_sz hc hg hs _ _ _ _ _ h
      have h4 := seqL_le hg _ _ _ _ _ h
      have : 2 * c * (l.length - r.length) = 2 * c * (l.length - r1.length) + 2 * c * (r1.length - r.length) := by
        rw [← Nat.mul_add]; congr 1; omega
      rw [Nat.mul_add, this]
      generalize 2 * c * (l.length - r1.length) = X at *
      generalize 2 * c * (r1.length - r.length) = Y at *
      omega
theorem altL_sz {c : Nat} (hc : 3 ≤ c) {grp : List UInt8 → R Re} (hg : Less grp) (hs : SzG c grp) : ∀ (f : Nat) (n m : Re) (l r : List UInt8), altL grp f n l = (some m, r) → nds m + 2 ≤ nds n + 2 + 2 * c * (l.length - r.length)
  | 0, _, _, _, _, h => by cases h
  | f + 1, n, m, l, r, h => by
    unfold altL at h
    split at h
    · rename_i hn
      split at h
      · cases h
      · rename_i k r1 e
        have h1 := seqF_le hg _ _ _ e
        have h3 := seq_sz hc hg hs _ _ _ e
        have h2 := altL_sz hc hg hs f _ _ _ _ h
        have h4 := altL_le hg f _ _ _ _ h
        have h5 := nx_tail hn
        simp only [nds] at h2
        have h6 := mul_up (c := 2 * c) (show l.tail.length - r1.length + 1 ≤ l.length - r1.length by omega)
        have : 2 * c * (l.length - r.length) = 2 * c * (l.length - r1.length) + 2 * c * (r1.length - r.length) := by
          rw [← Nat.mul_add]; congr 1; omega
        rw [this]
        generalize 2 * c * (l.length - r1.length) = X at *
        generalize 2 * c * (r1.length - r.length) = Y at *
        omega
    · injection h with h1 h2; injection h1 with h1; subst h1 h2; omega
theorem alt_sz {c : Nat} (hc : 3 ≤ c) {grp : List UInt8 → R Re} (hg : Less grp) (hs : SzG c grp) : SzA (2 * c) (altG grp) := fun l n r h => by
  unfold altG at h
  split at h
  · cases h
  · rename_i k r1 e
    have h1 := seqF_le hg _ _ _ e
    have h3 := seq_sz hc hg hs _ _ _ e
    have h2 := altL_sz hc hg hs _ _ _ _ _ h
    have h4 := altL_le hg _ _ _ _ _ h
    have : 2 * c * (l.length - r.length + 1) = 2 * c * (l.length - r1.length + 1) + 2 * c * (r1.length - r.length) := by
      rw [← Nat.mul_add]; congr 1; omega
    omega
theorem grp_sz {a : Nat} {alt : List UInt8 → R Re} (hl : Le alt) (hs : SzA a alt) {l : List UInt8} {n : Re} {r : List UInt8} (h : grpF alt l = (some n, r)) : nds n + 2 ≤ a * (l.length - r.length) := by
  unfold grpF at h
  split at h
  · cases h
  · rename_i k r1 e
    have h1 := hs _ _ _ e
    have h2 := hl _ _ _ e
    split at h
    · rename_i hn
      have h3 := nx_tail hn
      have h4 := tail_le l
      injection h with h5 h6; injection h5 with h5; subst h5 h6
      exact Nat.le_trans h1 (mul_up (by omega))
    · cases h
theorem grpN_sz : ∀ k, SzG (2 ^ (k + 2)) (grpN k)
  | 0 => fun l n r h => by cases h
  | k + 1 => fun l n r h => by
    have hc : 3 ≤ 2 ^ (k + 2) := by have := Nat.pow_le_pow_right (n := 2) (by decide) (show 2 ≤ k + 2 by omega); simp at this; omega
    have ha : SzA (2 ^ (k + 1 + 2)) (altN k) := by
      rw [altN_eq, show k + 1 + 2 = (k + 2) + 1 by omega, Nat.pow_succ, Nat.mul_comm]
      exact alt_sz hc (grpN_lt k) (grpN_sz k)
    have hl : Le (altN k) := by rw [altN_eq]; exact altG_le (grpN_lt k)
    exact grp_sz hl ha h
theorem parse_nds {bs : List UInt8} {r : Re} (hl : bs.length ≤ 64) (h : parseF bs = (some r, bs.length)) : nds r ≤ 200000 := by
  unfold parseF at h
  split at h
  · rename_i n e
    injection h with h1 h2
    injection h1 with h1
    subst h1
    have h3 : SzA (2 * 2 ^ 8) (altN 6) := by rw [altN_eq]; exact alt_sz (by decide) (grpN_lt 6) (grpN_sz 6)
    have := h3 _ _ _ e
    simp at this
    omega
  · cases h
end Go.Proofs.YtgidoieppplhpaaDoor
