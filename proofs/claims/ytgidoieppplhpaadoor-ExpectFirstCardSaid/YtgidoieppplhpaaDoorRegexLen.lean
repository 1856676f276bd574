/-
  What is read is read: lengths.
-/
import Derived.Test.YtgidoieppplhpaaDoorRegexPlain
namespace Go.Proofs.YtgidoieppplhpaaDoor
set_option linter.unusedVariables false

theorem tail_le (l : List UInt8) : l.tail.length ≤ l.length := by simp
theorem nx_tail {c : UInt8} {l : List UInt8} (h : nx c l = true) : l.tail.length < l.length := by
  cases l with
  | nil => cases h
  | cons a r => simp
theorem nx_cons (c a : UInt8) (r : List UInt8) : nx c (a :: r) = (a == c) := rfl
theorem letF_lt {l r : List UInt8} {c : UInt8} (h : letF l = (some c, r)) : r.length < l.length := by
  unfold letF at h
  split at h
  · cases h
  · rename_i x y e
    injection h with h1 h2
    subst h2
    have : (if nx 92 l then l.tail else l).length ≤ l.length := by split; exact tail_le l; exact Nat.le_refl _
    rw [e] at this
    simp at this
    omega
theorem letF_le (l : List UInt8) : (letF l).2.length ≤ l.length := by
  unfold letF
  split
  · exact Nat.le_refl _
  · rename_i x y e
    have : (if nx 92 l then l.tail else l).length ≤ l.length := by split; exact tail_le l; exact Nat.le_refl _
    rw [e] at this
    simp at this
    show y.length ≤ _
    omega
theorem spanF_lt {l r : List UInt8} {ab : UInt8 × UInt8} (h : spanF l = (some ab, r)) : r.length < l.length := by
  unfold spanF at h
  split at h
  · cases h
  · rename_i a r1 e
    have h1 := letF_lt e
    split at h
    · split at h
      · cases h
      · rename_i b r2 e2
        have h2 := letF_lt e2
        have h3 := tail_le r1
        injection h with h4 h5
        subst h5
        omega
    · injection h with h4 h5
      subst h5
      exact h1
theorem memF_lt : ∀ (f : Nat) (s t : St) (l r : List UInt8), memF f s l = (some t, r) → r.length < l.length
  | 0, _, _, _, _, h => by cases h
  | f + 1, s, t, l, r, h => by
    unfold memF at h
    split at h
    · rename_i hn
      injection h with h1 h2
      subst h2
      exact nx_tail hn
    · split at h
      · cases h
      · rename_i ab r1 e
        have h1 := spanF_lt e
        have h2 := memF_lt f _ _ _ _ h
        omega
theorem inF_le (l : List UInt8) : (inF l).length ≤ l.length := by
  unfold inF
  have h1 := tail_le l
  have h2 := tail_le l.tail
  split <;> omega
theorem clsF_lt {l r : List UInt8} {n : Re} (h : clsF l = (some n, r)) : r.length < l.length := by
  unfold clsF at h
  split at h
  · cases h
  · rename_i s r1 e
    have h1 := memF_lt _ _ _ _ _ e
    have h2 := inF_le l
    injection h with h3 h4
    subst h4
    omega
def Less (f : List UInt8 → R Re) : Prop := ∀ l n r, f l = (some n, r) → r.length < l.length
def Le (f : List UInt8 → R Re) : Prop := ∀ l n r, f l = (some n, r) → r.length ≤ l.length
theorem atomF_lt {grp : List UInt8 → R Re} (hg : Less grp) {l : List UInt8} (hne : l ≠ []) {n : Re} {r : List UInt8} (h : atomF grp l = (some n, r)) : r.length < l.length := by
  unfold atomF at h
  split at h
  · exact hg _ _ _ h
  split at h
  · exact clsF_lt h
  split at h
  · cases h
  split at h
  · rename_i hn
    injection h with h1 h2
    subst h2
    exact nx_tail hn
  · split at h
    · cases h
    · rename_i c r1 e
      have := letF_lt e
      injection h with h1 h2
      subst h2
      exact this
theorem pieceF_lt {grp : List UInt8 → R Re} (hg : Less grp) {l : List UInt8} (hne : l ≠ []) {n : Re} {r : List UInt8} (h : pieceF grp l = (some n, r)) : r.length < l.length := by
  unfold pieceF at h
  split at h
  · cases h
  · rename_i m r1 e
    have h1 := atomF_lt hg hne e
    have h2 := tail_le r1
    split at h
    · injection h with h3 h4; subst h4; omega
    split at h
    · injection h with h3 h4; subst h4; omega
    split at h
    · injection h with h3 h4; subst h4; omega
    · injection h with h3 h4; subst h4; omega
theorem ends_ne {l : List UInt8} (h : endsF l = false) : l ≠ [] := by rintro rfl; cases h
theorem seqL_le {grp : List UInt8 → R Re} (hg : Less grp) : ∀ (f : Nat) (n m : Re) (l r : List UInt8), seqL grp f n l = (some m, r) → r.length ≤ l.length
  | 0, _, _, _, _, h => by cases h
  | f + 1, n, m, l, r, h => by
    unfold seqL at h
    split at h
    · injection h with h1 h2; subst h2; exact Nat.le_refl _
    · rename_i he
      split at h
      · cases h
      · rename_i k r1 e
        have h1 := pieceF_lt hg (ends_ne (by simpa using he)) e
        have h2 := seqL_le hg f _ _ _ _ h
        omega
theorem seqF_le {grp : List UInt8 → R Re} (hg : Less grp) : Le (seqF grp) := fun l n r h => by
  unfold seqF at h
  split at h
  · injection h with h1 h2; subst h2; exact Nat.le_refl _
  · rename_i he
    split at h
    · cases h
    · rename_i k r1 e
      have h1 := pieceF_lt hg (ends_ne (by simpa using he)) e
      have h2 := seqL_le hg _ _ _ _ _ h
      omega
theorem altL_le {grp : List UInt8 → R Re} (hg : Less grp) : ∀ (f : Nat) (n m : Re) (l r : List UInt8), altL grp f n l = (some m, r) → r.length ≤ l.length
  | 0, _, _, _, _, h => by cases h
  | f + 1, n, m, l, r, h => by
    unfold altL at h
    split at h
    · rename_i hn
      split at h
      · cases h
      · rename_i k r1 e
        have h1 := seqF_le hg _ _ _ e
        have h2 := altL_le hg f _ _ _ _ h
        have h3 := nx_tail hn
        omega
    · injection h with h1 h2; subst h2; exact Nat.le_refl _
theorem altG_le {grp : List UInt8 → R Re} (hg : Less grp) : Le (altG grp) := fun l n r h => by
  unfold altG at h
  split at h
  · cases h
  · rename_i k r1 e
    have h1 := seqF_le hg _ _ _ e
    have h2 := altL_le hg _ _ _ _ _ h
    omega
theorem grpF_lt {alt : List UInt8 → R Re} (ha : Le alt) {l : List UInt8} {n : Re} {r : List UInt8} (h : grpF alt l = (some n, r)) : r.length < l.length := by
  unfold grpF at h
  split at h
  · cases h
  · rename_i k r1 e
    have h1 := ha _ _ _ e
    have h2 := tail_le l
    split at h
    · rename_i hn
      have h3 := nx_tail hn
      injection h with h4 h5; subst h5; omega
    · cases h
theorem grpN_lt : ∀ k, Less (grpN k)
  | 0 => fun l n r h => by cases h
  | k + 1 => fun l n r h => by
    have : Le (altN k) := by rw [altN_eq]; exact altG_le (grpN_lt k)
    exact grpF_lt this h
end Go.Proofs.YtgidoieppplhpaaDoor
