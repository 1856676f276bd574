/-
  A text that is quoted is read as its bytes, one behind the other.
-/
import Derived.Test.YtgidoieppplhpaaRegexQuote
import Derived.Test.YtgidoieppplhpaaRegexBuild
namespace Go.Proofs.Ytgidoieppplhpaa
set_option linter.unusedVariables false

def byteR (c : UInt8) : Re := .one (withS st0 c.toNat)
def treeOf : List UInt8 → Re
  | [] => .nil
  | c :: r => r.foldl (fun n x => .thn n (byteR x)) (byteR c)
theorem tree_one (c : UInt8) : treeOf [c] = byteR c := rfl
theorem tree_snoc {l : List UInt8} (h : l ≠ []) (c : UInt8) : treeOf (l ++ [c]) = .thn (treeOf l) (byteR c) := by
  cases l with
  | nil => exact absurd rfl h
  | cons x r =>
    show (r ++ [c]).foldl _ _ = _
    rw [List.foldl_append]; rfl
theorem len_quo : ∀ (l : List UInt8), l.length ≤ (quo l).length
  | [] => by simp
  | c :: r => by
    have h := len_quo r
    have h1 : 1 ≤ (quo1 c).length := by unfold quo1; split <;> simp
    simp only [quo, List.length_append, List.length_cons]
    omega
theorem spc_ne {c d : UInt8} (h : spc c = false) (hd : spc d = true) : c ≠ d := by
  rintro rfl
  rw [h] at hd
  cases hd
/-- What begins a quoted text. -/
theorem quo_head (c : UInt8) (r : List UInt8) : ∃ x t, quo1 c ++ r = x :: t ∧ (x = 92 ∨ spc x = false) := by
  unfold quo1
  cases hs : spc c
  · exact ⟨c, r, rfl, .inr hs⟩
  · exact ⟨92, c :: r, rfl, .inl rfl⟩
theorem head_ne {x : UInt8} (h : x = 92 ∨ spc x = false) {d : UInt8} (hd : spc d = true) (h92 : d ≠ 92) : x ≠ d := by
  rcases h with rfl | h
  · exact fun e => h92 e.symm
  · exact spc_ne h hd
theorem quo_nx (l : List UInt8) (d : UInt8) (hd : spc d = true) (h92 : d ≠ 92) : nx d (quo l) = false := by
  cases l with
  | nil => rfl
  | cons c r =>
    obtain ⟨x, t, e, h⟩ := quo_head c (quo r)
    show nx d (quo1 c ++ quo r) = false
    rw [e, nx_cons]
    have := head_ne h hd h92
    simpa using this
theorem quo_ends (c : UInt8) (r : List UInt8) : endsF (quo (c :: r)) = false := by
  obtain ⟨x, t, e, h⟩ := quo_head c (quo r)
  show endsF (quo1 c ++ quo r) = false
  rw [e]
  exact ends_cons x t (head_ne h (by decide) (by decide)) (head_ne h (by decide) (by decide))
section
variable {grp : List UInt8 → R Re}
theorem atom_back (c : UInt8) (r : List UInt8) : atomF grp (92 :: c :: r) = (some (byteR c), r) := by
  unfold atomF
  simp [nx_cons]
  have : letF (92 :: c :: r) = (some c, r) := by unfold letF; simp [nx_cons]
  rw [this]; rfl
theorem atom_quo (c : UInt8) (r : List UInt8) : atomF grp (quo1 c ++ r) = (some (byteR c), r) := by
  unfold quo1
  cases hs : spc c
  · exact atom_lit c r ⟨spc_ne hs (by decide), spc_ne hs (by decide), spc_ne hs (by decide), spc_ne hs (by decide), spc_ne hs (by decide), spc_ne hs (by decide), spc_ne hs (by decide), spc_ne hs (by decide)⟩
  · exact atom_back c r
theorem piece_quo (c : UInt8) (r : List UInt8) : pieceF grp (quo1 c ++ quo r) = (some (byteR c), quo r) :=
  piece_plain (atom_quo c _) ⟨quo_nx r 42 (by decide) (by decide), quo_nx r 43 (by decide) (by decide), quo_nx r 63 (by decide) (by decide)⟩
theorem seq_quo : ∀ (r : List UInt8) (f : Nat) (n : Re), r.length < f → seqL grp f n (quo r) = (some (r.foldl (fun n x => .thn n (byteR x)) n), [])
  | [], f, n, h => by
    obtain ⟨k, rfl⟩ : ∃ k, f = k + 1 := ⟨f - 1, by simp at h; omega⟩
    rfl
  | c :: r, f, n, h => by
    obtain ⟨k, rfl⟩ : ∃ k, f = k + 1 := ⟨f - 1, by simp at h; omega⟩
    unfold seqL
    rw [if_neg (by rw [quo_ends]; decide)]
    show (match pieceF grp (quo1 c ++ quo r) with | (none, r) => (none, r) | (some m, r) => seqL grp k (.thn n m) r) = _
    rw [piece_quo]
    show seqL grp k (.thn n (byteR c)) (quo r) = _
    rw [seq_quo r k _ (by simp at h; omega)]
    rfl
theorem seqF_quo (l : List UInt8) (h : l.length ≤ 65) : seqF grp (quo l) = (some (treeOf l), []) := by
  cases l with
  | nil => rfl
  | cons c r =>
    unfold seqF
    rw [if_neg (by rw [quo_ends]; decide)]
    show (match pieceF grp (quo1 c ++ quo r) with | (none, r) => (none, r) | (some n, r) => seqL grp 65 n r) = _
    rw [piece_quo]
    show seqL grp 65 (byteR c) (quo r) = _
    rw [seq_quo r 65 _ (by simp at h; omega)]
    rfl
end
theorem quo_parse (l : List UInt8) (h : (quo l).length ≤ 64) : parseF (quo l) = (some (treeOf l), (quo l).length) := by
  have h1 := seqF_quo (grp := grpN 6) l (by have := len_quo l; omega)
  have h2 : altN 6 (quo l) = (some (treeOf l), []) := by rw [altN_eq]; exact alt_one h1 rfl
  unfold parseF
  rw [h2]
theorem count_all : ∀ n : Fin 256, spcL.count (UInt8.ofNat n.val) = if spc (UInt8.ofNat n.val) then 1 else 0 := by decide +kernel
theorem count_spc (c : UInt8) : spcL.count c = if spc c then 1 else 0 := by
  have h := count_all ⟨c.toNat, u8lt c⟩
  have e : UInt8.ofNat c.toNat = c := by simp
  simp only [e] at h
  exact h
theorem quo1_count (c : UInt8) : quo1 c = List.replicate (spcL.count c) 92 ++ [c] := by
  rw [count_spc]
  unfold quo1
  cases spc c <;> rfl
end Go.Proofs.Ytgidoieppplhpaa
