/-
  Patterns that numbers make, plain: their text is read as what they are.
-/
import Derived.Test.YtgndcgknedmalaaGreatDoorRegexSets
import Derived.Test.YtgndcgknedmalaaGreatDoorNfaPlain
namespace Go.Proofs.YtgndcgknedmalaaGreatDoor
set_option linter.unusedVariables false

/-- Of numbers: a text, its tree, the numbers that are left. -/
def bldL : Nat → List UInt8 → List UInt8 × Re × List UInt8
  | _, [] => ([97], .one (withS st0 97), [])
  | 0, n :: ns => ([UInt8.ofNat (97 + n.toNat % 3)], .one (withS st0 (97 + n.toNat % 3)), ns)
  | d + 1, n :: ns =>
    if n.toNat % 9 < 2 then ([40] ++ (bldL d ns).1 ++ [41, 40] ++ (bldL d (bldL d ns).2.2).1 ++ [41], .thn (bldL d ns).2.1 (bldL d (bldL d ns).2.2).2.1, (bldL d (bldL d ns).2.2).2.2)
    else if n.toNat % 9 < 4 then ([40] ++ (bldL d ns).1 ++ [124, 40] ++ (bldL d (bldL d ns).2.2).1 ++ [41, 41], .alt (bldL d ns).2.1 (bldL d (bldL d ns).2.2).2.1, (bldL d (bldL d ns).2.2).2.2)
    else if n.toNat % 9 = 4 then ([40] ++ (bldL d ns).1 ++ [41, 42], .star (bldL d ns).2.1, (bldL d ns).2.2)
    else if n.toNat % 9 = 5 then ([40] ++ (bldL d ns).1 ++ [41, 63], .alt (bldL d ns).2.1 .nil, (bldL d ns).2.2)
    else if n.toNat % 9 = 6 then ([40] ++ (bldL d ns).1 ++ [41, 43], .thn (bldL d ns).2.1 (.star (bldL d ns).2.1), (bldL d ns).2.2)
    else if n.toNat % 9 = 7 then ([46], .one (notS st0), ns)
    else ([91, 94, 97, 45, 98, 93], .one (notS (withS (withS st0 97) 98)), ns)
def bldM : Nat → Nat
  | 0 => 1
  | d + 1 => 2 * bldM d + 5
theorem bldM_ge (d : Nat) : 1 ≤ bldM d := by cases d <;> simp [bldM]
theorem bld_len : ∀ (d : Nat) (ns : List UInt8), (bldL d ns).1.length ≤ bldM d
  | d, [] => by unfold bldL; exact bldM_ge d
  | 0, n :: ns => by unfold bldL; simp [bldM]
  | d + 1, n :: ns => by
    have h1 := bld_len d ns
    have h2 := bld_len d (bldL d ns).2.2
    have h3 := bldM_ge d
    unfold bldL bldM
    (repeat' split) <;> simp <;> omega
theorem bld_rest : ∀ (d : Nat) (ns : List UInt8), (bldL d ns).2.2.length ≤ ns.length
  | d, [] => by unfold bldL; simp
  | 0, n :: ns => by unfold bldL; simp
  | d + 1, n :: ns => by
    have h1 := bld_rest d ns
    have h2 := bld_rest d (bldL d ns).2.2
    unfold bldL
    (repeat' split) <;> simp <;> omega
section
variable {grp : List UInt8 → R Re}
theorem ends_nx {l : List UInt8} (h : endsF l = true) (c : UInt8) (hc : c ≠ 124) (hc2 : c ≠ 41) : nx c l = false := by
  cases l with
  | nil => rfl
  | cons a r =>
    rw [nx_cons]
    unfold endsF at h
    simp only [List.isEmpty_cons, Bool.false_or, nx_cons, Bool.or_eq_true, beq_iff_eq] at h
    rcases h with rfl | rfl
    · simpa using hc.symm
    · simpa using hc2.symm
theorem piece_plain {l r : List UInt8} {n : Re} (h : atomF grp l = (some n, r)) (he : nx 42 r = false ∧ nx 43 r = false ∧ nx 63 r = false) : pieceF grp l = (some n, r) := by
  unfold pieceF
  rw [h]
  simp [he.1, he.2.1, he.2.2]
theorem ends3 {r : List UInt8} (he : endsF r = true) : nx 42 r = false ∧ nx 43 r = false ∧ nx 63 r = false :=
  ⟨ends_nx he 42 (by decide) (by decide), ends_nx he 43 (by decide) (by decide), ends_nx he 63 (by decide) (by decide)⟩
theorem seq_one {l r : List UInt8} {n : Re} (h : pieceF grp l = (some n, r)) (hl : endsF l = false) (he : endsF r = true) : seqF grp l = (some n, r) := by
  unfold seqF
  rw [if_neg (by simp [hl]), h]
  show seqL grp (64 + 1) n r = _
  unfold seqL
  rw [if_pos he]
theorem seq_two {l q r : List UInt8} {n m : Re} (h : pieceF grp l = (some n, q)) (hl : endsF l = false) (hq : endsF q = false) (h2 : pieceF grp q = (some m, r)) (he : endsF r = true) : seqF grp l = (some (.thn n m), r) := by
  unfold seqF
  rw [if_neg (by simp [hl]), h]
  show seqL grp (64 + 1) n q = _
  unfold seqL
  rw [if_neg (by simp [hq]), h2]
  show seqL grp (63 + 1) (.thn n m) r = _
  unfold seqL
  rw [if_pos he]
theorem alt_one {l r : List UInt8} {n : Re} (h : seqF grp l = (some n, r)) (hr : nx 124 r = false) : altG grp l = (some n, r) := by
  unfold altG
  rw [h]
  show altL grp (64 + 1) n r = _
  unfold altL
  rw [if_neg (by simp [hr])]
theorem alt_two {l q r : List UInt8} {n m : Re} (h : seqF grp l = (some n, 124 :: q)) (h2 : seqF grp q = (some m, r)) (hr : nx 124 r = false) : altG grp l = (some (.alt n m), r) := by
  unfold altG
  rw [h]
  show altL grp (64 + 1) n (124 :: q) = _
  unfold altL
  rw [if_pos (by rfl), List.tail_cons, h2]
  show altL grp (63 + 1) (.alt n m) r = _
  unfold altL
  rw [if_neg (by simp [hr])]
theorem ends_cons (c : UInt8) (l : List UInt8) (h1 : c ≠ 124) (h2 : c ≠ 41) : endsF (c :: l) = false := by
  unfold endsF
  simp [nx_cons, h1, h2]
theorem atom_lit (c : UInt8) (r : List UInt8) (h : c ≠ 40 ∧ c ≠ 91 ∧ c ≠ 93 ∧ c ≠ 42 ∧ c ≠ 43 ∧ c ≠ 63 ∧ c ≠ 46 ∧ c ≠ 92) : atomF grp (c :: r) = (some (.one (withS st0 c.toNat)), r) := by
  obtain ⟨h1, h2, h3, h4, h5, h6, h7, h8⟩ := h
  unfold atomF
  simp [nx_cons, h1, h2, h3, h4, h5, h6, h7]
  have : letF (c :: r) = (some c, r) := by unfold letF; simp [nx_cons, h8]
  rw [this]
theorem atom_any_byte (r : List UInt8) : atomF grp (46 :: r) = (some (.one (notS st0)), r) := by
  unfold atomF
  simp [nx_cons]
theorem cls_ab (r : List UInt8) : clsF (91 :: 94 :: 97 :: 45 :: 98 :: 93 :: r) = (some (.one (notS (withS (withS st0 97) 98))), r) := by rfl
theorem atom_cls (r : List UInt8) : atomF grp (91 :: 94 :: 97 :: 45 :: 98 :: 93 :: r) = (some (.one (notS (withS (withS st0 97) 98))), r) := by
  unfold atomF
  rw [cls_ab]
  simp [nx_cons]
end
theorem atom_grp {k : Nat} {t q : List UInt8} {n : Re} (h : altN k (t ++ 41 :: q) = (some n, 41 :: q)) : atomF (grpN (k + 1)) (40 :: (t ++ 41 :: q)) = (some n, q) := by
  unfold atomF
  rw [if_pos (by rfl)]
  show grpF (altN k) (40 :: (t ++ 41 :: q)) = _
  unfold grpF
  rw [List.tail_cons, h]
  simp [nx_cons]
theorem ends41 (q : List UInt8) : endsF (41 :: q) = true := rfl
theorem ends124 (q : List UInt8) : endsF (124 :: q) = true := rfl
theorem three (c : UInt8) (h1 : c ≠ 42) (h2 : c ≠ 43) (h3 : c ≠ 63) (q : List UInt8) : nx 42 (c :: q) = false ∧ nx 43 (c :: q) = false ∧ nx 63 (c :: q) = false := by
  simp [nx_cons, h1, h2, h3]
/-- What numbers make is read as what it is, up to where a sequence ends. -/
theorem bld_seq : ∀ (d : Nat) (ns : List UInt8) (k : Nat) (rest : List UInt8), 2 * d ≤ k → endsF rest = true → seqF (grpN k) ((bldL d ns).1 ++ rest) = (some (bldL d ns).2.1, rest)
  | d, [], k, rest, hk, he => by
    have e : bldL d [] = ([97], .one (withS st0 97), []) := by unfold bldL; rfl
    rw [e]
    exact seq_one (piece_plain (atom_lit 97 rest (by decide)) (ends3 he)) (ends_cons _ _ (by decide) (by decide)) he
  | 0, n :: ns, k, rest, hk, he => by
    have h3 : n.toNat % 3 < 3 := Nat.mod_lt _ (by omega)
    unfold bldL
    simp only
    generalize n.toNat % 3 = j at *
    rcases (by omega : j = 0 ∨ j = 1 ∨ j = 2) with rfl | rfl | rfl
    · exact seq_one (piece_plain (atom_lit 97 rest (by decide)) (ends3 he)) (ends_cons _ _ (by decide) (by decide)) he
    · exact seq_one (piece_plain (atom_lit 98 rest (by decide)) (ends3 he)) (ends_cons _ _ (by decide) (by decide)) he
    · exact seq_one (piece_plain (atom_lit 99 rest (by decide)) (ends3 he)) (ends_cons _ _ (by decide) (by decide)) he
  | d + 1, n :: ns, k, rest, hk, he => by
    obtain ⟨k', rfl⟩ : ∃ k', k = k' + 2 := ⟨k - 2, by omega⟩
    have i1 := fun rest he => bld_seq d ns (k' + 1) rest (by omega) he
    have i2 := fun rest he => bld_seq d (bldL d ns).2.2 (k' + 1) rest (by omega) he
    have i3 := fun rest he => bld_seq d (bldL d ns).2.2 k' rest (by omega) he
    generalize hx : (bldL d ns).1 = x at *
    generalize hy : (bldL d (bldL d ns).2.2).1 = y at *
    generalize hm : (bldL d (bldL d ns).2.2).2.1 = m at *
    generalize hn : (bldL d ns).2.1 = nn at *
    have a1 : ∀ q, altN (k' + 1) (x ++ 41 :: q) = (some nn, 41 :: q) := fun q => by rw [altN_eq]; exact alt_one (i1 _ (ends41 q)) rfl
    have a2 : ∀ q, altN (k' + 1) (y ++ 41 :: q) = (some m, 41 :: q) := fun q => by rw [altN_eq]; exact alt_one (i2 _ (ends41 q)) rfl
    have a3 : ∀ q, altN k' (y ++ 41 :: q) = (some m, 41 :: q) := fun q => by rw [altN_eq]; exact alt_one (i3 _ (ends41 q)) rfl
    unfold bldL
    rw [hx, hy, hm, hn]
    split
    · have e : ([40] ++ x ++ [41, 40] ++ y ++ [41]) ++ rest = 40 :: (x ++ 41 :: (40 :: (y ++ 41 :: rest))) := by simp
      show seqF _ (([40] ++ x ++ [41, 40] ++ y ++ [41]) ++ rest) = _
      rw [e]
      exact seq_two (piece_plain (atom_grp (a1 _)) (three 40 (by decide) (by decide) (by decide) _)) (ends_cons _ _ (by decide) (by decide)) (ends_cons _ _ (by decide) (by decide)) (piece_plain (atom_grp (a2 _)) (ends3 he)) he
    split
    · have e : ([40] ++ x ++ [124, 40] ++ y ++ [41, 41]) ++ rest = 40 :: ((x ++ 124 :: 40 :: (y ++ [41])) ++ 41 :: rest) := by simp
      have e2 : (x ++ 124 :: 40 :: (y ++ [41])) ++ 41 :: rest = x ++ (124 :: 40 :: (y ++ 41 :: 41 :: rest)) := by simp
      show seqF _ (([40] ++ x ++ [124, 40] ++ y ++ [41, 41]) ++ rest) = _
      rw [e]
      have hin : altN (k' + 1) ((x ++ 124 :: 40 :: (y ++ [41])) ++ 41 :: rest) = (some (.alt nn m), 41 :: rest) := by
        rw [e2, altN_eq]
        exact alt_two (i1 _ (ends124 _)) (seq_one (piece_plain (atom_grp (a3 _)) (three 41 (by decide) (by decide) (by decide) _)) (ends_cons _ _ (by decide) (by decide)) (ends41 _)) rfl
      exact seq_one (piece_plain (atom_grp hin) (ends3 he)) (ends_cons _ _ (by decide) (by decide)) he
    split
    · have e : ([40] ++ x ++ [41, 42]) ++ rest = 40 :: (x ++ 41 :: (42 :: rest)) := by simp
      show seqF _ (([40] ++ x ++ [41, 42]) ++ rest) = _
      rw [e]
      have hp : pieceF (grpN (k' + 2)) (40 :: (x ++ 41 :: (42 :: rest))) = (some (.star nn), rest) := by
        unfold pieceF; rw [atom_grp (a1 _)]; simp [nx_cons]
      exact seq_one hp (ends_cons _ _ (by decide) (by decide)) he
    split
    · have e : ([40] ++ x ++ [41, 63]) ++ rest = 40 :: (x ++ 41 :: (63 :: rest)) := by simp
      show seqF _ (([40] ++ x ++ [41, 63]) ++ rest) = _
      rw [e]
      have hp : pieceF (grpN (k' + 2)) (40 :: (x ++ 41 :: (63 :: rest))) = (some (.alt nn .nil), rest) := by
        unfold pieceF; rw [atom_grp (a1 _)]; simp [nx_cons]
      exact seq_one hp (ends_cons _ _ (by decide) (by decide)) he
    split
    · have e : ([40] ++ x ++ [41, 43]) ++ rest = 40 :: (x ++ 41 :: (43 :: rest)) := by simp
      show seqF _ (([40] ++ x ++ [41, 43]) ++ rest) = _
      rw [e]
      have hp : pieceF (grpN (k' + 2)) (40 :: (x ++ 41 :: (43 :: rest))) = (some (.thn nn (.star nn)), rest) := by
        unfold pieceF; rw [atom_grp (a1 _)]; simp [nx_cons]
      exact seq_one hp (ends_cons _ _ (by decide) (by decide)) he
    split
    · exact seq_one (piece_plain (atom_any_byte rest) (ends3 he)) (ends_cons _ _ (by decide) (by decide)) he
    · exact seq_one (piece_plain (atom_cls rest) (ends3 he)) (ends_cons _ _ (by decide) (by decide)) he
theorem bld_parse (ns : List UInt8) : parseF (bldL 3 ns).1 = (some (bldL 3 ns).2.1, (bldL 3 ns).1.length) := by
  have h := bld_seq 3 ns 6 [] (by omega) rfl
  rw [List.append_nil] at h
  have h2 : altN 6 (bldL 3 ns).1 = (some (bldL 3 ns).2.1, []) := by rw [altN_eq]; exact alt_one h rfl
  unfold parseF
  rw [h2]
theorem bld_short (ns : List UInt8) : (bldL 3 ns).1.length ≤ 64 := Nat.le_trans (bld_len 3 ns) (by decide)


def SzG (c : Nat) (f : List UInt8 → R Re) : Prop := ∀ l n r, f l = (some n, r) → nds n + 2 ≤ c * (l.length - r.length)
def SzA (a : Nat) (f : List UInt8 → R Re) : Prop := ∀ l n r, f l = (some n, r) → nds n + 2 ≤ a * (l.length - r.length + 1)
theorem mul_up {c x y : Nat} (h : x ≤ y) : c * x ≤ c * y := Nat.mul_le_mul_left c h
theorem cls_nds {l r : List UInt8} {n : Re} (h : clsF l = (some n, r)) : nds n = 1 := by
  unfold clsF at h
  split at h
  · cases h
  · injection h with h1 h2
    injection h1 with h1
    subst h1
    rfl
theorem one_le {c m n : Nat} (hc : 3 ≤ c) (hn : n = 1) (hm : 0 < m) : n + 2 ≤ c * m := by
  subst hn
  exact Nat.le_trans hc (Nat.le_mul_of_pos_right c hm)
theorem atom_sz {c : Nat} (hc : 3 ≤ c) {grp : List UInt8 → R Re} (hg : Less grp) (hs : SzG c grp) {l : List UInt8} (hne : l ≠ []) {n : Re} {r : List UInt8} (h : atomF grp l = (some n, r)) : nds n + 2 ≤ c * (l.length - r.length) := by
  have hlt := atomF_lt hg hne h
  unfold atomF at h
  split at h
  · exact hs _ _ _ h
  split at h
  · exact one_le hc (cls_nds h) (by omega)
  split at h
  · cases h
  split at h
  · injection h with h1 h2
    injection h1 with h1
    subst h1
    exact one_le hc rfl (by omega)
  · split at h
    · cases h
    · injection h with h1 h2
      injection h1 with h1
      subst h1
      exact one_le hc rfl (by omega)
theorem piece_sz {c : Nat} (hc : 3 ≤ c) {grp : List UInt8 → R Re} (hg : Less grp) (hs : SzG c grp) {l : List UInt8} (hne : l ≠ []) {n : Re} {r : List UInt8} (h : pieceF grp l = (some n, r)) : nds n + 2 ≤ 2 * c * (l.length - r.length) := by
  unfold pieceF at h
  split at h
  · cases h
  · rename_i m r1 e
    have h1 := atomF_lt hg hne e
    have h0 := atom_sz hc hg hs hne e
    have hx : ∀ q, nx q r1 = true → l.length - r1.length + 1 ≤ l.length - r1.tail.length := fun q hq => by have := nx_tail hq; omega
    have key : ∀ m', l.length - r1.length + 1 ≤ m' → 2 * (c * (l.length - r1.length)) + 1 ≤ 2 * c * m' := fun m' hm => by
      have := mul_up (c := 2 * c) hm
      rw [Nat.mul_add, Nat.mul_assoc] at this
      omega
    split at h
    · rename_i hn
      injection h with h3 h4; injection h3 with h3; subst h3 h4
      have := key _ (hx _ hn)
      simp only [nds]; omega
    split at h
    · rename_i hn
      injection h with h3 h4; injection h3 with h3; subst h3 h4
      have := key _ (hx _ hn)
      simp only [nds]; omega
    split at h
    · rename_i hn
      injection h with h3 h4; injection h3 with h3; subst h3 h4
      have := key _ (hx _ hn)
      simp only [nds]; omega
    · injection h with h3 h4; injection h3 with h3; subst h3 h4
      rw [Nat.mul_assoc]; omega
theorem seqL_sz {c : Nat} (hc : 3 ≤ c) {grp : List UInt8 → R Re} (hg : Less grp) (hs : SzG c grp) : ∀ (f : Nat) (n m : Re) (l r : List UInt8), seqL grp f n l = (some m, r) → nds m + 2 ≤ nds n + 2 + 2 * c * (l.length - r.length)
  | 0, _, _, _, _, h => by cases h
  | f + 1, n, m, l, r, h => by
    unfold seqL at h
    split at h
    · injection h with h1 h2; injection h1 with h1; subst h1 h2; omega
    · rename_i he
      split at h
      · cases h
      · rename_i k r1 e
        have hne := ends_ne (by simpa using he)
        have h1 := pieceF_lt hg hne e
        have h3 := piece_sz hc hg hs hne e
        have h2 := seqL_sz hc hg hs f _ _ _ _ h
        have h4 := seqL_le hg f _ _ _ _ h
        simp only [nds] at h2
        have : 2 * c * (l.length - r.length) = 2 * c * (l.length - r1.length) + 2 * c * (r1.length - r.length) := by
          rw [← Nat.mul_add]; congr 1; omega
        rw [this]
        generalize 2 * c * (l.length - r1.length) = X at *
        generalize 2 * c * (r1.length - r.length) = Y at *
        omega
theorem seq_sz {c : Nat} (hc : 3 ≤ c) {grp : List UInt8 → R Re} (hg : Less grp) (hs : SzG c grp) : SzA (2 * c) (seqF grp) := fun l n r h => by
  unfold seqF at h
  split at h
  · injection h with h1 h2; injection h1 with h1; subst h1 h2
    have := mul_up (c := 2 * c) (show 1 ≤ l.length - l.length + 1 by omega)
    simp only [nds]; omega
  · rename_i he
    split at h
    · cases h
    · rename_i k r1 e
      have hne := ends_ne (by simpa using he)
      have h1 := pieceF_lt hg hne e
      have h3 := piece_sz hc hg hs hne e
      have h2 := seqL_sz hc hg hs _ _ _ _ _ h
      have h4 := seqL_le hg _ _ _ _ _ h
      have : 2 * c * (l.length - r.length) = 2 * c * (l.length - r1.length) + 2 * c * (r1.length - r.length) := by
        rw [← Nat.mul_add]; congr 1; omega
      rw [Nat.mul_add, this]
      generalize 2 * c * (l.length - r1.length) = X at *
      generalize 2 * c * (r1.length - r.length) = Y at *
      omega
theorem altL_sz {c : Nat} (hc : 3 ≤ c) {grp : List UInt8 → R Re} (hg : Less grp) (hs : SzG c grp) : ∀ (f : Nat) (n m : Re) (l r : List UInt8), altL grp f n l = (some m, r) → nds m + 2 ≤ nds n + 2 + 2 * c * (l.length - r.length)
  | 0, _, _, _, _, h => by cases h
  | f + 1, n, m, l, r, h => by
    unfold altL at h
    split at h
    · rename_i hn
      split at h
      · cases h
      · rename_i k r1 e
        have h1 := seqF_le hg _ _ _ e
        have h3 := seq_sz hc hg hs _ _ _ e
        have h2 := altL_sz hc hg hs f _ _ _ _ h
        have h4 := altL_le hg f _ _ _ _ h
        have h5 := nx_tail hn
        simp only [nds] at h2
        have h6 := mul_up (c := 2 * c) (show l.tail.length - r1.length + 1 ≤ l.length - r1.length by omega)
        have : 2 * c * (l.length - r.length) = 2 * c * (l.length - r1.length) + 2 * c * (r1.length - r.length) := by
          rw [← Nat.mul_add]; congr 1; omega
        rw [this]
        generalize 2 * c * (l.length - r1.length) = X at *
        generalize 2 * c * (r1.length - r.length) = Y at *
        omega
    · injection h with h1 h2; injection h1 with h1; subst h1 h2; omega
theorem alt_sz {c : Nat} (hc : 3 ≤ c) {grp : List UInt8 → R Re} (hg : Less grp) (hs : SzG c grp) : SzA (2 * c) (altG grp) := fun l n r h => by
  unfold altG at h
  split at h
  · cases h
  · rename_i k r1 e
    have h1 := seqF_le hg _ _ _ e
    have h3 := seq_sz hc hg hs _ _ _ e
    have h2 := altL_sz hc hg hs _ _ _ _ _ h
    have h4 := altL_le hg _ _ _ _ _ h
    have : 2 * c * (l.length - r.length + 1) = 2 * c * (l.length - r1.length + 1) + 2 * c * (r1.length - r.length) := by
      rw [← Nat.mul_add]; congr 1; omega
    omega
theorem grp_sz {a : Nat} {alt : List UInt8 → R Re} (hl : Le alt) (hs : SzA a alt) {l : List UInt8} {n : Re} {r : List UInt8} (h : grpF alt l = (some n, r)) : nds n + 2 ≤ a * (l.length - r.length) := by
  unfold grpF at h
  split at h
  · cases h
  · rename_i k r1 e
    have h1 := hs _ _ _ e
    have h2 := hl _ _ _ e
    split at h
    · rename_i hn
      have h3 := nx_tail hn
      have h4 := tail_le l
      injection h with h5 h6; injection h5 with h5; subst h5 h6
      exact Nat.le_trans h1 (mul_up (by omega))
    · cases h
theorem grpN_sz : ∀ k, SzG (2 ^ (k + 2)) (grpN k)
  | 0 => fun l n r h => by cases h
  | k + 1 => fun l n r h => by
    have hc : 3 ≤ 2 ^ (k + 2) := by have := Nat.pow_le_pow_right (n := 2) (by decide) (show 2 ≤ k + 2 by omega); simp at this; omega
    have ha : SzA (2 ^ (k + 1 + 2)) (altN k) := by
      rw [altN_eq, show k + 1 + 2 = (k + 2) + 1 by omega, Nat.pow_succ, Nat.mul_comm]
      exact alt_sz hc (grpN_lt k) (grpN_sz k)
    have hl : Le (altN k) := by rw [altN_eq]; exact altG_le (grpN_lt k)
    exact grp_sz hl ha h
theorem parse_nds {bs : List UInt8} {r : Re} (hl : bs.length ≤ 64) (h : parseF bs = (some r, bs.length)) : nds r ≤ 200000 := by
  unfold parseF at h
  split at h
  · rename_i n e
    injection h with h1 h2
    injection h1 with h1
    subst h1
    have h3 : SzA (2 * 2 ^ 8) (altN 6) := by rw [altN_eq]; exact alt_sz (by decide) (grpN_lt 6) (grpN_sz 6)
    have := h3 _ _ _ e
    simp at this
    omega
  · cases h
end Go.Proofs.YtgndcgknedmalaaGreatDoor
