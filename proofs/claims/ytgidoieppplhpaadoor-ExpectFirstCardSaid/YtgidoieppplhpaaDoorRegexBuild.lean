/-
  Patterns that numbers make, plain: their text is read as what they are.
-/
import Derived.Test.YtgidoieppplhpaaDoorRegexLen
namespace Go.Proofs.YtgidoieppplhpaaDoor
set_option linter.unusedVariables false

/-- Of numbers: a text, its tree, the numbers that are left. -/
def bldL : Nat → List UInt8 → List UInt8 × Re × List UInt8
  | _, [] => ([97], .one (withS st0 97), [])
  | 0, n :: ns => ([UInt8.ofNat (97 + n.toNat % 3)], .one (withS st0 (97 + n.toNat % 3)), ns)
  | d + 1, n :: ns =>
    if n.toNat % 9 < 2 then ([40] ++ (bldL d ns).1 ++ [41, 40] ++ (bldL d (bldL d ns).2.2).1 ++ [41], .thn (bldL d ns).2.1 (bldL d (bldL d ns).2.2).2.1, (bldL d (bldL d ns).2.2).2.2)
    else if n.toNat % 9 < 4 then ([40] ++ (bldL d ns).1 ++ [124, 40] ++ (bldL d (bldL d ns).2.2).1 ++ [41, 41], .alt (bldL d ns).2.1 (bldL d (bldL d ns).2.2).2.1, (bldL d (bldL d ns).2.2).2.2)
    else if n.toNat % 9 = 4 then ([40] ++ (bldL d ns).1 ++ [41, 42], .star (bldL d ns).2.1, (bldL d ns).2.2)
    else if n.toNat % 9 = 5 then ([40] ++ (bldL d ns).1 ++ [41, 63], .alt (bldL d ns).2.1 .nil, (bldL d ns).2.2)
    else if n.toNat % 9 = 6 then ([40] ++ (bldL d ns).1 ++ [41, 43], .thn (bldL d ns).2.1 (.star (bldL d ns).2.1), (bldL d ns).2.2)
    else if n.toNat % 9 = 7 then ([46], .one (notS st0), ns)
    else ([91, 94, 97, 45, 98, 93], .one (notS (withS (withS st0 97) 98)), ns)
def bldM : Nat → Nat
  | 0 => 1
  | d + 1 => 2 * bldM d + 5
theorem bldM_ge (d : Nat) : 1 ≤ bldM d := by cases d <;> simp [bldM]
theorem bld_len : ∀ (d : Nat) (ns : List UInt8), (bldL d ns).1.length ≤ bldM d
  | d, [] => by unfold bldL; exact bldM_ge d
  | 0, n :: ns => by unfold bldL; simp [bldM]
  | d + 1, n :: ns => by
    have h1 := bld_len d ns
    have h2 := bld_len d (bldL d ns).2.2
    have h3 := bldM_ge d
    unfold bldL bldM
    (repeat' split) <;> simp <;> omega
theorem bld_rest : ∀ (d : Nat) (ns : List UInt8), (bldL d ns).2.2.length ≤ ns.length
  | d, [] => by unfold bldL; simp
  | 0, n :: ns => by unfold bldL; simp
  | d + 1, n :: ns => by
    have h1 := bld_rest d ns
    have h2 := bld_rest d (bldL d ns).2.2
    unfold bldL
    (repeat' split) <;> simp <;> omega
section
variable {grp : List UInt8 → R Re}
theorem ends_nx {l : List UInt8} (h : endsF l = true) (c : UInt8) (hc : c ≠ 124) (hc2 : c ≠ 41) : nx c l = false := by
  cases l with
  | nil => rfl
  | cons a r =>
    rw [nx_cons]
    unfold endsF at h
    simp only [List.isEmpty_cons, Bool.false_or, nx_cons, Bool.or_eq_true, beq_iff_eq] at h
    rcases h with rfl | rfl
    · simpa using hc.symm
    · simpa using hc2.symm
theorem piece_plain {l r : List UInt8} {n : Re} (h : atomF grp l = (some n, r)) (he : nx 42 r = false ∧ nx 43 r = false ∧ nx 63 r = false) : pieceF grp l = (some n, r) := by
  unfold pieceF
  rw [h]
  simp [he.1, he.2.1, he.2.2]
theorem ends3 {r : List UInt8} (he : endsF r = true) : nx 42 r = false ∧ nx 43 r = false ∧ nx 63 r = false :=
  ⟨ends_nx he 42 (by decide) (by decide), ends_nx he 43 (by decide) (by decide), ends_nx he 63 (by decide) (by decide)⟩
theorem seq_one {l r : List UInt8} {n : Re} (h : pieceF grp l = (some n, r)) (hl : endsF l = false) (he : endsF r = true) : seqF grp l = (some n, r) := by
  unfold seqF
  rw [if_neg (by simp [hl]), h]
  show seqL grp (64 + 1) n r = _
  unfold seqL
  rw [if_pos he]
theorem seq_two {l q r : List UInt8} {n m : Re} (h : pieceF grp l = (some n, q)) (hl : endsF l = false) (hq : endsF q = false) (h2 : pieceF grp q = (some m, r)) (he : endsF r = true) : seqF grp l = (some (.thn n m), r) := by
  unfold seqF
  rw [if_neg (by simp [hl]), h]
  show seqL grp (64 + 1) n q = _
  unfold seqL
  rw [if_neg (by simp [hq]), h2]
  show seqL grp (63 + 1) (.thn n m) r = _
  unfold seqL
  rw [if_pos he]
theorem alt_one {l r : List UInt8} {n : Re} (h : seqF grp l = (some n, r)) (hr : nx 124 r = false) : altG grp l = (some n, r) := by
  unfold altG
  rw [h]
  show altL grp (64 + 1) n r = _
  unfold altL
  rw [if_neg (by simp [hr])]
theorem alt_two {l q r : List UInt8} {n m : Re} (h : seqF grp l = (some n, 124 :: q)) (h2 : seqF grp q = (some m, r)) (hr : nx 124 r = false) : altG grp l = (some (.alt n m), r) := by
  unfold altG
  rw [h]
  show altL grp (64 + 1) n (124 :: q) = _
  unfold altL
  rw [if_pos (by rfl), List.tail_cons, h2]
  show altL grp (63 + 1) (.alt n m) r = _
  unfold altL
  rw [if_neg (by simp [hr])]
theorem ends_cons (c : UInt8) (l : List UInt8) (h1 : c ≠ 124) (h2 : c ≠ 41) : endsF (c :: l) = false := by
  unfold endsF
  simp [nx_cons, h1, h2]
theorem atom_lit (c : UInt8) (r : List UInt8) (h : c ≠ 40 ∧ c ≠ 91 ∧ c ≠ 93 ∧ c ≠ 42 ∧ c ≠ 43 ∧ c ≠ 63 ∧ c ≠ 46 ∧ c ≠ 92) : atomF grp (c :: r) = (some (.one (withS st0 c.toNat)), r) := by
  obtain ⟨h1, h2, h3, h4, h5, h6, h7, h8⟩ := h
  unfold atomF
  simp [nx_cons, h1, h2, h3, h4, h5, h6, h7]
  have : letF (c :: r) = (some c, r) := by unfold letF; simp [nx_cons, h8]
  rw [this]
theorem atom_any_byte (r : List UInt8) : atomF grp (46 :: r) = (some (.one (notS st0)), r) := by
  unfold atomF
  simp [nx_cons]
theorem cls_ab (r : List UInt8) : clsF (91 :: 94 :: 97 :: 45 :: 98 :: 93 :: r) = (some (.one (notS (withS (withS st0 97) 98))), r) := by rfl
theorem atom_cls (r : List UInt8) : atomF grp (91 :: 94 :: 97 :: 45 :: 98 :: 93 :: r) = (some (.one (notS (withS (withS st0 97) 98))), r) := by
  unfold atomF
  rw [cls_ab]
  simp [nx_cons]
end
theorem atom_grp {k : Nat} {t q : List UInt8} {n : Re} (h : altN k (t ++ 41 :: q) = (some n, 41 :: q)) : atomF (grpN (k + 1)) (40 :: (t ++ 41 :: q)) = (some n, q) := by
  unfold atomF
  rw [if_pos (by rfl)]
  show grpF (altN k) (40 :: (t ++ 41 :: q)) = _
  unfold grpF
  rw [List.tail_cons, h]
  simp [nx_cons]
theorem ends41 (q : List UInt8) : endsF (41 :: q) = true := rfl
theorem ends124 (q : List UInt8) : endsF (124 :: q) = true := rfl
theorem three (c : UInt8) (h1 : c ≠ 42) (h2 : c ≠ 43) (h3 : c ≠ 63) (q : List UInt8) : nx 42 (c :: q) = false ∧ nx 43 (c :: q) = false ∧ nx 63 (c :: q) = false := by
  simp [nx_cons, h1, h2, h3]
/-- What numbers make is read as what it is, up to where a sequence ends. -/
theorem bld_seq : ∀ (d : Nat) (ns : List UInt8) (k : Nat) (rest : List UInt8), 2 * d ≤ k → endsF rest = true → seqF (grpN k) ((bldL d ns).1 ++ rest) = (some (bldL d ns).2.1, rest)
  | d, [], k, rest, hk, he => by
    have e : bldL d [] = ([97], .one (withS st0 97), []) := by unfold bldL; rfl
    rw [e]
    exact seq_one (piece_plain (atom_lit 97 rest (by decide)) (ends3 he)) (ends_cons _ _ (by decide) (by decide)) he
  | 0, n :: ns, k, rest, hk, he => by
    have h3 : n.toNat % 3 < 3 := Nat.mod_lt _ (by omega)
    unfold bldL
    simp only
    generalize n.toNat % 3 = j at *
    rcases (by omega : j = 0 ∨ j = 1 ∨ j = 2) with rfl | rfl | rfl
    · exact seq_one (piece_plain (atom_lit 97 rest (by decide)) (ends3 he)) (ends_cons _ _ (by decide) (by decide)) he
    · exact seq_one (piece_plain (atom_lit 98 rest (by decide)) (ends3 he)) (ends_cons _ _ (by decide) (by decide)) he
    · exact seq_one (piece_plain (atom_lit 99 rest (by decide)) (ends3 he)) (ends_cons _ _ (by decide) (by decide)) he
  | d + 1, n :: ns, k, rest, hk, he => by
    obtain ⟨k', rfl⟩ : ∃ k', k = k' + 2 := ⟨k - 2, by omega⟩
    have i1 := fun rest he => bld_seq d ns (k' + 1) rest (by omega) he
    have i2 := fun rest he => bld_seq d (bldL d ns).2.2 (k' + 1) rest (by omega) he
    have i3 := fun rest he => bld_seq d (bldL d ns).2.2 k' rest (by omega) he
    generalize hx : (bldL d ns).1 = x at *
    generalize hy : (bldL d (bldL d ns).2.2).1 = y at *
    generalize hm : (bldL d (bldL d ns).2.2).2.1 = m at *
    generalize hn : (bldL d ns).2.1 = nn at *
    have a1 : ∀ q, altN (k' + 1) (x ++ 41 :: q) = (some nn, 41 :: q) := fun q => by rw [altN_eq]; exact alt_one (i1 _ (ends41 q)) rfl
    have a2 : ∀ q, altN (k' + 1) (y ++ 41 :: q) = (some m, 41 :: q) := fun q => by rw [altN_eq]; exact alt_one (i2 _ (ends41 q)) rfl
    have a3 : ∀ q, altN k' (y ++ 41 :: q) = (some m, 41 :: q) := fun q => by rw [altN_eq]; exact alt_one (i3 _ (ends41 q)) rfl
    unfold bldL
    rw [hx, hy, hm, hn]
    split
    · have e : ([40] ++ x ++ [41, 40] ++ y ++ [41]) ++ rest = 40 :: (x ++ 41 :: (40 :: (y ++ 41 :: rest))) := by simp
      show seqF _ (([40] ++ x ++ [41, 40] ++ y ++ [41]) ++ rest) = _
      rw [e]
      exact seq_two (piece_plain (atom_grp (a1 _)) (three 40 (by decide) (by decide) (by decide) _)) (ends_cons _ _ (by decide) (by decide)) (ends_cons _ _ (by decide) (by decide)) (piece_plain (atom_grp (a2 _)) (ends3 he)) he
    split
    · have e : ([40] ++ x ++ [124, 40] ++ y ++ [41, 41]) ++ rest = 40 :: ((x ++ 124 :: 40 :: (y ++ [41])) ++ 41 :: rest) := by simp
      have e2 : (x ++ 124 :: 40 :: (y ++ [41])) ++ 41 :: rest = x ++ (124 :: 40 :: (y ++ 41 :: 41 :: rest)) := by simp
      show seqF _ (([40] ++ x ++ [124, 40] ++ y ++ [41, 41]) ++ rest) = _
      rw [e]
      have hin : altN (k' + 1) ((x ++ 124 :: 40 :: (y ++ [41])) ++ 41 :: rest) = (some (.alt nn m), 41 :: rest) := by
        rw [e2, altN_eq]
        exact alt_two (i1 _ (ends124 _)) (seq_one (piece_plain (atom_grp (a3 _)) (three 41 (by decide) (by decide) (by decide) _)) (ends_cons _ _ (by decide) (by decide)) (ends41 _)) rfl
      exact seq_one (piece_plain (atom_grp hin) (ends3 he)) (ends_cons _ _ (by decide) (by decide)) he
    split
    · have e : ([40] ++ x ++ [41, 42]) ++ rest = 40 :: (x ++ 41 :: (42 :: rest)) := by simp
      show seqF _ (([40] ++ x ++ [41, 42]) ++ rest) = _
      rw [e]
      have hp : pieceF (grpN (k' + 2)) (40 :: (x ++ 41 :: (42 :: rest))) = (some (.star nn), rest) := by
        unfold pieceF; rw [atom_grp (a1 _)]; simp [nx_cons]
      exact seq_one hp (ends_cons _ _ (by decide) (by decide)) he
    split
    · have e : ([40] ++ x ++ [41, 63]) ++ rest = 40 :: (x ++ 41 :: (63 :: rest)) := by simp
      show seqF _ (([40] ++ x ++ [41, 63]) ++ rest) = _
      rw [e]
      have hp : pieceF (grpN (k' + 2)) (40 :: (x ++ 41 :: (63 :: rest))) = (some (.alt nn .nil), rest) := by
        unfold pieceF; rw [atom_grp (a1 _)]; simp [nx_cons]
      exact seq_one hp (ends_cons _ _ (by decide) (by decide)) he
    split
    · have e : ([40] ++ x ++ [41, 43]) ++ rest = 40 :: (x ++ 41 :: (43 :: rest)) := by simp
      show seqF _ (([40] ++ x ++ [41, 43]) ++ rest) = _
      rw [e]
      have hp : pieceF (grpN (k' + 2)) (40 :: (x ++ 41 :: (43 :: rest))) = (some (.thn nn (.star nn)), rest) := by
        unfold pieceF; rw [atom_grp (a1 _)]; simp [nx_cons]
      exact seq_one hp (ends_cons _ _ (by decide) (by decide)) he
    split
    · exact seq_one (piece_plain (atom_any_byte rest) (ends3 he)) (ends_cons _ _ (by decide) (by decide)) he
    · exact seq_one (piece_plain (atom_cls rest) (ends3 he)) (ends_cons _ _ (by decide) (by decide)) he
theorem bld_parse (ns : List UInt8) : parseF (bldL 3 ns).1 = (some (bldL 3 ns).2.1, (bldL 3 ns).1.length) := by
  have h := bld_seq 3 ns 6 [] (by omega) rfl
  rw [List.append_nil] at h
  have h2 : altN 6 (bldL 3 ns).1 = (some (bldL 3 ns).2.1, []) := by rw [altN_eq]; exact alt_one h rfl
  unfold parseF
  rw [h2]
theorem bld_short (ns : List UInt8) : (bldL 3 ns).1.length ≤ 64 := Nat.le_trans (bld_len 3 ns) (by decide)
end Go.Proofs.YtgidoieppplhpaaDoor
