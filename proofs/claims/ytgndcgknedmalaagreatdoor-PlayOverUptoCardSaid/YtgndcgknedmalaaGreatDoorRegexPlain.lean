/-
  Patterns, plain: sets of bytes, trees, and what a reader makes of a text, over lists of bytes.
-/
import Derived.Test.YtgndcgknedmalaaGreatDoorTurn
namespace Go.Proofs.YtgndcgknedmalaaGreatDoor
set_option linter.unusedVariables false

/-! ### Sets -/
structure St where
  a : BitVec 64
  b : BitVec 64
  c : BitVec 64
  d : BitVec 64
deriving DecidableEq
def st0 : St := ⟨0, 0, 0, 0⟩
def St.get (s : St) : Nat → BitVec 64
  | 0 => s.a
  | 1 => s.b
  | 2 => s.c
  | _ => s.d
def St.put (s : St) : Nat → BitVec 64 → St
  | 0, x => ⟨x, s.b, s.c, s.d⟩
  | 1, x => ⟨s.a, x, s.c, s.d⟩
  | 2, x => ⟨s.a, s.b, x, s.d⟩
  | _, x => ⟨s.a, s.b, s.c, x⟩
def withS (s : St) (c : Nat) : St := s.put (c / 64) (s.get (c / 64) ||| (1#64 <<< (c % 64)))
def hasS (s : St) (c : Nat) : Bool := (s.get (c / 64)).getLsbD (c % 64)
def notS (s : St) : St := ⟨~~~s.a, ~~~s.b, ~~~s.c, ~~~s.d⟩
theorem St.get_put (s : St) (i j : Nat) (x : BitVec 64) (hi : i < 4) (hj : j < 4) : (s.put i x).get j = if i = j then x else s.get j := by
  match i, hi, j, hj with
  | 0, _, 0, _ => rfl | 0, _, 1, _ => rfl | 0, _, 2, _ => rfl | 0, _, 3, _ => rfl
  | 1, _, 0, _ => rfl | 1, _, 1, _ => rfl | 1, _, 2, _ => rfl | 1, _, 3, _ => rfl
  | 2, _, 0, _ => rfl | 2, _, 1, _ => rfl | 2, _, 2, _ => rfl | 2, _, 3, _ => rfl
  | 3, _, 0, _ => rfl | 3, _, 1, _ => rfl | 3, _, 2, _ => rfl | 3, _, 3, _ => rfl
theorem bit_one (i j : Nat) (hi : i < 64) (hj : j < 64) : (1#64 <<< i).getLsbD j = decide (i = j) := by
  rw [BitVec.getLsbD_shiftLeft]
  by_cases h : i = j
  · subst h; simp [hi]
  · by_cases h2 : j < i
    · simp [h, h2, hj]
    · have : j - i ≠ 0 := by omega
      simp [h, hj, h2, BitVec.getLsbD_one, this]
theorem has_with (s : St) (x c : Nat) (hx : x < 256) (hc : c < 256) : hasS (withS s x) c = (hasS s c || decide (x = c)) := by
  unfold hasS withS
  rw [St.get_put _ _ _ _ (by omega) (by omega)]
  by_cases h : x / 64 = c / 64
  · rw [if_pos h, BitVec.getLsbD_or, bit_one _ _ (Nat.mod_lt _ (by omega)) (Nat.mod_lt _ (by omega)), h]
    congr 1
    apply decide_eq_decide.2
    omega
  · rw [if_neg h]
    have : ¬ x = c := fun e => h (by rw [e])
    simp [this]
theorem has_not (s : St) (c : Nat) : hasS (notS s) c = !hasS s c := by
  have hm : c % 64 < 64 := Nat.mod_lt _ (by omega)
  unfold hasS notS
  generalize c / 64 = i
  match i with
  | 0 => simp [St.get, hm]
  | 1 => simp [St.get, hm]
  | 2 => simp [St.get, hm]
  | n + 3 => simp [St.get, hm]
theorem not_not (s : St) : notS (notS s) = s := by simp [notS]
theorem has_none (c : Nat) : hasS st0 c = false := by
  unfold hasS st0
  generalize c / 64 = i
  match i with
  | 0 => simp [St.get]
  | 1 => simp [St.get]
  | 2 => simp [St.get]
  | n + 3 => simp [St.get]

/-! ### Trees -/
inductive Re where
  | nil
  | one (s : St)
  | thn (a b : Re)
  | alt (a b : Re)
  | star (a : Re)
deriving DecidableEq
def Re.kind : Re → Nat
  | .nil => 0
  | .one _ => 1
  | .thn _ _ => 2
  | .alt _ _ => 3
  | .star _ => 4
def Re.set : Re → St
  | .one s => s
  | _ => st0
def Re.kids : Re → List Re
  | .nil => []
  | .one _ => []
  | .thn a b => [a, b]
  | .alt a b => [a, b]
  | .star a => [a]

/-! ### Reading -/
abbrev R (α : Type) := Option α × List UInt8
def nx (c : UInt8) (l : List UInt8) : Bool := l.head? == some c
def endsF (l : List UInt8) : Bool := l.isEmpty || nx 124 l || nx 41 l
def letF (l : List UInt8) : R UInt8 :=
  match (if nx 92 l then l.tail else l) with
  | [] => (none, l)
  | c :: r => (some c, r)
def dashF (l : List UInt8) : Bool := nx 45 l && !(l.take 2 == [45, 93])
def spanF (l : List UInt8) : R (UInt8 × UInt8) :=
  match letF l with
  | (none, r) => (none, r)
  | (some a, r) =>
    if dashF r then
      match letF r.tail with
      | (none, r2) => (none, r2)
      | (some b, r2) => (if a.toNat ≤ b.toNat then some (a, b) else none, r2)
    else (some (a, a), r)
def addR (s : St) (a : Nat) : Nat → St
  | 0 => s
  | n + 1 => withS (addR s a n) (a + n)
def memF : Nat → St → List UInt8 → R St
  | 0, _, l => (none, l)
  | f + 1, s, l =>
    if nx 93 l then (some s, l.tail) else
      match spanF l with
      | (none, r) => (none, r)
      | (some ab, r) => memF f (addR s ab.1.toNat (ab.2.toNat + 1 - ab.1.toNat)) r
def inF (l : List UInt8) : List UInt8 := if nx 94 l.tail then l.tail.tail else l.tail
def clsF (l : List UInt8) : R Re :=
  match memF 65 st0 (inF l) with
  | (none, _) => (none, l)
  | (some s, r) => (some (.one (if nx 94 l.tail then notS s else s)), r)
def grpF (alt : List UInt8 → R Re) (l : List UInt8) : R Re :=
  match alt l.tail with
  | (none, r) => (none, r)
  | (some n, r) => if nx 41 r then (some n, r.tail) else (none, r)
def atomF (grp : List UInt8 → R Re) (l : List UInt8) : R Re :=
  if nx 40 l then grp l
  else if nx 91 l then clsF l
  else if nx 93 l || nx 42 l || nx 43 l || nx 63 l then (none, l)
  else if nx 46 l then (some (.one (notS st0)), l.tail)
  else match letF l with
    | (none, r) => (none, r)
    | (some c, r) => (some (.one (withS st0 c.toNat)), r)
def pieceF (grp : List UInt8 → R Re) (l : List UInt8) : R Re :=
  match atomF grp l with
  | (none, r) => (none, r)
  | (some n, r) =>
    if nx 42 r then (some (.star n), r.tail)
    else if nx 43 r then (some (.thn n (.star n)), r.tail)
    else if nx 63 r then (some (.alt n .nil), r.tail)
    else (some n, r)
def seqL (grp : List UInt8 → R Re) : Nat → Re → List UInt8 → R Re
  | 0, _, l => (none, l)
  | f + 1, n, l =>
    if endsF l then (some n, l) else
      match pieceF grp l with
      | (none, r) => (none, r)
      | (some m, r) => seqL grp f (.thn n m) r
def seqF (grp : List UInt8 → R Re) (l : List UInt8) : R Re :=
  if endsF l then (some .nil, l) else
    match pieceF grp l with
    | (none, r) => (none, r)
    | (some n, r) => seqL grp 65 n r
def altL (grp : List UInt8 → R Re) : Nat → Re → List UInt8 → R Re
  | 0, _, l => (none, l)
  | f + 1, n, l =>
    if nx 124 l then
      match seqF grp l.tail with
      | (none, r) => (none, r)
      | (some m, r) => altL grp f (.alt n m) r
    else (some n, l)
def altG (grp : List UInt8 → R Re) (l : List UInt8) : R Re :=
  match seqF grp l with
  | (none, r) => (none, r)
  | (some n, r) => altL grp 65 n r
/-- Brackets may stand so many deep in one another. -/
def altN : Nat → List UInt8 → R Re
  | 0 => altG fun l => (none, l)
  | k + 1 => altG (grpF (altN k))
def grpN : Nat → List UInt8 → R Re
  | 0 => fun l => (none, l)
  | k + 1 => grpF (altN k)
theorem altN_eq (k : Nat) : altN k = altG (grpN k) := by cases k <;> rfl
/-- What a text is: a pattern, or where it is none. -/
def parseF (bs : List UInt8) : Option Re × Nat :=
  match altN 6 bs with
  | (some n, []) => (some n, bs.length)
  | (_, r) => (none, bs.length - r.length)
end Go.Proofs.YtgndcgknedmalaaGreatDoor
