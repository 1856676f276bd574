/-
  Package regex's Set, by contracts.
-/
import Derived.Test.YtgndcgknedmalaaGreatDoorProg
import Derived.Test.YtgndcgknedmalaaGreatDoorRegexPlain
import Derived.Test.YtgndcgknedmalaaGreatDoorBits
import Derived.Test.YtgndcgknedmalaaGreatDoorStr
import Derived.WalkKit
import Derived.ProofKit
import Derived.WalkLawsBesides
import Derived.IntWalk
import Derived.RegionTactic
import Derived.BigRegion
import Derived.ChangeAlike
import Derived.Deep.QuietTactic
import Derived.BigQuiet
import Derived.Deep.RegionHeld3
import Derived.Deep.DrawnRows
import Derived.Outline
import Derived.Test.YtgndcgknedmalaaGreatDoorMake
import Derived.OwnWalk
namespace Go.Proofs.YtgndcgknedmalaaGreatDoor
open Go.RowKit
set_option linter.unusedVariables false

theorem results_cell_one {fn : Func} {p : Tmp} {ty : TypeId} (h : fn.results = #[.cell p ty]) (tmps : Array Value) (P : Program) (w : World) :
    (results fn tmps).run P w = ((asAddr (tmps.getD p undef)).run P w).andThen fun a w₁ => (loadVar ty a).run P w₁ := by
  simp only [results, h]
  simp [Sem.run_bind, Result.andThen]
/-- A set, as a value. -/
def stV (s : St) : Value := .agg #[.int .u64 (s.a.toNat : Int), .int .u64 (s.b.toNat : Int), .int .u64 (s.c.toNat : Int), .int .u64 (s.d.toNat : Int)]
theorem or_bit (x : BitVec 64) (j : Nat) (hj : j < 64) : bits .or .u64 (x.toNat : Int) (IntKind.u64.wrap (1 * 2 ^ j)) = ((x ||| (1#64 <<< j)).toNat : Int) := by
  have h1 : IntKind.u64.wrap (1 * 2 ^ j) = ((2 ^ j : Nat) : Int) := by
    have hlt : 2 ^ j < 18446744073709551616 := by
      have := Nat.pow_lt_pow_right (a := 2) (by omega) hj
      simpa using this
    have e : (1 * 2 ^ j : Int) = ((2 ^ j : Nat) : Int) := by rw [Int.one_mul]; push_cast; rfl
    rw [e]
    generalize 2 ^ j = m at *
    simp [IntKind.wrap, IntKind.bits, IntKind.signed]
    omega
  have hlt : 2 ^ j < 18446744073709551616 := by
    have := Nat.pow_lt_pow_right (a := 2) (by omega) hj
    simpa using this
  rw [h1, u64_or_nat _ _ (by have := x.isLt; simpa using this) hlt, BitVec.toNat_or, BitVec.toNat_shiftLeft]
  congr 2
  rw [Nat.shiftLeft_eq, show (1#64).toNat = 1 from rfl, Nat.one_mul, Nat.mod_eq_of_lt (by simpa using hlt)]
theorem not_bits (x : BitVec 64) : bits .xor .u64 IntKind.u64.max (x.toNat : Int) = ((~~~x).toNat : Int) := by
  have h := x.isLt
  rw [show IntKind.u64.max = ((18446744073709551615 : Nat) : Int) from rfl, u64_xor_nat _ _ (by omega) (by simpa using h)]
  have : (18446744073709551615 : Nat) = (BitVec.allOnes 64).toNat := by decide
  rw [this, ← BitVec.toNat_xor, BitVec.allOnes_xor]
theorem bit_of (x : BitVec 64) (j : Nat) (hj : j < 64) : (bits .and .u64 ((x.toNat : Int) / 2 ^ j) 1 == 1) = x.getLsbD j := by
  have h := x.isLt
  have e : (x.toNat : Int) / 2 ^ j = ((x.toNat / 2 ^ j : Nat) : Int) := by push_cast; rfl
  have hlt : x.toNat / 2 ^ j < 18446744073709551616 := Nat.lt_of_le_of_lt (Nat.div_le_self _ _) (by simpa using h)
  have k := u64_and_nat (x.toNat / 2 ^ j) 1 hlt (by omega)
  rw [e, show (1 : Int) = ((1 : Nat) : Int) from rfl, k, Nat.and_one_is_mod]
  rw [← BitVec.testBit_toNat, Nat.testBit_eq_decide_div_mod_eq]
  have : x.toNat / 2 ^ j % 2 < 2 := Nat.mod_lt _ (by omega)
  by_cases h2 : x.toNat / 2 ^ j % 2 = 1
  · rw [h2]; rfl
  · have h0 : x.toNat / 2 ^ j % 2 = 0 := by omega
    rw [h0]; rfl

set_option maxHeartbeats 4000000 in
theorem with_any (s : St) (c : Nat) (hc : c < 256) (w : World) :
    Calls Tryz.prog 57 #[stV s, .int .u8 (c : Int)] w fun e w' => e = .returned (stV (withS s c)) ∧ Below w.heap.size w w' := by
  have hj : c % 64 < 64 := Nat.mod_lt _ (by omega)
  have hi : c / 64 < 4 := by omega
  unfold withS
  have e1 : (c : Int) / 64 = ((c / 64 : Nat) : Int) := by omega
  have e2 : (c : Int) % 64 = ((c % 64 : Nat) : Int) := by omega
  generalize c % 64 = j at *
  generalize c / 64 = i at *
  unfold stV
  obtain ⟨a, b, d, f⟩ := s
  have i0 : (0 : Int) ≤ (c : Int) := by omega
  have i1 : (c : Int) ≤ 255 := by omega
  have HC := keepHid hc
  clear hc
  rcases (by omega : i = 0 ∨ i = 1 ∨ i = 2 ∨ i = 3) with rfl | rfl | rfl | rfl
  all_goals
    simp only [St.get, St.put]
    rw [← or_bit _ j hj]
    go_enter Tryz.func57, Tryz.ntmps57
    go_wp2
    refine bodyPost_ret (by rw [results_cell_one rfl]; go_simp) rfl ⟨rfl, ?_⟩
    exact ((Below.refl _ _).alloc (Nat.le_refl _) _).alloc (by simp) _


/-- A block of four, of six cells. -/
theorem blk6 {w : World} {g : Nat} {t : TypeId} {a0 a1 a2 a3 a4 a5 : Value} (h : Blk w g t #[a0, a1, a2, a3, a4, a5]) :
    w.cell? ⟨g, 0, none⟩ = some a0 ∧ w.cell? ⟨g, 1, none⟩ = some a1 ∧ w.cell? ⟨g, 2, none⟩ = some a2 ∧ w.cell? ⟨g, 3, none⟩ = some a3 ∧ w.cell? ⟨g, 4, none⟩ = some a4 ∧ w.cell? ⟨g, 5, none⟩ = some a5 ∧ ∀ i, w.frozen? ⟨g, i, none⟩ = false :=
  ⟨h.cell 0, h.cell 1, h.cell 2, h.cell 3, h.cell 4, h.cell 5, h.frozen⟩

set_option maxHeartbeats 4000000 in
theorem not_any (s : St) (w : World) :
    Calls Tryz.prog 56 #[stV s] w fun e w' => e = .returned (stV (notS s)) ∧ Below w.heap.size w w' := by
  obtain ⟨a, b, d, f⟩ := s
  unfold notS stV
  simp only
  have q1 := not_bits a
  have q2 := not_bits b
  have q3 := not_bits d
  have q4 := not_bits f
  generalize (~~~a).toNat = na at *
  generalize (~~~b).toNat = nb at *
  generalize (~~~d).toNat = nd at *
  generalize (~~~f).toNat = nf at *
  have hs : IntKind.u64.signed = false := rfl
  go_enter Tryz.func56, Tryz.ntmps56
  go_wp2
  refine bodyPost_ret (v := .agg #[.int .u64 (na : Int), .int .u64 (nb : Int), .int .u64 (nd : Int), .int .u64 (nf : Int)]) (by rw [results_cell_one rfl]; go_simp) rfl ⟨rfl, ?_⟩
  exact ((Below.refl _ _).alloc (Nat.le_refl _) _).alloc (by simp) _

theorem all_any (w : World) : Calls Tryz.prog 136 #[] w fun e w' => e = .returned (stV (notS st0)) ∧ Below w.heap.size w w' := by
  obtain ⟨w1, hw1⟩ : ∃ w1, w.alloc (.cells #[.int .u64 0, .int .u64 0, .int .u64 0, .int .u64 0] 73) = w1 := ⟨_, rfl⟩
  have hk1 : Blk w1 w.heap.size 73 #[.int .u64 0, .int .u64 0, .int .u64 0, .int .u64 0] := by rw [← hw1]; exact Blk.new _ _ _
  have hb1 : Below w.heap.size w w1 := by rw [← hw1]; exact (Below.refl _ _).alloc (Nat.le_refl _) _
  have H := not_any st0 w1
  unfold stV at H ⊢
  generalize (notS st0).a.toNat = a at *
  generalize (notS st0).b.toNat = b at *
  generalize (notS st0).c.toNat = c at *
  generalize (notS st0).d.toNat = d at *
  go_enter Tryz.func136, Tryz.ntmps136
  go_wp2_with fail
  refine H.mono ?_
  rintro e w' ⟨rfl, hb⟩
  have hk := hk1.below hb hk1.lt
  have HB := keepHid (hb1.trans (hb.mono hb1.size))
  obtain ⟨r0, r1, r2, r3, rf⟩ := blk4 hk
  clear hk hk1 hb hb1 hw1
  go_wp2
  refine bodyPost_ret (v := .agg #[.int .u64 (a : Int), .int .u64 (b : Int), .int .u64 (c : Int), .int .u64 (d : Int)]) (by rw [results_cell_one rfl]; go_simp) rfl ⟨rfl, ?_⟩
  exact (((HB.out.setCell (Nat.le_refl _) _).setCell (Nat.le_refl _) _).setCell (Nat.le_refl _) _).setCell (Nat.le_refl _) _


/-- A node's own six cells. -/
structure Hd where
  k : Int
  s : St
  A : Option Addr
  n : Nat
  c : Nat
def hdV (h : Hd) : Value := .agg #[.int .i64 h.k, .int .u64 (h.s.a.toNat : Int), .int .u64 (h.s.b.toNat : Int), .int .u64 (h.s.c.toNat : Int), .int .u64 (h.s.d.toNat : Int), .slice h.A h.n h.c]
def hd0 : Hd := ⟨0, st0, none, 0, 0⟩
/-- It lies in block g from place i on. -/
structure AtHd (w : World) (g i : Nat) (h : Hd) : Prop where
  c0 : w.cell? ⟨g, i, none⟩ = some (.int .i64 h.k)
  c1 : w.cell? ⟨g, i + 1, none⟩ = some (.int .u64 (h.s.a.toNat : Int))
  c2 : w.cell? ⟨g, i + 2, none⟩ = some (.int .u64 (h.s.b.toNat : Int))
  c3 : w.cell? ⟨g, i + 3, none⟩ = some (.int .u64 (h.s.c.toNat : Int))
  c4 : w.cell? ⟨g, i + 4, none⟩ = some (.int .u64 (h.s.d.toNat : Int))
  c5 : w.cell? ⟨g, i + 5, none⟩ = some (.slice h.A h.n h.c)
theorem AtHd.lt {w : World} {g i : Nat} {h : Hd} (a : AtHd w g i h) : g < w.heap.size := World.block_lt_of_cell? _ _ a.c0
theorem AtHd.keep {w w' : World} {g i : Nat} {h : Hd} (a : AtHd w g i h) (hk : w'.heap[g]? = w.heap[g]?) : AtHd w' g i h :=
  ⟨(World.cell?_of_block hk).trans a.c0, (World.cell?_of_block hk).trans a.c1, (World.cell?_of_block hk).trans a.c2, (World.cell?_of_block hk).trans a.c3, (World.cell?_of_block hk).trans a.c4, (World.cell?_of_block hk).trans a.c5⟩

/-- The node is the root of this tree, whose nodes' kids lie in blocks of S. -/
def IsS (w : World) (S : Nat → Prop) : Hd → Re → Prop
  | h, .nil => h = hd0
  | h, .one s => h = ⟨1, s, none, 0, 0⟩
  | h, .thn a b => ∃ g c x y, h = ⟨2, st0, some ⟨g, 0, none⟩, 2, c⟩ ∧ 2 ≤ c ∧ c ≤ maxLen ∧ S g ∧ AtHd w g 0 x ∧ AtHd w g 6 y ∧ IsS w S x a ∧ IsS w S y b
  | h, .alt a b => ∃ g c x y, h = ⟨3, st0, some ⟨g, 0, none⟩, 2, c⟩ ∧ 2 ≤ c ∧ c ≤ maxLen ∧ S g ∧ AtHd w g 0 x ∧ AtHd w g 6 y ∧ IsS w S x a ∧ IsS w S y b
  | h, .star a => ∃ g c x, h = ⟨4, st0, some ⟨g, 0, none⟩, 1, c⟩ ∧ 1 ≤ c ∧ c ≤ maxLen ∧ S g ∧ AtHd w g 0 x ∧ IsS w S x a
/-- .. at or above block lo. -/
abbrev IsRe (w : World) (lo : Nat) (h : Hd) (r : Re) : Prop := IsS w (fun g => lo ≤ g) h r
theorem IsS.move {w w' : World} {S T : Nat → Prop} (hk : ∀ g, S g → g < w.heap.size → w'.heap[g]? = w.heap[g]?) (ht : ∀ g, S g → g < w.heap.size → T g) : ∀ {r : Re} {h : Hd}, IsS w S h r → IsS w' T h r
  | .nil, _, h => h
  | .one _, _, h => h
  | .thn _ _, _, ⟨g, c, x, y, e, h1, h2, hl, ax, ay, ix, iy⟩ => ⟨g, c, x, y, e, h1, h2, ht g hl ax.lt, ax.keep (hk g hl ax.lt), ay.keep (hk g hl ax.lt), ix.move hk ht, iy.move hk ht⟩
  | .alt _ _, _, ⟨g, c, x, y, e, h1, h2, hl, ax, ay, ix, iy⟩ => ⟨g, c, x, y, e, h1, h2, ht g hl ax.lt, ax.keep (hk g hl ax.lt), ay.keep (hk g hl ax.lt), ix.move hk ht, iy.move hk ht⟩
  | .star _, _, ⟨g, c, x, e, h1, h2, hl, ax, ix⟩ => ⟨g, c, x, e, h1, h2, ht g hl ax.lt, ax.keep (hk g hl ax.lt), ix.move hk ht⟩
theorem IsS.mono {w : World} {S T : Nat → Prop} {r : Re} {h : Hd} (i : IsS w S h r) (ht : ∀ g, S g → g < w.heap.size → T g) : IsS w T h r := i.move (fun _ _ _ => rfl) ht
theorem IsS.keep {w w' : World} {S : Nat → Prop} {r : Re} {h : Hd} (i : IsS w S h r) (hk : ∀ g, S g → g < w.heap.size → w'.heap[g]? = w.heap[g]?) : IsS w' S h r := i.move hk fun _ h _ => h
theorem IsS.below {w w' : World} {S : Nat → Prop} {r : Re} {h : Hd} (i : IsS w S h r) (hb : Below w.heap.size w w') : IsS w' S h r := i.keep fun g _ hg => hb.block g hg
theorem IsS.low {w : World} {lo lo' : Nat} {r : Re} {h : Hd} (i : IsRe w lo h r) (hl : lo' ≤ lo) : IsRe w lo' h r := i.mono fun g hg _ => Nat.le_trans hl hg
theorem IsS.only {w w' : World} {lo g : Nat} {r : Re} {h : Hd} (i : IsRe w lo h r) (ho : Only g w w') (hg : g < lo) : IsRe w' lo h r :=
  i.keep fun j hj hs => ho.block j hs (fun e => by injection e with e; have : lo ≤ j := hj; omega)

theorem blk_at {w : World} {g : Nat} {t : TypeId} {h : Hd} (hb : Blk w g t #[.int .i64 h.k, .int .u64 (h.s.a.toNat : Int), .int .u64 (h.s.b.toNat : Int), .int .u64 (h.s.c.toNat : Int), .int .u64 (h.s.d.toNat : Int), .slice h.A h.n h.c]) : AtHd w g 0 h :=
  ⟨hb.cell 0, hb.cell 1, hb.cell 2, hb.cell 3, hb.cell 4, hb.cell 5⟩
theorem blk_at1 {w : World} {g : Nat} {t : TypeId} {h k : Hd} (hb : Blk w g t #[.int .i64 h.k, .int .u64 (h.s.a.toNat : Int), .int .u64 (h.s.b.toNat : Int), .int .u64 (h.s.c.toNat : Int), .int .u64 (h.s.d.toNat : Int), .slice h.A h.n h.c, .int .i64 k.k, .int .u64 (k.s.a.toNat : Int), .int .u64 (k.s.b.toNat : Int), .int .u64 (k.s.c.toNat : Int), .int .u64 (k.s.d.toNat : Int), .slice k.A k.n k.c]) : AtHd w g 0 h ∧ AtHd w g 6 k :=
  ⟨⟨hb.cell 0, hb.cell 1, hb.cell 2, hb.cell 3, hb.cell 4, hb.cell 5⟩, ⟨hb.cell 6, hb.cell 7, hb.cell 8, hb.cell 9, hb.cell 10, hb.cell 11⟩⟩

theorem Blk.new_at (w : World) (t : TypeId) (cs : Array Value) (g : Nat) (hg : g = w.heap.size) : Blk (w.alloc (.cells cs t)) g t cs := by subst hg; exact Blk.new w t cs
set_option maxHeartbeats 4000000 in
theorem one_any (s : St) (w : World) : Calls Tryz.prog 135 #[stV s] w fun e w' => e = .returned (hdV ⟨1, s, none, 0, 0⟩) ∧ Below w.heap.size w w' := by
  unfold stV hdV
  generalize s.a.toNat = a at *
  generalize s.b.toNat = b at *
  generalize s.c.toNat = c at *
  generalize s.d.toNat = d at *
  go_enter Tryz.func135, Tryz.ntmps135
  go_wp2
  refine bodyPost_ret (v := .agg #[.int .i64 1, .int .u64 (a : Int), .int .u64 (b : Int), .int .u64 (c : Int), .int .u64 (d : Int), .slice none 0 0]) (by rw [results_cell_one rfl]; go_simp) rfl ⟨rfl, ?_⟩
  exact ((Below.refl _ _).alloc (Nat.le_refl _) _).alloc (by simp) _

def PairPost (k : Int) (x y : Hd) (w : World) (e : Ending) (w' : World) : Prop :=
  ∃ g, e = .returned (hdV ⟨k, st0, some ⟨g, 0, none⟩, 2, 2⟩) ∧ w.heap.size ≤ g ∧ AtHd w' g 0 x ∧ AtHd w' g 6 y ∧ Below w.heap.size w w'
set_option maxHeartbeats 4000000 in
theorem pair_any (k : Int) (x y : Hd) (w : World) : Calls Tryz.prog 107 #[.int .i64 k, hdV x, hdV y] w (PairPost k x y w) := by
  unfold hdV
  go_enter Tryz.func107, Tryz.ntmps107
  go_wp2
  refine bodyPost_ret (v := hdV ⟨k, st0, some ⟨w.heap.size + 1 + 1 + 1, 0, none⟩, 2, 2⟩) (by rw [results_cell_one rfl]; go_simp; rfl) rfl ⟨_, rfl, by omega, ?_, ?_, ?_⟩
  · exact (blk_at1 (Blk.new_at _ _ _ _ (by simp))).1
  · exact (blk_at1 (Blk.new_at _ _ _ _ (by simp))).2
  · (repeat' (first | exact Below.refl _ _ | refine Below.setCell ?_ (by simp <;> omega) _ | refine Below.alloc ?_ (by simp <;> omega) _))
def StarPost (x : Hd) (w : World) (e : Ending) (w' : World) : Prop :=
  ∃ g, e = .returned (hdV ⟨4, st0, some ⟨g, 0, none⟩, 1, 1⟩) ∧ w.heap.size ≤ g ∧ AtHd w' g 0 x ∧ Below w.heap.size w w'
set_option maxHeartbeats 4000000 in
theorem star_any (x : Hd) (w : World) : Calls Tryz.prog 129 #[hdV x] w (StarPost x w) := by
  unfold hdV
  go_enter Tryz.func129, Tryz.ntmps129
  go_wp2
  refine bodyPost_ret (v := hdV ⟨4, st0, some ⟨w.heap.size + 1 + 1, 0, none⟩, 1, 1⟩) (by rw [results_cell_one rfl]; go_simp; rfl) rfl ⟨_, rfl, by omega, ?_, ?_⟩
  · exact blk_at (Blk.new_at _ _ _ _ (by simp))
  · (repeat' (first | exact Below.refl _ _ | refine Below.setCell ?_ (by simp <;> omega) _ | refine Below.alloc ?_ (by simp <;> omega) _))


/-- The reader's block: the text, how much of it is read, in how many brackets. -/
def psC (bs : List UInt8) (i d : Nat) : Array Value := #[.string (strB bs), .int .i64 (i : Int), .int .i64 (d : Int)]
structure Ps (w : World) (g : Nat) (bs : List UInt8) (i d : Nat) : Prop where
  blk : Blk w g 179 (psC bs i d)
  le : i ≤ bs.length
  max : bs.length ≤ 64
theorem Ps.cells {w : World} {g i d : Nat} {bs : List UInt8} (h : Ps w g bs i d) :
    w.cell? ⟨g, 0, none⟩ = some (.string (strB bs)) ∧ w.cell? ⟨g, 1, none⟩ = some (.int .i64 (i : Int)) ∧ w.cell? ⟨g, 2, none⟩ = some (.int .i64 (d : Int)) ∧ ∀ k, w.frozen? ⟨g, k, none⟩ = false :=
  ⟨h.blk.cell 0, h.blk.cell 1, h.blk.cell 2, h.blk.frozen⟩
theorem Ps.drewN {w : World} {g i d : Nat} {bs : List UInt8} (h : Ps w g bs i d) (n : Nat) : Ps (w.drewN n) g bs i d := ⟨h.blk.drewN n, h.le, h.max⟩
theorem Ps.below {w w' : World} {B g i d : Nat} {bs : List UInt8} (h : Ps w g bs i d) (hb : Below B w w') (hg : g < B) : Ps w' g bs i d := ⟨h.blk.below hb hg, h.le, h.max⟩
theorem Ps.alloc {w : World} {g i d : Nat} {bs : List UInt8} (h : Ps w g bs i d) (o : Obj) : Ps (w.alloc o) g bs i d := ⟨h.blk.alloc o, h.le, h.max⟩
theorem Ps.lt {w : World} {g i d : Nat} {bs : List UInt8} (h : Ps w g bs i d) : g < w.heap.size := h.blk.lt
theorem Ps.put {w : World} {g i d : Nat} {bs : List UInt8} (h : Ps w g bs i d) (j : Nat) (hj : j ≤ bs.length) : Ps (w.setCell ⟨g, 1, none⟩ (.int .i64 (j : Int))) g bs j d := ⟨h.blk.put 1 _, hj, h.max⟩
theorem Ps.deep {w : World} {g i d : Nat} {bs : List UInt8} (h : Ps w g bs i d) (j : Nat) : Ps (w.setCell ⟨g, 2, none⟩ (.int .i64 (j : Int))) g bs i j := ⟨h.blk.put 2 _, h.le, h.max⟩
theorem Ps.far {w : World} {g i d : Nat} {bs : List UInt8} (h : Ps w g bs i d) {p : Addr} (hp : g ≠ p.block) (u : Value) : Ps (w.setCell p u) g bs i d := ⟨h.blk.far hp u, h.le, h.max⟩
/-- What a reading leaves: so much is read, only the reader's block, and what is new, has turned. -/
structure Went (g : Nat) (bs : List UInt8) (d : Nat) (r : List UInt8) (w w' : World) : Prop where
  at_ : ∃ i, bs.drop i = r ∧ Ps w' g bs i d
  only : Only g w w'
theorem went_of_drew {g i d m : Nat} {bs : List UInt8} {w : World} (h : Ps w g bs i d) : Went g bs d (bs.drop i) w (w.drewN m) := ⟨⟨i, rfl, h.drewN m⟩, (Only.refl w g).drewN m⟩

set_option maxHeartbeats 4000000 in
theorem done_any {g i d : Nat} {bs : List UInt8} {w : World} (h : Ps w g bs i d) :
    Calls Tryz.prog 91 #[.pointer (some ⟨g, 0, none⟩)] w fun e w' => e = .returned (.bool (bs.drop i).isEmpty) ∧ ∃ m, w' = w.drewN m := by
  obtain ⟨c0, c1, c2, cf⟩ := h.cells
  have hl := h.le
  have hm := h.max
  have hsz : (strB bs).size = bs.length := strB_size bs
  have he : ((i : Int) == (bs.length : Int)) = (bs.drop i).isEmpty := by
    rcases Nat.lt_or_ge i bs.length with hlt | hge
    · have : bs.drop i ≠ [] := by simp; omega
      rw [show ((bs.drop i).isEmpty = false) by simpa using this]
      simp; omega
    · rw [List.drop_eq_nil_of_le hge]; simp; omega
  generalize (bs.drop i).isEmpty = b at *
  generalize bs.length = n at *
  go_enter Tryz.func91, Tryz.ntmps91
  go_wp2
  go_quiet (fail)
  go_wp2
  go_ret
  exact ⟨rfl, _, rfl⟩

theorem head_of {bs : List UInt8} {i : Nat} (hl : i < bs.length) : ∃ c, bs[i]? = some c ∧ bs.drop i = c :: bs.drop (i + 1) :=
  ⟨bs[i], List.getElem?_eq_getElem hl, List.drop_eq_getElem_cons hl⟩

set_option maxHeartbeats 4000000 in
theorem next_any {g i d : Nat} {bs : List UInt8} {w : World} (h : Ps w g bs i d) (k : Int) (c : UInt8) (hk : k = (c.toNat : Int)) :
    Calls Tryz.prog 120 #[.pointer (some ⟨g, 0, none⟩), .int .u8 k] w fun e w' => e = .returned (.bool (nx c (bs.drop i))) ∧ ∃ m, w' = w.drewN m := by
  have HD := keepHid (fun n => done_any (h.drewN n))
  obtain ⟨c0, c1, c2, cf⟩ := h.cells
  have hl := h.le
  have hm := h.max
  have hsz : (strB bs).size = bs.length := strB_size bs
  rcases Nat.lt_or_ge i bs.length with hlt | hge
  · obtain ⟨x, hx, hdr⟩ := head_of hlt
    have hix := fun w => run_idx hx (i : Int) rfl w
    have hv : ((x.toNat : Int) == k) = nx c (bs.drop i) := by
      rw [hdr, hk]
      unfold nx
      by_cases hxc : x = c
      · subst hxc; simp
      · have : x.toNat ≠ c.toNat := fun e => hxc (UInt8.toNat_inj.1 e)
        have h2 : ((x.toNat : Int) == (c.toNat : Int)) = false := by simp only [beq_eq_false_iff_ne, ne_eq]; omega
        rw [h2]
        simp [hxc]
    have he : (bs.drop i).isEmpty = false := by rw [hdr]; rfl
    rw [he] at HD
    generalize nx c (bs.drop i) = b at *
    generalize strB bs = S at *
    generalize x.toNat = y at *
    clear hdr he hk
    go_enter Tryz.func120, Tryz.ntmps120
    go_wp2
    go_quiet (first | (go_at_call 91; (with_reducible refine Calls.quiet_of (HD.out _))))
    go_wp2
    go_ret
    exact ⟨rfl, _, rfl⟩
  · have he : (bs.drop i).isEmpty = true := by rw [List.drop_eq_nil_of_le hge]; rfl
    have hv : nx c (bs.drop i) = false := by rw [List.drop_eq_nil_of_le hge]; rfl
    rw [he] at HD
    rw [hv]
    go_enter Tryz.func120, Tryz.ntmps120
    go_wp2
    go_quiet (first | (go_at_call 91; (with_reducible refine Calls.quiet_of (HD.out _))))
    go_wp2
    go_ret
    exact ⟨rfl, _, rfl⟩


def TakePost (g : Nat) (bs : List UInt8) (d : Nat) (c : UInt8) (r : List UInt8) (w : World) (e : Ending) (w' : World) : Prop :=
  e = .returned (.bool (nx c r)) ∧ Went g bs d (if nx c r then r.tail else r) w w'
set_option maxHeartbeats 4000000 in
theorem take_any {g i d : Nat} {bs : List UInt8} {w : World} (h : Ps w g bs i d) (k : Int) (c : UInt8) (hk : k = (c.toNat : Int)) :
    Calls Tryz.prog 106 #[.pointer (some ⟨g, 0, none⟩), .int .u8 k] w (TakePost g bs d c (bs.drop i) w) := by
  have HN := keepHid (next_any h k c hk)
  have HP := keepHid h
  have hle := h.le
  have hmx := h.max
  have hlt : nx c (bs.drop i) = true → i < bs.length := fun hn => by
    rcases Nat.lt_or_ge i bs.length with hl | hl
    · exact hl
    · rw [List.drop_eq_nil_of_le hl] at hn; cases hn
  have htl : (bs.drop i).tail = bs.drop (i + 1) := by rw [List.tail_drop]
  obtain ⟨b, hb⟩ : ∃ b, nx c (bs.drop i) = b := ⟨_, rfl⟩
  unfold TakePost
  rw [hb] at HN hlt ⊢
  rw [htl]
  clear hb htl h hk
  cases b
  · go_enter Tryz.func106, Tryz.ntmps106
    go_wp2_with fail
    refine HN.out.mono ?_
    rintro e w' ⟨rfl, m, rfl⟩
    go_wp2
    go_ret
    exact ⟨rfl, went_of_drew HP.out⟩
  · have hlt' := hlt rfl
    clear hlt
    go_enter Tryz.func106, Tryz.ntmps106
    go_wp2_with fail
    refine HN.out.mono ?_
    rintro e w' ⟨rfl, m, rfl⟩
    have HP1 := keepHid (HP.out.drewN m)
    have HO1 := keepHid ((Only.refl w g).drewN m)
    generalize w.drewN m = w1 at *
    obtain ⟨c0, c1, c2, cf⟩ := HP1.out.cells
    go_wp2
    go_ret
    refine ⟨rfl, ⟨i + 1, rfl, ?_⟩, HO1.out.setCell (.inl rfl) _⟩
    have := HP1.out.put (i + 1) hlt'
    simpa using this


set_option maxHeartbeats 400000 in
theorem ends_any {g i d : Nat} {bs : List UInt8} {w : World} (h : Ps w g bs i d) :
    Calls Tryz.prog 118 #[.pointer (some ⟨g, 0, none⟩)] w fun e w' => e = .returned (.bool (endsF (bs.drop i))) ∧ ∃ m, w' = w.drewN m := by
  have HD := keepHid (done_any h)
  have H1 := keepHid (fun n => next_any (h.drewN n) 124 124 rfl)
  have H2 := keepHid (fun n => next_any (h.drewN n) 41 41 rfl)
  clear h
  unfold endsF
  generalize (bs.drop i).isEmpty = a at *
  generalize nx 124 (bs.drop i) = b at *
  generalize nx 41 (bs.drop i) = c at *
  cases a
  · cases b
    · go_enter Tryz.func118, Tryz.ntmps118
      go_wp2_with fail
      refine HD.out.mono ?_
      rintro e w' ⟨rfl, m, rfl⟩
      go_wp2_with fail
      refine (H1.out m).mono ?_
      rintro e w' ⟨rfl, k, rfl⟩
      go_wp2_with fail
      refine (H2.out (m + k)).mono ?_
      rintro e w' ⟨rfl, j, rfl⟩
      go_wp2
      go_ret
      exact ⟨rfl, m + k + j, rfl⟩
    · go_enter Tryz.func118, Tryz.ntmps118
      go_wp2_with fail
      refine HD.out.mono ?_
      rintro e w' ⟨rfl, m, rfl⟩
      go_wp2_with fail
      refine (H1.out m).mono ?_
      rintro e w' ⟨rfl, k, rfl⟩
      go_wp2
      go_ret
      exact ⟨rfl, m + k, rfl⟩
  · go_enter Tryz.func118, Tryz.ntmps118
    go_wp2_with fail
    refine HD.out.mono ?_
    rintro e w' ⟨rfl, m, rfl⟩
    go_wp2
    go_ret
    exact ⟨rfl, m, rfl⟩



theorem Went.trans {g d : Nat} {bs r r' : List UInt8} {w w1 w2 : World} (h : Only g w w1) (k : Went g bs d r' w1 w2) : Went g bs d r' w w2 := ⟨k.at_, h.trans k.only⟩
def LetPost (g : Nat) (bs : List UInt8) (d : Nat) (l : List UInt8) (w : World) (e : Ending) (w' : World) : Prop :=
  ∃ (v : Nat) (ok : Bool), e = .returned (.tuple #[.int .u8 (v : Int), .bool ok]) ∧ v < 256 ∧ (ok = true → ∃ c : UInt8, c.toNat = v ∧ (letF l).1 = some c) ∧ (ok = false → (letF l).1 = none) ∧ Went g bs d (letF l).2 w w'
theorem letF_nil {l : List UInt8} (h : (if nx 92 l then l.tail else l) = []) : letF l = (none, l) := by unfold letF; rw [h]
theorem letF_cons {l r : List UInt8} {c : UInt8} (h : (if nx 92 l then l.tail else l) = c :: r) : letF l = (some c, r) := by unfold letF; rw [h]
set_option maxHeartbeats 1000000 in
theorem letter_any {g i d : Nat} {bs : List UInt8} {w : World} (h : Ps w g bs i d) :
    Calls Tryz.prog 137 #[.pointer (some ⟨g, 0, none⟩)] w (LetPost g bs d (bs.drop i) w) := by
  have HT := keepHid (take_any h 92 92 rfl)
  have HP := keepHid h
  obtain ⟨c0, c1, c2, cf⟩ := h.cells
  have HM := keepHid h.max
  clear h
  go_enter Tryz.func137, Tryz.ntmps137
  go_wp2_with fail
  refine HT.out.mono ?_
  rintro e w1 ⟨rfl, ⟨⟨j, hj, hp1⟩, ho1⟩⟩
  clear c0 c1 c2 cf HT
  have HJ := keepHid hj
  have HD := keepHid (done_any hp1)
  have HP1 := keepHid hp1
  have HO1 := keepHid ho1
  clear hj ho1 hp1
  rcases Nat.lt_or_ge j bs.length with hlt | hge
  · obtain ⟨x, hx, hdr⟩ := head_of hlt
    have he : (bs.drop j).isEmpty = false := by rw [hdr]; rfl
    have HL := keepHid (letF_cons (HJ.out.symm.trans hdr))
    have HX := keepHid (u8lt x)
    have hix := fun w => run_idx hx (j : Int) rfl w
    have hm : bs.length ≤ 64 := HM.out
    have hxx : (x.toNat : Int) = (x.toNat : Int) := rfl
    rw [he] at HD
    clear hdr he HJ hx
    go_wp2_with fail
    refine HD.out.mono ?_
    rintro e w' ⟨rfl, m, rfl⟩
    have HP2 := keepHid (HP1.out.drewN m)
    have HO2 := keepHid (HO1.out.drewN m)
    generalize w1.drewN m = w2 at *
    obtain ⟨c0, c1, c2, cf⟩ := HP2.out.cells
    have hsz : (strB bs).size = bs.length := strB_size bs
    generalize strB bs = S at *
    obtain ⟨y, hy⟩ : ∃ y, x.toNat = y := ⟨_, rfl⟩
    have HY := keepHid hy
    rw [hy] at hix
    clear hy hxx
    go_wp2_with fail
    go_quiet (fail)
    go_wp2
    go_ret2
    refine ⟨y, true, rfl, ?_, fun _ => ⟨x, HY.out, by rw [HL.out]⟩, (fun h => by cases h), ⟨j + 1, by rw [HL.out], ?_⟩, ?_⟩
    · rw [← HY.out]; exact HX.out
    · have := (HP2.out.drewN nq).put (j + 1) hlt
      simpa using this
    · exact (HO2.out.drewN nq).setCell (.inl rfl) _
  · have he : (bs.drop j).isEmpty = true := by rw [List.drop_eq_nil_of_le hge]; rfl
    have HL := keepHid (letF_nil (HJ.out.symm.trans (List.drop_eq_nil_of_le hge)))
    rw [he] at HD
    clear he HJ hge
    go_wp2_with fail
    refine HD.out.mono ?_
    rintro e w' ⟨rfl, m, rfl⟩
    have HP2 := keepHid (HP1.out.drewN m)
    have HO2 := keepHid (HO1.out.drewN m)
    generalize w1.drewN m = w2 at *
    obtain ⟨c0, c1, c2, cf⟩ := HP2.out.cells
    go_wp2
    go_ret2
    refine ⟨0, false, rfl, by omega, (fun h => by cases h), (fun _ => by rw [HL.out]), ⟨i, by rw [HL.out], HP2.out.put i HP.out.le⟩, HO2.out.setCell (.inl rfl) _⟩




theorem run_take2 (l : List UInt8) (hl : 2 ≤ l.length) (W : World) : (Instr.slice 9 (.string (strB l)) none (some (.int .i64 2)) none).run Tryz.prog W = .ok (.string (strB (l.take 2))) W := by
  rw [run_slice_string_h W 9 (strB l) Tryz.underlying9 .i64 2 (by omega) (by rw [strB_size]; omega)]
  rw [show (2 : Int).toNat = 2 from rfl, strB_take]
theorem run_dropK (l : List UInt8) (i : Nat) (hi : i ≤ l.length) (W : World) : (Instr.slice 9 (.string (strB l)) (some (.int .i64 (i : Int))) none none).run Tryz.prog W = .ok (.string (strB (l.drop i))) W := by
  rw [run_slice_string_l W 9 (strB l) Tryz.underlying9 .i64 (i : Int) (by omega) (by rw [strB_size]; omega)]
  rw [Int.toNat_natCast, strB_size, strB_drop]
set_option maxHeartbeats 400000 in
theorem prefix_any (r : List UInt8) (w : World) :
    Calls Tryz.prog 71 #[.string (strB r), .string ⟨#[45, 93]⟩] w fun e w' => e = .returned (.bool (r.take 2 == [45, 93])) ∧ w = w' := by
  have hsz : (strB r).size = r.length := strB_size r
  rcases Nat.lt_or_ge r.length 2 with h | h
  · have he : (r.take 2 == [45, 93]) = false := by
      match r, h with
      | [], _ => rfl
      | [x], _ => simp
    rw [he]
    clear he
    generalize r.length = n at *
    generalize strB r = S at *
    have hd : decide ((2 : Int) ≤ (n : Int)) = false := by simp; omega
    go_enter Tryz.func71, Tryz.ntmps71
    go_wp2
    go_ret
    exact ⟨rfl, rfl⟩
  · have ht := run_take2 r h
    have hl := strB_toList (r.take 2)
    generalize r.take 2 = q at *
    generalize r.length = n at *
    generalize strB r = S at *
    generalize strB q = T at *
    have hd : decide ((2 : Int) ≤ (n : Int)) = true := by simp; omega
    go_enter Tryz.func71, Tryz.ntmps71
    go_wp2
    go_ret
    exact ⟨rfl, rfl⟩

theorem spanF_no {l : List UInt8} (h : (letF l).1 = none) : spanF l = (none, (letF l).2) := by
  unfold spanF
  generalize letF l = x at *
  obtain ⟨o, r⟩ := x
  simp only at h
  subst h
  rfl
theorem spanF_one {l : List UInt8} {c : UInt8} (h : (letF l).1 = some c) (hd : dashF (letF l).2 = false) : spanF l = (some (c, c), (letF l).2) := by
  unfold spanF
  generalize letF l = x at *
  obtain ⟨o, r⟩ := x
  simp only at h hd
  subst h
  simp [hd]
theorem spanF_two {l : List UInt8} {c : UInt8} (h : (letF l).1 = some c) (hd : dashF (letF l).2 = true) :
    spanF l = (match letF (letF l).2.tail with | (none, r2) => (none, r2) | (some b, r2) => (if c.toNat ≤ b.toNat then some (c, b) else none, r2)) := by
  unfold spanF
  generalize letF l = x at *
  obtain ⟨o, r⟩ := x
  simp only at h hd
  subst h
  simp [hd]
  generalize letF r.tail = y
  obtain ⟨o, q⟩ := y
  cases o <;> rfl
def SpanPost (g : Nat) (bs : List UInt8) (d : Nat) (l : List UInt8) (w : World) (e : Ending) (w' : World) : Prop :=
  ∃ (a b : Nat) (ok : Bool), e = .returned (.tuple #[.int .u8 (a : Int), .int .u8 (b : Int), .bool ok]) ∧ a < 256 ∧ b < 256 ∧ (ok = true → ∃ x y : UInt8, x.toNat = a ∧ y.toNat = b ∧ (spanF l).1 = some (x, y)) ∧ (ok = false → (spanF l).1 = none) ∧ Went g bs d (spanF l).2 w w'
set_option maxHeartbeats 2000000 in
theorem span_any {g i d : Nat} {bs : List UInt8} {w : World} (h : Ps w g bs i d) :
    Calls Tryz.prog 149 #[.pointer (some ⟨g, 0, none⟩)] w (SpanPost g bs d (bs.drop i) w) := by
  have HT := keepHid (letter_any h)
  clear h
  generalize bs.drop i = l at *
  go_enter Tryz.func149, Tryz.ntmps149
  go_wp2_with fail
  refine HT.out.mono ?_
  rintro e w1 ⟨v, ok, rfl, hv, hok, hno, ⟨j, hj, hp1⟩, ho1⟩
  clear HT
  have HO1 := keepHid ho1
  have HV := keepHid hv
  cases ok
  · have HS := keepHid (spanF_no (hno rfl))
    have HP1 := keepHid hp1
    have HJ := keepHid hj
    clear hok hno hj hp1 ho1 hv
    go_wp2_with fail
    go_quiet (fail)
    go_wp2
    go_ret3
    exact ⟨v, v, false, rfl, HV.out, HV.out, (fun h => by cases h), (fun _ => by rw [HS.out]), ⟨j, by rw [HS.out, HJ.out], HP1.out.drewN _⟩, HO1.out.drewN _⟩
  · obtain ⟨c, hc, hlet⟩ := hok rfl
    have HN := keepHid (fun n => next_any (hp1.drewN n) 45 45 rfl)
    have HLE := keepHid hp1.le
    have HMX := keepHid hp1.max
    rw [hj] at HN
    have HP1 := keepHid hp1
    have HC := keepHid hc
    have HJ := keepHid hj
    obtain ⟨c0, c1, c2, cf⟩ := hp1.cells
    have hvv : decide ((v : Int) ≤ (v : Int)) = true := by simp
    cases hn : nx 45 (letF l).2
    · have HS := keepHid (spanF_one hlet (by unfold dashF; rw [hn]; rfl))
      rw [hn] at HN
      clear hok hno hj hp1 ho1 hv hc hlet hn
      go_wp2_with fail
      go_quiet (first | (go_at_call 120; (with_reducible refine Calls.quiet_of (HN.out _))))
      go_wp2
      go_ret3
      exact ⟨v, v, true, rfl, HV.out, HV.out, (fun _ => ⟨c, c, HC.out, HC.out, by rw [HS.out]⟩), (fun h => by cases h), ⟨j, by rw [HS.out, HJ.out], HP1.out.drewN _⟩, HO1.out.drewN _⟩
    · have HPX := keepHid (fun w => prefix_any (bs.drop j) w)
      have hdk := run_dropK bs j hp1.le
      rw [hj] at HPX hdk
      cases hx : ((letF l).2.take 2 == [45, 93])
      · have hjl : j < bs.length := by
          rcases Nat.lt_or_ge j bs.length with h1 | h1
          · exact h1
          · rw [← hj, List.drop_eq_nil_of_le h1] at hn; cases hn
        have HS := keepHid (spanF_two hlet (by unfold dashF; rw [hn, hx]; rfl))
        have HTL := keepHid (show bs.drop (j + 1) = (letF l).2.tail by rw [← hj, List.tail_drop])
        rw [hn] at HN
        rw [hx] at HPX
        clear hok hno hj hp1 ho1 hv hc hlet hn hx
        have hle : bs.length ≤ 64 := HMX.out
        have HJL := keepHid hjl
        generalize strB bs = S at *
        generalize strB (letF l).2 = T at *
        go_wp2_with fail
        go_quiet (first | (go_at_call 120; (with_reducible refine Calls.quiet_of (HN.out _))) | (go_at_call 71; (with_reducible refine quietL (HPX.out _))))
        have HP2 := keepHid (HP1.out.drewN nq)
        have HO2 := keepHid (HO1.out.drewN nq)
        generalize w1.drewN nq = w2 at *
        clear c0 c1 c2 cf
        obtain ⟨c0, c1, c2, cf⟩ := HP2.out.cells
        go_wp2_with (go_at_call 137; fail)
        have hp3 := HP2.out.put (j + 1) HJL.out
        have ho3 := HO2.out.setCell (p := ⟨g, 1, none⟩) (.inl rfl) (.int .i64 ((j + 1 : Nat) : Int))
        have e1 : ((j + 1 : Nat) : Int) = (j : Int) + 1 := by omega
        rw [e1] at hp3 ho3
        have HP3 := keepHid hp3
        have HO3 := keepHid ho3
        clear hp3 ho3 e1
        generalize w2.setCell ⟨g, 1, none⟩ (.int .i64 ((j : Int) + 1)) = w3 at *
        refine (letter_any HP3.out).mono ?_
        rintro e w4 ⟨u, ok2, rfl, hu, hok2, hno2, ⟨k, hk, hp4⟩, ho4⟩
        rw [HTL.out] at hok2 hno2 hk
        have HK := keepHid hk
        have HP4 := keepHid hp4
        have HO4 := keepHid (HO3.out.trans ho4)
        have HU := keepHid hu
        clear hk hp4 ho4 hu c0 c1 c2 cf
        cases ok2
        · have hs := HS.out
          have h2 := hno2 rfl
          have HF : Hid (spanF l = (none, (letF (letF l).2.tail).2)) := keepHid (by
            rw [hs]
            generalize letF (letF l).2.tail = x at *
            obtain ⟨o, r⟩ := x
            simp only at h2
            subst h2; rfl)
          clear hs h2 hok2 hno2
          go_wp2_with fail
          go_wp2
          go_ret3
          exact ⟨v, u, false, rfl, HV.out, HU.out, (fun h => by cases h), (fun _ => by rw [HF.out]), ⟨k, by rw [HF.out, HK.out], HP4.out⟩, HO4.out⟩
        · obtain ⟨b, hb, h2⟩ := hok2 rfl
          have hs := HS.out
          have HF : Hid (spanF l = (if v ≤ u then some (c, b) else none, (letF (letF l).2.tail).2)) := keepHid (by
            rw [hs]
            generalize letF (letF l).2.tail = x at *
            obtain ⟨o, r⟩ := x
            simp only at h2
            subst h2
            rw [← HC.out, ← hb])
          have HB := keepHid hb
          clear hs h2 hok2 hno2 hb
          by_cases hvu : v ≤ u
          · have hd : decide (v ≤ u) = true := by simp; omega
            rw [if_pos hvu] at HF
            clear hvu
            go_wp2_with fail
            go_wp2
            go_ret3
            exact ⟨v, u, true, rfl, HV.out, HU.out, (fun _ => ⟨c, b, HC.out, HB.out, by rw [HF.out]⟩), (fun h => by cases h), ⟨k, by rw [HF.out, HK.out], HP4.out⟩, HO4.out⟩
          · have hd : decide (v ≤ u) = false := by simp; omega
            rw [if_neg hvu] at HF
            clear hvu
            go_wp2_with fail
            go_wp2
            go_ret3
            exact ⟨v, u, false, rfl, HV.out, HU.out, (fun h => by cases h), (fun _ => by rw [HF.out]), ⟨k, by rw [HF.out, HK.out], HP4.out⟩, HO4.out⟩
      · have HS := keepHid (spanF_one hlet (by unfold dashF; rw [hn, hx]; rfl))
        rw [hn] at HN
        rw [hx] at HPX
        clear hok hno hj hp1 ho1 hv hc hlet hn hx
        generalize strB bs = S at *
        generalize strB (letF l).2 = T at *
        go_wp2_with fail
        go_quiet (first | (go_at_call 120; (with_reducible refine Calls.quiet_of (HN.out _))) | (go_at_call 71; (with_reducible refine quietL (HPX.out _))))
        go_wp2
        go_ret3
        exact ⟨v, v, true, rfl, HV.out, HV.out, (fun _ => ⟨c, c, HC.out, HC.out, by rw [HS.out]⟩), (fun h => by cases h), ⟨j, by rw [HS.out, HJ.out], HP1.out.drewN _⟩, HO1.out.drewN _⟩


theorem tail_le (l : List UInt8) : l.tail.length ≤ l.length := by simp
theorem nx_tail {c : UInt8} {l : List UInt8} (h : nx c l = true) : l.tail.length < l.length := by
  cases l with
  | nil => cases h
  | cons a r => simp
theorem nx_cons (c a : UInt8) (r : List UInt8) : nx c (a :: r) = (a == c) := rfl
theorem letF_lt {l r : List UInt8} {c : UInt8} (h : letF l = (some c, r)) : r.length < l.length := by
  unfold letF at h
  split at h
  · cases h
  · rename_i x y e
    injection h with h1 h2
    subst h2
    have : (if nx 92 l then l.tail else l).length ≤ l.length := by split; exact tail_le l; exact Nat.le_refl _
    rw [e] at this
    simp at this
    omega
theorem letF_le (l : List UInt8) : (letF l).2.length ≤ l.length := by
  unfold letF
  split
  · exact Nat.le_refl _
  · rename_i x y e
    have : (if nx 92 l then l.tail else l).length ≤ l.length := by split; exact tail_le l; exact Nat.le_refl _
    rw [e] at this
    simp at this
    show y.length ≤ _
    omega
theorem spanF_lt {l r : List UInt8} {ab : UInt8 × UInt8} (h : spanF l = (some ab, r)) : r.length < l.length := by
  unfold spanF at h
  split at h
  · cases h
  · rename_i a r1 e
    have h1 := letF_lt e
    split at h
    · split at h
      · cases h
      · rename_i b r2 e2
        have h2 := letF_lt e2
        have h3 := tail_le r1
        injection h with h4 h5
        subst h5
        omega
    · injection h with h4 h5
      subst h5
      exact h1
theorem memF_lt : ∀ (f : Nat) (s t : St) (l r : List UInt8), memF f s l = (some t, r) → r.length < l.length
  | 0, _, _, _, _, h => by cases h
  | f + 1, s, t, l, r, h => by
    unfold memF at h
    split at h
    · rename_i hn
      injection h with h1 h2
      subst h2
      exact nx_tail hn
    · split at h
      · cases h
      · rename_i ab r1 e
        have h1 := spanF_lt e
        have h2 := memF_lt f _ _ _ _ h
        omega
theorem inF_le (l : List UInt8) : (inF l).length ≤ l.length := by
  unfold inF
  have h1 := tail_le l
  have h2 := tail_le l.tail
  split <;> omega
theorem clsF_lt {l r : List UInt8} {n : Re} (h : clsF l = (some n, r)) : r.length < l.length := by
  unfold clsF at h
  split at h
  · cases h
  · rename_i s r1 e
    have h1 := memF_lt _ _ _ _ _ e
    have h2 := inF_le l
    injection h with h3 h4
    subst h4
    omega
def Less (f : List UInt8 → R Re) : Prop := ∀ l n r, f l = (some n, r) → r.length < l.length
def Le (f : List UInt8 → R Re) : Prop := ∀ l n r, f l = (some n, r) → r.length ≤ l.length
theorem atomF_lt {grp : List UInt8 → R Re} (hg : Less grp) {l : List UInt8} (hne : l ≠ []) {n : Re} {r : List UInt8} (h : atomF grp l = (some n, r)) : r.length < l.length := by
  unfold atomF at h
  split at h
  · exact hg _ _ _ h
  split at h
  · exact clsF_lt h
  split at h
  · cases h
  split at h
  · rename_i hn
    injection h with h1 h2
    subst h2
    exact nx_tail hn
  · split at h
    · cases h
    · rename_i c r1 e
      have := letF_lt e
      injection h with h1 h2
      subst h2
      exact this
theorem pieceF_lt {grp : List UInt8 → R Re} (hg : Less grp) {l : List UInt8} (hne : l ≠ []) {n : Re} {r : List UInt8} (h : pieceF grp l = (some n, r)) : r.length < l.length := by
  unfold pieceF at h
  split at h
  · cases h
  · rename_i m r1 e
    have h1 := atomF_lt hg hne e
    have h2 := tail_le r1
    split at h
    · injection h with h3 h4; subst h4; omega
    split at h
    · injection h with h3 h4; subst h4; omega
    split at h
    · injection h with h3 h4; subst h4; omega
    · injection h with h3 h4; subst h4; omega
theorem ends_ne {l : List UInt8} (h : endsF l = false) : l ≠ [] := by rintro rfl; cases h
theorem seqL_le {grp : List UInt8 → R Re} (hg : Less grp) : ∀ (f : Nat) (n m : Re) (l r : List UInt8), seqL grp f n l = (some m, r) → r.length ≤ l.length
  | 0, _, _, _, _, h => by cases h
  | f + 1, n, m, l, r, h => by
    unfold seqL at h
    split at h
    · injection h with h1 h2; subst h2; exact Nat.le_refl _
    · rename_i he
      split at h
      · cases h
      · rename_i k r1 e
        have h1 := pieceF_lt hg (ends_ne (by simpa using he)) e
        have h2 := seqL_le hg f _ _ _ _ h
        omega
theorem seqF_le {grp : List UInt8 → R Re} (hg : Less grp) : Le (seqF grp) := fun l n r h => by
  unfold seqF at h
  split at h
  · injection h with h1 h2; subst h2; exact Nat.le_refl _
  · rename_i he
    split at h
    · cases h
    · rename_i k r1 e
      have h1 := pieceF_lt hg (ends_ne (by simpa using he)) e
      have h2 := seqL_le hg _ _ _ _ _ h
      omega
theorem altL_le {grp : List UInt8 → R Re} (hg : Less grp) : ∀ (f : Nat) (n m : Re) (l r : List UInt8), altL grp f n l = (some m, r) → r.length ≤ l.length
  | 0, _, _, _, _, h => by cases h
  | f + 1, n, m, l, r, h => by
    unfold altL at h
    split at h
    · rename_i hn
      split at h
      · cases h
      · rename_i k r1 e
        have h1 := seqF_le hg _ _ _ e
        have h2 := altL_le hg f _ _ _ _ h
        have h3 := nx_tail hn
        omega
    · injection h with h1 h2; subst h2; exact Nat.le_refl _
theorem altG_le {grp : List UInt8 → R Re} (hg : Less grp) : Le (altG grp) := fun l n r h => by
  unfold altG at h
  split at h
  · cases h
  · rename_i k r1 e
    have h1 := seqF_le hg _ _ _ e
    have h2 := altL_le hg _ _ _ _ _ h
    omega
theorem grpF_lt {alt : List UInt8 → R Re} (ha : Le alt) {l : List UInt8} {n : Re} {r : List UInt8} (h : grpF alt l = (some n, r)) : r.length < l.length := by
  unfold grpF at h
  split at h
  · cases h
  · rename_i k r1 e
    have h1 := ha _ _ _ e
    have h2 := tail_le l
    split at h
    · rename_i hn
      have h3 := nx_tail hn
      injection h with h4 h5; subst h5; omega
    · cases h
theorem grpN_lt : ∀ k, Less (grpN k)
  | 0 => fun l n r h => by cases h
  | k + 1 => fun l n r h => by
    have : Le (altN k) := by rw [altN_eq]; exact altG_le (grpN_lt k)
    exact grpF_lt this h
end Go.Proofs.YtgndcgknedmalaaGreatDoor
