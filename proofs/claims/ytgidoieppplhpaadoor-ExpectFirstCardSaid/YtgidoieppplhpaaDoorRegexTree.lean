/-
  A pattern's tree in memory; package regex's small makers of nodes.
-/
import Derived.Test.YtgidoieppplhpaaDoorRegexSets
import Derived.WalkKit
import Derived.ProofKit
import Derived.WalkLawsBesides
import Derived.IntWalk
import Derived.RegionTactic
import Derived.BigRegion
import Derived.ChangeAlike
import Derived.Deep.QuietTactic
import Derived.BigQuiet
import Derived.Deep.RegionHeld3
import Derived.Deep.DrawnRows
import Derived.Outline
namespace Go.Proofs.YtgidoieppplhpaaDoor
open Go.RowKit
set_option linter.unusedVariables false

/-- A node's own six cells. -/
structure Hd where
  k : Int
  s : St
  A : Option Addr
  n : Nat
  c : Nat
def hdV (h : Hd) : Value := .agg #[.int .i64 h.k, .int .u64 (h.s.a.toNat : Int), .int .u64 (h.s.b.toNat : Int), .int .u64 (h.s.c.toNat : Int), .int .u64 (h.s.d.toNat : Int), .slice h.A h.n h.c]
def hd0 : Hd := ⟨0, st0, none, 0, 0⟩
/-- It lies in block g from place i on. -/
structure AtHd (w : World) (g i : Nat) (h : Hd) : Prop where
  c0 : w.cell? ⟨g, i, none⟩ = some (.int .i64 h.k)
  c1 : w.cell? ⟨g, i + 1, none⟩ = some (.int .u64 (h.s.a.toNat : Int))
  c2 : w.cell? ⟨g, i + 2, none⟩ = some (.int .u64 (h.s.b.toNat : Int))
  c3 : w.cell? ⟨g, i + 3, none⟩ = some (.int .u64 (h.s.c.toNat : Int))
  c4 : w.cell? ⟨g, i + 4, none⟩ = some (.int .u64 (h.s.d.toNat : Int))
  c5 : w.cell? ⟨g, i + 5, none⟩ = some (.slice h.A h.n h.c)
theorem AtHd.lt {w : World} {g i : Nat} {h : Hd} (a : AtHd w g i h) : g < w.heap.size := World.block_lt_of_cell? _ _ a.c0
theorem AtHd.keep {w w' : World} {g i : Nat} {h : Hd} (a : AtHd w g i h) (hk : w'.heap[g]? = w.heap[g]?) : AtHd w' g i h :=
  ⟨(World.cell?_of_block hk).trans a.c0, (World.cell?_of_block hk).trans a.c1, (World.cell?_of_block hk).trans a.c2, (World.cell?_of_block hk).trans a.c3, (World.cell?_of_block hk).trans a.c4, (World.cell?_of_block hk).trans a.c5⟩

/-- The node is the root of this tree, whose nodes' kids lie in blocks of S. -/
def IsS (w : World) (S : Nat → Prop) : Hd → Re → Prop
  | h, .nil => h = hd0
  | h, .one s => h = ⟨1, s, none, 0, 0⟩
  | h, .thn a b => ∃ g c x y, h = ⟨2, st0, some ⟨g, 0, none⟩, 2, c⟩ ∧ 2 ≤ c ∧ c ≤ maxLen ∧ S g ∧ AtHd w g 0 x ∧ AtHd w g 6 y ∧ IsS w S x a ∧ IsS w S y b
  | h, .alt a b => ∃ g c x y, h = ⟨3, st0, some ⟨g, 0, none⟩, 2, c⟩ ∧ 2 ≤ c ∧ c ≤ maxLen ∧ S g ∧ AtHd w g 0 x ∧ AtHd w g 6 y ∧ IsS w S x a ∧ IsS w S y b
  | h, .star a => ∃ g c x, h = ⟨4, st0, some ⟨g, 0, none⟩, 1, c⟩ ∧ 1 ≤ c ∧ c ≤ maxLen ∧ S g ∧ AtHd w g 0 x ∧ IsS w S x a
/-- .. at or above block lo. -/
abbrev IsRe (w : World) (lo : Nat) (h : Hd) (r : Re) : Prop := IsS w (fun g => lo ≤ g) h r
theorem IsS.move {w w' : World} {S T : Nat → Prop} (hk : ∀ g, S g → g < w.heap.size → w'.heap[g]? = w.heap[g]?) (ht : ∀ g, S g → g < w.heap.size → T g) : ∀ {r : Re} {h : Hd}, IsS w S h r → IsS w' T h r
  | .nil, _, h => h
  | .one _, _, h => h
  | .thn _ _, _, ⟨g, c, x, y, e, h1, h2, hl, ax, ay, ix, iy⟩ => ⟨g, c, x, y, e, h1, h2, ht g hl ax.lt, ax.keep (hk g hl ax.lt), ay.keep (hk g hl ax.lt), ix.move hk ht, iy.move hk ht⟩
  | .alt _ _, _, ⟨g, c, x, y, e, h1, h2, hl, ax, ay, ix, iy⟩ => ⟨g, c, x, y, e, h1, h2, ht g hl ax.lt, ax.keep (hk g hl ax.lt), ay.keep (hk g hl ax.lt), ix.move hk ht, iy.move hk ht⟩
  | .star _, _, ⟨g, c, x, e, h1, h2, hl, ax, ix⟩ => ⟨g, c, x, e, h1, h2, ht g hl ax.lt, ax.keep (hk g hl ax.lt), ix.move hk ht⟩
theorem IsS.mono {w : World} {S T : Nat → Prop} {r : Re} {h : Hd} (i : IsS w S h r) (ht : ∀ g, S g → g < w.heap.size → T g) : IsS w T h r := i.move (fun _ _ _ => rfl) ht
theorem IsS.keep {w w' : World} {S : Nat → Prop} {r : Re} {h : Hd} (i : IsS w S h r) (hk : ∀ g, S g → g < w.heap.size → w'.heap[g]? = w.heap[g]?) : IsS w' S h r := i.move hk fun _ h _ => h
theorem IsS.below {w w' : World} {S : Nat → Prop} {r : Re} {h : Hd} (i : IsS w S h r) (hb : Below w.heap.size w w') : IsS w' S h r := i.keep fun g _ hg => hb.block g hg
theorem IsS.low {w : World} {lo lo' : Nat} {r : Re} {h : Hd} (i : IsRe w lo h r) (hl : lo' ≤ lo) : IsRe w lo' h r := i.mono fun g hg _ => Nat.le_trans hl hg
theorem IsS.only {w w' : World} {lo g : Nat} {r : Re} {h : Hd} (i : IsRe w lo h r) (ho : Only g w w') (hg : g < lo) : IsRe w' lo h r :=
  i.keep fun j hj hs => ho.block j hs (fun e => by injection e with e; have : lo ≤ j := hj; omega)

theorem blk_at {w : World} {g : Nat} {t : TypeId} {h : Hd} (hb : Blk w g t #[.int .i64 h.k, .int .u64 (h.s.a.toNat : Int), .int .u64 (h.s.b.toNat : Int), .int .u64 (h.s.c.toNat : Int), .int .u64 (h.s.d.toNat : Int), .slice h.A h.n h.c]) : AtHd w g 0 h :=
  ⟨hb.cell 0, hb.cell 1, hb.cell 2, hb.cell 3, hb.cell 4, hb.cell 5⟩
theorem blk_at1 {w : World} {g : Nat} {t : TypeId} {h k : Hd} (hb : Blk w g t #[.int .i64 h.k, .int .u64 (h.s.a.toNat : Int), .int .u64 (h.s.b.toNat : Int), .int .u64 (h.s.c.toNat : Int), .int .u64 (h.s.d.toNat : Int), .slice h.A h.n h.c, .int .i64 k.k, .int .u64 (k.s.a.toNat : Int), .int .u64 (k.s.b.toNat : Int), .int .u64 (k.s.c.toNat : Int), .int .u64 (k.s.d.toNat : Int), .slice k.A k.n k.c]) : AtHd w g 0 h ∧ AtHd w g 6 k :=
  ⟨⟨hb.cell 0, hb.cell 1, hb.cell 2, hb.cell 3, hb.cell 4, hb.cell 5⟩, ⟨hb.cell 6, hb.cell 7, hb.cell 8, hb.cell 9, hb.cell 10, hb.cell 11⟩⟩

theorem Blk.new_at (w : World) (t : TypeId) (cs : Array Value) (g : Nat) (hg : g = w.heap.size) : Blk (w.alloc (.cells cs t)) g t cs := by subst hg; exact Blk.new w t cs
set_option maxHeartbeats 4000000 in
theorem one_any (s : St) (w : World) : Calls Tryd.prog 68 #[stV s] w fun e w' => e = .returned (hdV ⟨1, s, none, 0, 0⟩) ∧ Below w.heap.size w w' := by
  unfold stV hdV
  generalize s.a.toNat = a at *
  generalize s.b.toNat = b at *
  generalize s.c.toNat = c at *
  generalize s.d.toNat = d at *
  go_enter Tryd.func68, Tryd.ntmps68
  go_wp2
  refine bodyPost_ret (v := .agg #[.int .i64 1, .int .u64 (a : Int), .int .u64 (b : Int), .int .u64 (c : Int), .int .u64 (d : Int), .slice none 0 0]) (by rw [results_cell_one rfl]; go_simp) rfl ⟨rfl, ?_⟩
  exact ((Below.refl _ _).alloc (Nat.le_refl _) _).alloc (by simp) _

def PairPost (k : Int) (x y : Hd) (w : World) (e : Ending) (w' : World) : Prop :=
  ∃ g, e = .returned (hdV ⟨k, st0, some ⟨g, 0, none⟩, 2, 2⟩) ∧ w.heap.size ≤ g ∧ AtHd w' g 0 x ∧ AtHd w' g 6 y ∧ Below w.heap.size w w'
set_option maxHeartbeats 4000000 in
theorem pair_any (k : Int) (x y : Hd) (w : World) : Calls Tryd.prog 51 #[.int .i64 k, hdV x, hdV y] w (PairPost k x y w) := by
  unfold hdV
  go_enter Tryd.func51, Tryd.ntmps51
  go_wp2
  refine bodyPost_ret (v := hdV ⟨k, st0, some ⟨w.heap.size + 1 + 1 + 1, 0, none⟩, 2, 2⟩) (by rw [results_cell_one rfl]; go_simp; rfl) rfl ⟨_, rfl, by omega, ?_, ?_, ?_⟩
  · exact (blk_at1 (Blk.new_at _ _ _ _ (by simp))).1
  · exact (blk_at1 (Blk.new_at _ _ _ _ (by simp))).2
  · (repeat' (first | exact Below.refl _ _ | refine Below.setCell ?_ (by simp <;> omega) _ | refine Below.alloc ?_ (by simp <;> omega) _))
def StarPost (x : Hd) (w : World) (e : Ending) (w' : World) : Prop :=
  ∃ g, e = .returned (hdV ⟨4, st0, some ⟨g, 0, none⟩, 1, 1⟩) ∧ w.heap.size ≤ g ∧ AtHd w' g 0 x ∧ Below w.heap.size w w'
set_option maxHeartbeats 4000000 in
theorem star_any (x : Hd) (w : World) : Calls Tryd.prog 63 #[hdV x] w (StarPost x w) := by
  unfold hdV
  go_enter Tryd.func63, Tryd.ntmps63
  go_wp2
  refine bodyPost_ret (v := hdV ⟨4, st0, some ⟨w.heap.size + 1 + 1, 0, none⟩, 1, 1⟩) (by rw [results_cell_one rfl]; go_simp; rfl) rfl ⟨_, rfl, by omega, ?_, ?_⟩
  · exact blk_at (Blk.new_at _ _ _ _ (by simp))
  · (repeat' (first | exact Below.refl _ _ | refine Below.setCell ?_ (by simp <;> omega) _ | refine Below.alloc ?_ (by simp <;> omega) _))
end Go.Proofs.YtgidoieppplhpaaDoor
