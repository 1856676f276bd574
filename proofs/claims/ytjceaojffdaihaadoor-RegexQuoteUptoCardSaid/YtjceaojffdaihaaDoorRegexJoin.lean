/-
  A node variable that a loop writes: a byte first, then what it was, and a byte behind it.
-/
import Derived.Test.YtjceaojffdaihaaDoorRegexQuoted
import Derived.Test.YtjceaojffdaihaaDoorRegexMakes
namespace Go.Proofs.YtjceaojffdaihaaDoor
open Go.RowKit
set_option linter.unusedVariables false

abbrev six (w : World) (g : Nat) (u0 u1 u2 u3 u4 u5 : Value) : World := (((((w.setCell ⟨g, 0, none⟩ u0).setCell ⟨g, 1, none⟩ u1).setCell ⟨g, 2, none⟩ u2).setCell ⟨g, 3, none⟩ u3).setCell ⟨g, 4, none⟩ u4).setCell ⟨g, 5, none⟩ u5
def NodeRel (g : Nat) (wl : World) (t : Re) (w : World) : Prop := ∃ h, Blk w g 30 (hdC h) ∧ IsRe w (g + 1) h t ∧ Below g wl w
theorem node_zero {wl w : World} (h : wl.alloc (.cells #[.int .i64 0, .int .u64 0, .int .u64 0, .int .u64 0, .int .u64 0, .slice none 0 0] 30) = w) : NodeRel wl.heap.size wl .nil w :=
  ⟨hd0, node_new h, rfl, by rw [← h]; exact (Below.refl _ _).alloc (Nat.le_refl _) _⟩
theorem blk_six {w : World} {g : Nat} {h : Hd} {t : TypeId} (hb : Blk w g t (hdC h)) (u0 u1 u2 u3 u4 u5 : Value) : Blk (six w g u0 u1 u2 u3 u4 u5) g t #[u0, u1, u2, u3, u4, u5] :=
  (((((hb.put 0 u0).put 1 u1).put 2 u2).put 3 u3).put 4 u4).put 5 u5
def oneH (y : Nat) : Hd := ⟨1, withS st0 y, none, 0, 0⟩
theorem node_first {g : Nat} {wl w : World} {h : Hd} (hb : Blk w g 30 (hdC h)) (hbel : Below g wl w) (c : UInt8) (y : Nat) (hy : c.toNat = y) :
    NodeRel g wl (treeOf [c]) (six w g (.int .i64 1) (.int .u64 ((withS st0 y).a.toNat : Int)) (.int .u64 ((withS st0 y).b.toNat : Int)) (.int .u64 ((withS st0 y).c.toNat : Int)) (.int .u64 ((withS st0 y).d.toNat : Int)) (.slice none 0 0)) := by
  subst hy
  exact ⟨oneH c.toNat, blk_six hb _ _ _ _ _ _, rfl, below_six hbel (Nat.le_refl _) _ _ _ _ _ _⟩
theorem node_next {g : Nat} {wl w : World} {h : Hd} (hb : Blk w g 30 (hdC h)) {l : List UInt8} (hl : l ≠ []) (hi : IsRe w (g + 1) h (treeOf l)) (hbel : Below g wl w) (hg : g ≤ wl.heap.size) (c : UInt8) (y : Nat) (hy : c.toNat = y) :
    NodeRel g wl (treeOf (l ++ [c])) ((six w g (.int .i64 2) (.int .u64 0) (.int .u64 0) (.int .u64 0) (.int .u64 0) (.slice (some ⟨w.heap.size, 0, none⟩) 2 2)).alloc (.cells #[.int .i64 h.k, .int .u64 (h.s.a.toNat : Int), .int .u64 (h.s.b.toNat : Int), .int .u64 (h.s.c.toNat : Int), .int .u64 (h.s.d.toNat : Int), .slice h.A h.n h.c, .int .i64 (oneH y).k, .int .u64 ((oneH y).s.a.toNat : Int), .int .u64 ((oneH y).s.b.toNat : Int), .int .u64 ((oneH y).s.c.toNat : Int), .int .u64 ((oneH y).s.d.toNat : Int), .slice (oneH y).A (oneH y).n (oneH y).c] 30)) := by
  subst hy
  rw [tree_snoc hl]
  have hlt : g < w.heap.size := hb.lt
  have hs : (six w g (.int .i64 2) (.int .u64 0) (.int .u64 0) (.int .u64 0) (.int .u64 0) (.slice (some ⟨w.heap.size, 0, none⟩) 2 2)).heap.size = w.heap.size := by simp [six]
  have hb6 := below_six hbel (Nat.le_refl _) (.int .i64 2) (.int .u64 0) (.int .u64 0) (.int .u64 0) (.int .u64 0) (.slice (some ⟨w.heap.size, 0, none⟩) 2 2)
  have hk6 := blk_six hb (.int .i64 2) (.int .u64 0) (.int .u64 0) (.int .u64 0) (.int .u64 0) (.slice (some ⟨w.heap.size, 0, none⟩) 2 2)
  have hnew := Blk.new_at (six w g (.int .i64 2) (.int .u64 0) (.int .u64 0) (.int .u64 0) (.int .u64 0) (.slice (some ⟨w.heap.size, 0, none⟩) 2 2)) 30 #[.int .i64 h.k, .int .u64 (h.s.a.toNat : Int), .int .u64 (h.s.b.toNat : Int), .int .u64 (h.s.c.toNat : Int), .int .u64 (h.s.d.toNat : Int), .slice h.A h.n h.c, .int .i64 (oneH c.toNat).k, .int .u64 ((oneH c.toNat).s.a.toNat : Int), .int .u64 ((oneH c.toNat).s.b.toNat : Int), .int .u64 ((oneH c.toNat).s.c.toNat : Int), .int .u64 ((oneH c.toNat).s.d.toNat : Int), .slice (oneH c.toNat).A (oneH c.toNat).n (oneH c.toNat).c] w.heap.size hs.symm
  refine ⟨⟨2, st0, some ⟨w.heap.size, 0, none⟩, 2, 2⟩, hk6.alloc _, ?_, hb6.alloc (by rw [hs]; omega) _⟩
  refine ⟨w.heap.size, 2, h, oneH c.toNat, rfl, Nat.le_refl _, by unfold maxLen; omega, hlt, (blk_at1 hnew).1, (blk_at1 hnew).2, ?_, rfl⟩
  refine hi.keep fun b hb hl => ?_
  show (World.alloc _ _).heap[b]? = _
  rw [Below.heap_alloc _ _ _ (by rw [hs]; exact hl), six_far (by have : g + 1 ≤ b := hb; omega)]
end Go.Proofs.YtjceaojffdaihaaDoor
