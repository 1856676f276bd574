/-
  The statements' own Same: a tree is the same as itself, wherever it lies.
-/
import Derived.Test.YtjceaojffdaihaaDoorRegexEq
import Derived.Test.YtjceaojffdaihaaDoorRegexClone
import Derived.Test.YtjceaojffdaihaaDoorRegexAwake
import Derived.WalkKit
import Derived.OwnWalk
import Derived.ProofKit
import Derived.WalkLawsBesides
import Derived.IntWalk
import Derived.RegionTactic
import Derived.BigRegion
import Derived.ChangeAlike
import Derived.Deep.QuietTactic
import Derived.BigQuiet
import Derived.Deep.RegionHeld3
import Derived.Deep.DrawnRows
import Derived.Outline
import Derived.Lib.QuietBelow
import Derived.Deep.DeepCutAuto
namespace Go.Proofs.YtjceaojffdaihaaDoor
open Go.RowKit
set_option linter.unusedVariables false





def SameSpec (r : Re) : Prop := ∀ (S T : Nat → Prop) (h k : Hd) (w : World), IsS w S h r → IsS w T k r →
  Calls Tryd.prog 13 #[hdV h, hdV k] w fun e w' => e = .returned (.bool true) ∧ Below w.heap.size w w'
theorem neq_zero (W : World) : (binOp .neq 27 (.agg #[.int .u64 (0 : Nat), .int .u64 (0 : Nat), .int .u64 (0 : Nat), .int .u64 (0 : Nat)]) (.agg #[.int .u64 (0 : Nat), .int .u64 (0 : Nat), .int .u64 (0 : Nat), .int .u64 (0 : Nat)])).run Tryd.prog W = .ok (.bool false) W := neq_set st0 st0 W
set_option maxHeartbeats 1000000 in
theorem same0 (k : Int) (sa sb sc sd : Nat) (w : World) (hne : ∀ W, (binOp .neq 27 (.agg #[.int .u64 (sa : Int), .int .u64 (sb : Int), .int .u64 (sc : Int), .int .u64 (sd : Int)]) (.agg #[.int .u64 (sa : Int), .int .u64 (sb : Int), .int .u64 (sc : Int), .int .u64 (sd : Int)])).run Tryd.prog W = .ok (.bool false) W) :
    Calls Tryd.prog 13 #[.agg #[.int .i64 k, .int .u64 (sa : Int), .int .u64 (sb : Int), .int .u64 (sc : Int), .int .u64 (sd : Int), .slice none 0 0], .agg #[.int .i64 k, .int .u64 (sa : Int), .int .u64 (sb : Int), .int .u64 (sc : Int), .int .u64 (sd : Int), .slice none 0 0]] w fun e w' => e = .returned (.bool true) ∧ Below w.heap.size w w' := by
  obtain ⟨w1, hw1⟩ : ∃ w1, (w.alloc (.cells #[.int .i64 k, .int .u64 (sa : Int), .int .u64 (sb : Int), .int .u64 (sc : Int), .int .u64 (sd : Int), .slice none 0 0] 30)).alloc (.cells #[.int .i64 k, .int .u64 (sa : Int), .int .u64 (sb : Int), .int .u64 (sc : Int), .int .u64 (sd : Int), .slice none 0 0] 30) = w1 := ⟨_, rfl⟩
  have hb1 : Below w.heap.size w w1 := by rw [← hw1]; exact ((Below.refl _ _).alloc (Nat.le_refl _) _).alloc (by simp) _
  have hk1 : Blk w1 w.heap.size 30 #[.int .i64 k, .int .u64 (sa : Int), .int .u64 (sb : Int), .int .u64 (sc : Int), .int .u64 (sd : Int), .slice none 0 0] := by rw [← hw1]; exact (Blk.new _ _ _).alloc _
  have hl1 : Blk w1 (w.heap.size + 1) 30 #[.int .i64 k, .int .u64 (sa : Int), .int .u64 (sb : Int), .int .u64 (sc : Int), .int .u64 (sd : Int), .slice none 0 0] := by rw [← hw1]; exact Blk.new_at _ _ _ _ (by simp)
  have HB1 := keepHid hb1
  have HK1 := keepHid hk1
  have HL1 := keepHid hl1
  obtain ⟨k0, k1, k2, k3, k4, k5, kf⟩ := blk6 hk1
  obtain ⟨l0, l1, l2, l3, l4, l5, lf⟩ := blk6 hl1
  clear hb1 hk1 hl1
  go_enter Tryd.func13, Tryd.ntmps13
  go_wp2_with fail
  try rw [hw1]
  refine wp_loop_rounds 1 ?_
  rw [rounds_succ]
  go_wp2
  go_ret
  exact ⟨rfl, HB1.out⟩

set_option maxHeartbeats 2000000 in
theorem same1 (k : Int) (sa sb sc sd g g' c c' : Nat) (S T : Nat → Prop) (x x' : Hd) (a : Re) (w : World) (hne : ∀ W, (binOp .neq 27 (.agg #[.int .u64 (sa : Int), .int .u64 (sb : Int), .int .u64 (sc : Int), .int .u64 (sd : Int)]) (.agg #[.int .u64 (sa : Int), .int .u64 (sb : Int), .int .u64 (sc : Int), .int .u64 (sd : Int)])).run Tryd.prog W = .ok (.bool false) W)
    (hX : SameSpec a) (hc : 1 ≤ c) (hc' : 1 ≤ c') (ax : AtHd w g 0 x) (ax' : AtHd w g' 0 x') (ix : IsS w S x a) (ix' : IsS w T x' a) :
    Calls Tryd.prog 13 #[.agg #[.int .i64 k, .int .u64 (sa : Int), .int .u64 (sb : Int), .int .u64 (sc : Int), .int .u64 (sd : Int), .slice (some ⟨g, 0, none⟩) 1 c], .agg #[.int .i64 k, .int .u64 (sa : Int), .int .u64 (sb : Int), .int .u64 (sc : Int), .int .u64 (sd : Int), .slice (some ⟨g', 0, none⟩) 1 c']] w fun e w' => e = .returned (.bool true) ∧ Below w.heap.size w w' := by
  have HX := keepHid hX
  obtain ⟨w1, hw1⟩ : ∃ w1, (w.alloc (.cells #[.int .i64 k, .int .u64 (sa : Int), .int .u64 (sb : Int), .int .u64 (sc : Int), .int .u64 (sd : Int), .slice (some ⟨g, 0, none⟩) 1 c] 30)).alloc (.cells #[.int .i64 k, .int .u64 (sa : Int), .int .u64 (sb : Int), .int .u64 (sc : Int), .int .u64 (sd : Int), .slice (some ⟨g', 0, none⟩) 1 c'] 30) = w1 := ⟨_, rfl⟩
  have hb1 : Below w.heap.size w w1 := by rw [← hw1]; exact ((Below.refl _ _).alloc (Nat.le_refl _) _).alloc (by simp) _
  have hk1 : Blk w1 w.heap.size 30 #[.int .i64 k, .int .u64 (sa : Int), .int .u64 (sb : Int), .int .u64 (sc : Int), .int .u64 (sd : Int), .slice (some ⟨g, 0, none⟩) 1 c] := by rw [← hw1]; exact (Blk.new _ _ _).alloc _
  have hl1 : Blk w1 (w.heap.size + 1) 30 #[.int .i64 k, .int .u64 (sa : Int), .int .u64 (sb : Int), .int .u64 (sc : Int), .int .u64 (sd : Int), .slice (some ⟨g', 0, none⟩) 1 c'] := by rw [← hw1]; exact Blk.new_at _ _ _ _ (by simp)
  have HB1 := keepHid hb1
  have HK1 := keepHid hk1
  have HL1 := keepHid hl1
  have HAX1 := keepHid (ax.keep (hb1.block g ax.lt))
  have HAXp1 := keepHid (ax'.keep (hb1.block g' ax'.lt))
  have HIX1 := keepHid (ix.below hb1)
  have HIXp1 := keepHid (ix'.below hb1)
  obtain ⟨k0, k1, k2, k3, k4, k5, kf⟩ := blk6 hk1
  obtain ⟨l0, l1, l2, l3, l4, l5, lf⟩ := blk6 hl1
  have i1 : (1 : Int) ≤ (c : Int) := by omega
  have i2 : (1 : Int) ≤ (c' : Int) := by omega
  clear hb1 hk1 hl1 ax ax' ix ix' hX
  go_enter Tryd.func13, Tryd.ntmps13
  go_wp2_with fail
  try rw [hw1]
  clear hw1 k0 k1 k2 k3 k4 k5 kf l0 l1 l2 l3 l4 l5 lf
  refine wp_loop_rounds 2 ?_
  rw [rounds_succ]
  have k5 := (blk6 HK1.out).2.2.2.2.2.1
  have l5 := (blk6 HL1.out).2.2.2.2.2.1
  obtain ⟨x0, x1, x2, x3, x4, x5⟩ := at0 HAX1.out
  obtain ⟨y0, y1, y2, y3, y4, y5⟩ := at0 HAXp1.out
  have qk := fun d os => cell_regrown k5 d os
  have ql := fun d os => cell_regrown l5 d os
  have q0 := fun d os => cell_regrown x0 d os
  have q1 := fun d os => cell_regrown x1 d os
  have q2 := fun d os => cell_regrown x2 d os
  have q3 := fun d os => cell_regrown x3 d os
  have q4 := fun d os => cell_regrown x4 d os
  have q5 := fun d os => cell_regrown x5 d os
  have p0 := fun d os => cell_regrown y0 d os
  have p1 := fun d os => cell_regrown y1 d os
  have p2 := fun d os => cell_regrown y2 d os
  have p3 := fun d os => cell_regrown y3 d os
  have p4 := fun d os => cell_regrown y4 d os
  have p5 := fun d os => cell_regrown y5 d os
  have C := keepHid (fun d os => Calls.regrown_of (HX.out S T x x' (Sort.grow (redrawn w1 d) os) (HIX1.out.below (below_regrown w1 d os)) (HIXp1.out.below (below_regrown w1 d os))))
  unfold hdV at C
  clear k5 l5 x0 x1 x2 x3 x4 x5 y0 y1 y2 y3 y4 y5
  go_wp2_with fail
  refine wp_region_quiet_below (by kernel_rfl) (by kernel_rfl) ?_
  repeat (go_big_quiet_step (with_reducible exact C.out _ _))
  refine wpQuiet_nil ?_
  intro _ hw'
  obtain ⟨⟨dq, osq⟩, hw''⟩ := hw'
  subst hw''
  clear qk ql q0 q1 q2 q3 q4 q5 p0 p1 p2 p3 p4 p5 C
  have hbr := below_regrown w1 dq osq
  have HB2 := keepHid (HB1.out.trans (hbr.mono HB1.out.size))
  have HK2 := keepHid (HK1.out.below hbr HK1.out.lt)
  have HL2 := keepHid (HL1.out.below hbr HL1.out.lt)
  clear hbr
  generalize Sort.grow (redrawn w1 dq) osq = w2 at *
  go_wp2_with fail
  rw [rounds_succ]
  go_wp2
  go_ret
  exact ⟨rfl, HB2.out⟩

set_option maxHeartbeats 2000000 in
theorem same2 (k : Int) (sa sb sc sd g g' c c' : Nat) (S T : Nat → Prop) (x x' y y' : Hd) (a b : Re) (w : World) (hne : ∀ W, (binOp .neq 27 (.agg #[.int .u64 (sa : Int), .int .u64 (sb : Int), .int .u64 (sc : Int), .int .u64 (sd : Int)]) (.agg #[.int .u64 (sa : Int), .int .u64 (sb : Int), .int .u64 (sc : Int), .int .u64 (sd : Int)])).run Tryd.prog W = .ok (.bool false) W)
    (hX : SameSpec a) (hY : SameSpec b) (hc : 2 ≤ c) (hc' : 2 ≤ c') (ax : AtHd w g 0 x) (ax' : AtHd w g' 0 x') (ay : AtHd w g 6 y) (ay' : AtHd w g' 6 y') (ix : IsS w S x a) (ix' : IsS w T x' a) (iy : IsS w S y b) (iy' : IsS w T y' b) :
    Calls Tryd.prog 13 #[.agg #[.int .i64 k, .int .u64 (sa : Int), .int .u64 (sb : Int), .int .u64 (sc : Int), .int .u64 (sd : Int), .slice (some ⟨g, 0, none⟩) 2 c], .agg #[.int .i64 k, .int .u64 (sa : Int), .int .u64 (sb : Int), .int .u64 (sc : Int), .int .u64 (sd : Int), .slice (some ⟨g', 0, none⟩) 2 c']] w fun e w' => e = .returned (.bool true) ∧ Below w.heap.size w w' := by
  have HX := keepHid hX
  have HY := keepHid hY
  obtain ⟨w1, hw1⟩ : ∃ w1, (w.alloc (.cells #[.int .i64 k, .int .u64 (sa : Int), .int .u64 (sb : Int), .int .u64 (sc : Int), .int .u64 (sd : Int), .slice (some ⟨g, 0, none⟩) 2 c] 30)).alloc (.cells #[.int .i64 k, .int .u64 (sa : Int), .int .u64 (sb : Int), .int .u64 (sc : Int), .int .u64 (sd : Int), .slice (some ⟨g', 0, none⟩) 2 c'] 30) = w1 := ⟨_, rfl⟩
  have hb1 : Below w.heap.size w w1 := by rw [← hw1]; exact ((Below.refl _ _).alloc (Nat.le_refl _) _).alloc (by simp) _
  have hk1 : Blk w1 w.heap.size 30 #[.int .i64 k, .int .u64 (sa : Int), .int .u64 (sb : Int), .int .u64 (sc : Int), .int .u64 (sd : Int), .slice (some ⟨g, 0, none⟩) 2 c] := by rw [← hw1]; exact (Blk.new _ _ _).alloc _
  have hl1 : Blk w1 (w.heap.size + 1) 30 #[.int .i64 k, .int .u64 (sa : Int), .int .u64 (sb : Int), .int .u64 (sc : Int), .int .u64 (sd : Int), .slice (some ⟨g', 0, none⟩) 2 c'] := by rw [← hw1]; exact Blk.new_at _ _ _ _ (by simp)
  have HB1 := keepHid hb1
  have HK1 := keepHid hk1
  have HL1 := keepHid hl1
  have HAX1 := keepHid (ax.keep (hb1.block g ax.lt))
  have HAXp1 := keepHid (ax'.keep (hb1.block g' ax'.lt))
  have HAY1 := keepHid (ay.keep (hb1.block g ay.lt))
  have HAYp1 := keepHid (ay'.keep (hb1.block g' ay'.lt))
  have HIX1 := keepHid (ix.below hb1)
  have HIXp1 := keepHid (ix'.below hb1)
  have HIY1 := keepHid (iy.below hb1)
  have HIYp1 := keepHid (iy'.below hb1)
  obtain ⟨k0, k1, k2, k3, k4, k5, kf⟩ := blk6 hk1
  obtain ⟨l0, l1, l2, l3, l4, l5, lf⟩ := blk6 hl1
  have i1 : (2 : Int) ≤ (c : Int) := by omega
  have i2 : (2 : Int) ≤ (c' : Int) := by omega
  clear hb1 hk1 hl1 ax ax' ay ay' ix ix' iy iy' hX hY
  go_enter Tryd.func13, Tryd.ntmps13
  go_wp2_with fail
  try rw [hw1]
  clear hw1 k0 k1 k2 k3 k4 k5 kf l0 l1 l2 l3 l4 l5 lf
  refine wp_loop_rounds 3 ?_
  rw [rounds_succ]
  have k5 := (blk6 HK1.out).2.2.2.2.2.1
  have l5 := (blk6 HL1.out).2.2.2.2.2.1
  obtain ⟨x0, x1, x2, x3, x4, x5⟩ := at0 HAX1.out
  obtain ⟨y0, y1, y2, y3, y4, y5⟩ := at0 HAXp1.out
  have qk := fun d os => cell_regrown k5 d os
  have ql := fun d os => cell_regrown l5 d os
  have q0 := fun d os => cell_regrown x0 d os
  have q1 := fun d os => cell_regrown x1 d os
  have q2 := fun d os => cell_regrown x2 d os
  have q3 := fun d os => cell_regrown x3 d os
  have q4 := fun d os => cell_regrown x4 d os
  have q5 := fun d os => cell_regrown x5 d os
  have p0 := fun d os => cell_regrown y0 d os
  have p1 := fun d os => cell_regrown y1 d os
  have p2 := fun d os => cell_regrown y2 d os
  have p3 := fun d os => cell_regrown y3 d os
  have p4 := fun d os => cell_regrown y4 d os
  have p5 := fun d os => cell_regrown y5 d os
  have C := keepHid (fun d os => Calls.regrown_of (HX.out S T x x' (Sort.grow (redrawn w1 d) os) (HIX1.out.below (below_regrown w1 d os)) (HIXp1.out.below (below_regrown w1 d os))))
  unfold hdV at C
  clear k5 l5 x0 x1 x2 x3 x4 x5 y0 y1 y2 y3 y4 y5
  go_wp2_with fail
  refine wp_region_quiet_below (by kernel_rfl) (by kernel_rfl) ?_
  repeat (go_big_quiet_step (with_reducible exact C.out _ _))
  refine wpQuiet_nil ?_
  intro _ hw'
  obtain ⟨⟨dq, osq⟩, hw''⟩ := hw'
  subst hw''
  clear qk ql q0 q1 q2 q3 q4 q5 p0 p1 p2 p3 p4 p5 C
  have hbr := below_regrown w1 dq osq
  have HB2 := keepHid (HB1.out.trans (hbr.mono HB1.out.size))
  have HK2 := keepHid (HK1.out.below hbr HK1.out.lt)
  have HL2 := keepHid (HL1.out.below hbr HL1.out.lt)
  have HAY2 := keepHid (HAY1.out.keep (hbr.block g HAY1.out.lt))
  have HAYp2 := keepHid (HAYp1.out.keep (hbr.block g' HAYp1.out.lt))
  have HIY2 := keepHid (HIY1.out.below hbr)
  have HIYp2 := keepHid (HIYp1.out.below hbr)
  clear hbr
  generalize Sort.grow (redrawn w1 dq) osq = w2 at *
  go_wp2_with fail
  rw [rounds_succ]
  have k5 := (blk6 HK2.out).2.2.2.2.2.1
  have l5 := (blk6 HL2.out).2.2.2.2.2.1
  obtain ⟨x0, x1, x2, x3, x4, x5⟩ := at6 HAY2.out
  obtain ⟨y0, y1, y2, y3, y4, y5⟩ := at6 HAYp2.out
  have qk := fun d os => cell_regrown k5 d os
  have ql := fun d os => cell_regrown l5 d os
  have q0 := fun d os => cell_regrown x0 d os
  have q1 := fun d os => cell_regrown x1 d os
  have q2 := fun d os => cell_regrown x2 d os
  have q3 := fun d os => cell_regrown x3 d os
  have q4 := fun d os => cell_regrown x4 d os
  have q5 := fun d os => cell_regrown x5 d os
  have p0 := fun d os => cell_regrown y0 d os
  have p1 := fun d os => cell_regrown y1 d os
  have p2 := fun d os => cell_regrown y2 d os
  have p3 := fun d os => cell_regrown y3 d os
  have p4 := fun d os => cell_regrown y4 d os
  have p5 := fun d os => cell_regrown y5 d os
  have C := keepHid (fun d os => Calls.regrown_of (HY.out S T y y' (Sort.grow (redrawn w2 d) os) (HIY2.out.below (below_regrown w2 d os)) (HIYp2.out.below (below_regrown w2 d os))))
  unfold hdV at C
  clear k5 l5 x0 x1 x2 x3 x4 x5 y0 y1 y2 y3 y4 y5
  go_wp2_with fail
  refine wp_region_quiet_below (by kernel_rfl) (by kernel_rfl) ?_
  repeat (go_big_quiet_step (with_reducible exact C.out _ _))
  refine wpQuiet_nil ?_
  intro _ hw'
  obtain ⟨⟨dq, osq⟩, hw''⟩ := hw'
  subst hw''
  clear qk ql q0 q1 q2 q3 q4 q5 p0 p1 p2 p3 p4 p5 C
  have hbr := below_regrown w2 dq osq
  have HB3 := keepHid (HB2.out.trans (hbr.mono HB2.out.size))
  have HK3 := keepHid (HK2.out.below hbr HK2.out.lt)
  have HL3 := keepHid (HL2.out.below hbr HL2.out.lt)
  clear hbr
  generalize Sort.grow (redrawn w2 dq) osq = w3 at *
  go_wp2_with fail
  rw [rounds_succ]
  go_wp2
  go_ret
  exact ⟨rfl, HB3.out⟩

theorem same_any : ∀ r : Re, SameSpec r
  | .nil => fun S T h k w hi ki => by
    obtain rfl : h = hd0 := hi
    obtain rfl : k = hd0 := ki
    exact same0 0 0 0 0 0 w neq_zero
  | .one s => fun S T h k w hi ki => by
    obtain rfl : h = ⟨1, s, none, 0, 0⟩ := hi
    obtain rfl : k = ⟨1, s, none, 0, 0⟩ := ki
    exact same0 1 s.a.toNat s.b.toNat s.c.toNat s.d.toNat w (fun W => by have := neq_set s s W; simpa [stV] using this)
  | .star a => fun S T h k w hi ki => by
    obtain ⟨g, c, x, rfl, h1, h2, hl, ax, ix⟩ := hi
    obtain ⟨g', c', x', rfl, h1', h2', hl', ax', ix'⟩ := ki
    exact same1 4 0 0 0 0 g g' c c' S T x x' a w neq_zero (same_any a) h1 h1' ax ax' ix ix'
  | .thn a b => fun S T h k w hi ki => by
    obtain ⟨g, c, x, y, rfl, h1, h2, hl, ax, ay, ix, iy⟩ := hi
    obtain ⟨g', c', x', y', rfl, h1', h2', hl', ax', ay', ix', iy'⟩ := ki
    exact same2 2 0 0 0 0 g g' c c' S T x x' y y' a b w neq_zero (same_any a) (same_any b) h1 h1' ax ax' ay ay' ix ix' iy iy'
  | .alt a b => fun S T h k w hi ki => by
    obtain ⟨g, c, x, y, rfl, h1, h2, hl, ax, ay, ix, iy⟩ := hi
    obtain ⟨g', c', x', y', rfl, h1', h2', hl', ax', ay', ix', iy'⟩ := ki
    exact same2 3 0 0 0 0 g g' c c' S T x x' y y' a b w neq_zero (same_any a) (same_any b) h1 h1' ax ax' ay ay' ix ix' iy iy'
end Go.Proofs.YtjceaojffdaihaaDoor
