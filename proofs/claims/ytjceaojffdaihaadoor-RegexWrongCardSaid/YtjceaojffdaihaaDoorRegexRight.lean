/-
  The statements' own right: each node has what its kind has.
-/
import Derived.Test.YtjceaojffdaihaaDoorRegexEq
import Derived.Test.YtjceaojffdaihaaDoorRegexClone
import Derived.Test.YtjceaojffdaihaaDoorRegexAwake
import Derived.WalkKit
import Derived.OwnWalk
import Derived.ProofKit
import Derived.WalkLawsBesides
import Derived.IntWalk
import Derived.RegionTactic
import Derived.BigRegion
import Derived.ChangeAlike
import Derived.Deep.QuietTactic
import Derived.BigQuiet
import Derived.Deep.RegionHeld3
import Derived.Deep.DrawnRows
import Derived.Outline
import Derived.Lib.QuietBelow
import Derived.Maps.Own
import Derived.Maps.OwnOps
import Derived.Deep.DeepCutAuto
namespace Go.Proofs.YtjceaojffdaihaaDoor
open Go.RowKit Go.Maps Go.ChangeMaps Go.WideMaps
set_option linter.unusedVariables false





/-- How many kids a kind has. -/
def wantK (k : Nat) : Int := if k = 2 then 2 else if k = 3 then 2 else if k = 4 then 1 else 0
theorem kindKeyed : Keyed Tryd.prog 24 := int_keyed Tryd.underlying24
theorem zeroInt (w : World) : (zeroValue 3).run Tryd.prog w = .ok (.int .i64 0) w := by kernel_rfl
theorem kinds_map (k : Nat) (hk : k ≤ 4) (w : World) : ∃ w1 w2 w3, (Instr.mapUpdate 70 (.map (some w.heap.size)) (.int .i64 2) (.int .i64 2)).run Tryd.prog (w.alloc (.map #[] 0)) = .ok () w1 ∧
    (Instr.mapUpdate 70 (.map (some w.heap.size)) (.int .i64 3) (.int .i64 2)).run Tryd.prog w1 = .ok () w2 ∧ (Instr.mapUpdate 70 (.map (some w.heap.size)) (.int .i64 4) (.int .i64 1)).run Tryd.prog w2 = .ok () w3 ∧
    (Instr.lookup 70 (.map (some w.heap.size)) (.int .i64 (k : Int)) false).run Tryd.prog w3 = .ok (.int .i64 (wantK k)) w3 ∧ Below w.heap.size w w3 := by
  have hU := Tryd.underlying24
  have hM := Tryd.underlying70
  have hE := Tryd.underlying3
  have h0 := World.ownsMap_made w Tryd.prog 24 (plainElem (H := Unit) Tryd.prog 3)
  obtain ⟨w1, r1, o1, g1⟩ := h0.update kindKeyed hM (by unfold maxLen; omega) (key := .int .i64 2) (val := .int .i64 2) (keyOf_int_mk hU (by decide)) (plainElem_int hE (by decide))
  obtain ⟨w2, r2, o2, g2⟩ := o1.update kindKeyed hM (by unfold maxLen; omega) (key := .int .i64 3) (val := .int .i64 2) (keyOf_int_mk hU (by decide)) (plainElem_int hE (by decide))
  obtain ⟨w3, r3, o3, g3⟩ := o2.update kindKeyed hM (by unfold maxLen; omega) (key := .int .i64 4) (val := .int .i64 1) (keyOf_int_mk hU (by decide)) (plainElem_int hE (by decide))
  have hs0 : (w.alloc (.map #[] 0)).heap.size = w.heap.size + 1 := by simp
  have hb : Below w.heap.size w w3 := by
    have hb0 : Below w.heap.size w (w.alloc (.map #[] 0)) := (Below.refl _ _).alloc (Nat.le_refl _) _
    refine hb0.trans ⟨?_, ?_, ?_, ?_, ?_⟩
    · rw [g3.os, g2.os, g1.os]
    · rw [g3.tape, g2.tape, g1.tape]
    · rw [g3.output, g2.output, g1.output]
    · exact Nat.le_trans (World.grownBy.size g1) (Nat.le_trans (World.grownBy.size g2) (World.grownBy.size g3))
    · intro i hi
      have s1 := World.grownBy.size g1
      have s2 := World.grownBy.size g2
      have hne : some i ≠ some w.heap.size := fun e => by injection e; omega
      rw [g3.block i (by omega) hne, g2.block i (by omega) hne, g1.block i (by omega) hne]
  refine ⟨w1, w2, w3, r1, r2, r3, ?_, hb⟩
  obtain ⟨c, hrun, hat, _⟩ := o3.lookup_int kindKeyed hM hE (zeroInt _) (key := .int .i64 (k : Int)) (keyOf_int_mk hU (show (Lit.int .i64 (k : Int)).wf = true by
    rcases (by omega : k = 0 ∨ k = 1 ∨ k = 2 ∨ k = 3 ∨ k = 4) with rfl | rfl | rfl | rfl | rfl <;> decide))
  have hc : (DataW.lit (.int .i64 (wantK k)) : DataW Unit) = .lit (.int .i64 c) := by
    rw [← hat]
    clear hat hrun
    rcases (by omega : k = 0 ∨ k = 1 ∨ k = 2 ∨ k = 3 ∨ k = 4) with rfl | rfl | rfl | rfl | rfl <;> rfl
  have hc2 : wantK k = c := congrArg (fun d : DataW Unit => match d with | .lit (.int _ z) => z | _ => 0) hc
  rw [hc2]
  exact hrun

def RightSpec (r : Re) : Prop := ∀ (S : Nat → Prop) (h : Hd) (w : World), IsS w S h r → Calls Tryd.prog 19 #[hdV h] w fun e w' => e = .returned (.bool true) ∧ Below w.heap.size w w'
theorem neq_zeros (W : World) : (binOp .neq 27 (.agg #[.int .u64 0, .int .u64 0, .int .u64 0, .int .u64 0]) (.agg #[.int .u64 0, .int .u64 0, .int .u64 0, .int .u64 0])).run Tryd.prog W = .ok (.bool false) W := neq_set st0 st0 W
set_option maxRecDepth 100000 in
set_option maxHeartbeats 1000000 in
theorem right_nil (w : World) :
    Calls Tryd.prog 19 #[.agg #[.int .i64 0, .int .u64 0, .int .u64 0, .int .u64 0, .int .u64 0, .slice none 0 0]] w fun e w' => e = .returned (.bool true) ∧ Below w.heap.size w w' := by
  obtain ⟨w0, hw0⟩ : ∃ w0, w.alloc (.cells #[.int .i64 0, .int .u64 0, .int .u64 0, .int .u64 0, .int .u64 0, .slice none 0 0] 30) = w0 := ⟨_, rfl⟩
  obtain ⟨m1, m2, m3, r1, r2, r3, rl, hb03⟩ := kinds_map 0 (by omega) w0
  have hwant : wantK 0 = 0 := by decide
  rw [hwant] at rl
  replace rl : (Instr.lookup 70 (.map (some w0.heap.size)) (.int .i64 0) false).run Tryd.prog m3 = .ok (.int .i64 0) m3 := rl
  have hmm := @run_makeMap Tryd.prog
  have hb00 : Below w.heap.size w w0 := by rw [← hw0]; exact (Below.refl _ _).alloc (Nat.le_refl _) _
  have hk0 : Blk w0 w.heap.size 30 #[.int .i64 0, .int .u64 0, .int .u64 0, .int .u64 0, .int .u64 0, .slice none 0 0] := by rw [← hw0]; exact Blk.new _ _ _
  have hk3 := hk0.below hb03 hk0.lt
  have hb3 := hb00.trans (hb03.mono hb00.size)
  have HB3 := keepHid hb3
  have HK3 := keepHid hk3
  have hne := neq_zeros
  obtain ⟨k0, k1, k2, k3, k4, k5, kf⟩ := blk6 hk3
  clear hb00 hb03 hb3 hk0 hk3 hwant
  go_enter Tryd.func19, Tryd.ntmps19
  go_wp2_with fail
  clear hw0 r1 r2 r3 rl hmm
  refine wp_loop_rounds 1 ?_
  rw [rounds_succ]
  go_wp2
  go_ret
  exact ⟨rfl, HB3.out⟩
set_option maxRecDepth 100000 in
set_option maxHeartbeats 1000000 in
theorem right_one (sa sb sc sd : Nat) (w : World) :
    Calls Tryd.prog 19 #[.agg #[.int .i64 1, .int .u64 (sa : Int), .int .u64 (sb : Int), .int .u64 (sc : Int), .int .u64 (sd : Int), .slice none 0 0]] w fun e w' => e = .returned (.bool true) ∧ Below w.heap.size w w' := by
  obtain ⟨w0, hw0⟩ : ∃ w0, w.alloc (.cells #[.int .i64 1, .int .u64 (sa : Int), .int .u64 (sb : Int), .int .u64 (sc : Int), .int .u64 (sd : Int), .slice none 0 0] 30) = w0 := ⟨_, rfl⟩
  obtain ⟨m1, m2, m3, r1, r2, r3, rl, hb03⟩ := kinds_map 1 (by omega) w0
  have hwant : wantK 1 = 0 := by decide
  rw [hwant] at rl
  replace rl : (Instr.lookup 70 (.map (some w0.heap.size)) (.int .i64 1) false).run Tryd.prog m3 = .ok (.int .i64 0) m3 := rl
  have hmm := @run_makeMap Tryd.prog
  have hb00 : Below w.heap.size w w0 := by rw [← hw0]; exact (Below.refl _ _).alloc (Nat.le_refl _) _
  have hk0 : Blk w0 w.heap.size 30 #[.int .i64 1, .int .u64 (sa : Int), .int .u64 (sb : Int), .int .u64 (sc : Int), .int .u64 (sd : Int), .slice none 0 0] := by rw [← hw0]; exact Blk.new _ _ _
  have hk3 := hk0.below hb03 hk0.lt
  have hb3 := hb00.trans (hb03.mono hb00.size)
  have HB3 := keepHid hb3
  have HK3 := keepHid hk3
  obtain ⟨k0, k1, k2, k3, k4, k5, kf⟩ := blk6 hk3
  clear hb00 hb03 hb3 hk0 hk3 hwant
  go_enter Tryd.func19, Tryd.ntmps19
  go_wp2_with fail
  clear hw0 r1 r2 r3 rl hmm
  refine wp_loop_rounds 1 ?_
  rw [rounds_succ]
  go_wp2
  go_ret
  exact ⟨rfl, HB3.out⟩
set_option maxRecDepth 100000 in
set_option maxHeartbeats 1000000 in
theorem right_star (g c : Nat) (S : Nat → Prop) (x : Hd) (a : Re) (w : World) (hX : RightSpec a) (hc : 1 ≤ c) (ax : AtHd w g 0 x) (ix : IsS w S x a) :
    Calls Tryd.prog 19 #[.agg #[.int .i64 4, .int .u64 0, .int .u64 0, .int .u64 0, .int .u64 0, .slice (some ⟨g, 0, none⟩) 1 c]] w fun e w' => e = .returned (.bool true) ∧ Below w.heap.size w w' := by
  obtain ⟨w0, hw0⟩ : ∃ w0, w.alloc (.cells #[.int .i64 4, .int .u64 0, .int .u64 0, .int .u64 0, .int .u64 0, .slice (some ⟨g, 0, none⟩) 1 c] 30) = w0 := ⟨_, rfl⟩
  obtain ⟨m1, m2, m3, r1, r2, r3, rl, hb03⟩ := kinds_map 4 (by omega) w0
  have hwant : wantK 4 = 1 := by decide
  rw [hwant] at rl
  replace rl : (Instr.lookup 70 (.map (some w0.heap.size)) (.int .i64 4) false).run Tryd.prog m3 = .ok (.int .i64 1) m3 := rl
  have hmm := @run_makeMap Tryd.prog
  have hb00 : Below w.heap.size w w0 := by rw [← hw0]; exact (Below.refl _ _).alloc (Nat.le_refl _) _
  have hk0 : Blk w0 w.heap.size 30 #[.int .i64 4, .int .u64 0, .int .u64 0, .int .u64 0, .int .u64 0, .slice (some ⟨g, 0, none⟩) 1 c] := by rw [← hw0]; exact Blk.new _ _ _
  have hk3 := hk0.below hb03 hk0.lt
  have hb3 := hb00.trans (hb03.mono hb00.size)
  have HB3 := keepHid hb3
  have HK3 := keepHid hk3
  have hne := neq_zeros
  obtain ⟨k0, k1, k2, k3, k4, k5, kf⟩ := blk6 hk3
  have HX := keepHid hX
  have HAX3 := keepHid (ax.keep (hb3.block g ax.lt))
  have HIX3 := keepHid (ix.below hb3)
  have hc' : (1 : Int) ≤ (c : Int) := by omega
  clear hb00 hb03 hb3 hk0 hk3 hwant ax ix hX
  go_enter Tryd.func19, Tryd.ntmps19
  go_wp2_with fail
  clear hw0 r1 r2 r3 rl hmm
  refine wp_loop_rounds 2 ?_
  rw [rounds_succ]
  obtain ⟨x0, x1, x2, x3, x4, x5⟩ := at0 HAX3.out
  go_wp2_with (go_at_call 19; fail)
  obtain ⟨c3, hc3⟩ : ∃ cw, m3.alloc (.cells #[.int .i64 x.k, .int .u64 (x.s.a.toNat : Int), .int .u64 (x.s.b.toNat : Int), .int .u64 (x.s.c.toNat : Int), .int .u64 (x.s.d.toNat : Int), .slice x.A x.n x.c] 30) = cw := ⟨_, rfl⟩
  have hba : Below m3.heap.size m3 c3 := by rw [← hc3]; exact (Below.refl _ _).alloc (Nat.le_refl _) _
  rw [hc3]
  refine (HX.out S x c3 (HIX3.out.below hba)).mono ?_
  rintro e m4 ⟨rfl, hbb⟩
  have hbc := hba.trans (hbb.mono hba.size)
  have HB4 := keepHid (HB3.out.trans (hbc.mono HB3.out.size))
  clear hba hbb hbc hc3 x0 x1 x2 x3 x4 x5 k0 k1 k2 k3 k4 k5 kf
  go_wp2_with fail
  rw [rounds_succ]
  go_wp2
  go_ret
  exact ⟨rfl, HB4.out⟩
set_option maxRecDepth 100000 in
set_option maxHeartbeats 1000000 in
theorem right_thn (g c : Nat) (S : Nat → Prop) (x : Hd) (a : Re) (y : Hd) (b : Re) (w : World) (hX : RightSpec a) (hc : 2 ≤ c) (ax : AtHd w g 0 x) (ix : IsS w S x a) (hY : RightSpec b) (ay : AtHd w g 6 y) (iy : IsS w S y b) :
    Calls Tryd.prog 19 #[.agg #[.int .i64 2, .int .u64 0, .int .u64 0, .int .u64 0, .int .u64 0, .slice (some ⟨g, 0, none⟩) 2 c]] w fun e w' => e = .returned (.bool true) ∧ Below w.heap.size w w' := by
  obtain ⟨w0, hw0⟩ : ∃ w0, w.alloc (.cells #[.int .i64 2, .int .u64 0, .int .u64 0, .int .u64 0, .int .u64 0, .slice (some ⟨g, 0, none⟩) 2 c] 30) = w0 := ⟨_, rfl⟩
  obtain ⟨m1, m2, m3, r1, r2, r3, rl, hb03⟩ := kinds_map 2 (by omega) w0
  have hwant : wantK 2 = 2 := by decide
  rw [hwant] at rl
  replace rl : (Instr.lookup 70 (.map (some w0.heap.size)) (.int .i64 2) false).run Tryd.prog m3 = .ok (.int .i64 2) m3 := rl
  have hmm := @run_makeMap Tryd.prog
  have hb00 : Below w.heap.size w w0 := by rw [← hw0]; exact (Below.refl _ _).alloc (Nat.le_refl _) _
  have hk0 : Blk w0 w.heap.size 30 #[.int .i64 2, .int .u64 0, .int .u64 0, .int .u64 0, .int .u64 0, .slice (some ⟨g, 0, none⟩) 2 c] := by rw [← hw0]; exact Blk.new _ _ _
  have hk3 := hk0.below hb03 hk0.lt
  have hb3 := hb00.trans (hb03.mono hb00.size)
  have HB3 := keepHid hb3
  have HK3 := keepHid hk3
  have hne := neq_zeros
  obtain ⟨k0, k1, k2, k3, k4, k5, kf⟩ := blk6 hk3
  have HX := keepHid hX
  have HAX3 := keepHid (ax.keep (hb3.block g ax.lt))
  have HIX3 := keepHid (ix.below hb3)
  have hc' : (2 : Int) ≤ (c : Int) := by omega
  have HY := keepHid hY
  have HAY3 := keepHid (ay.keep (hb3.block g ay.lt))
  have HIY3 := keepHid (iy.below hb3)
  clear hb00 hb03 hb3 hk0 hk3 hwant ax ix hX ay iy hY
  go_enter Tryd.func19, Tryd.ntmps19
  go_wp2_with fail
  clear hw0 r1 r2 r3 rl hmm
  refine wp_loop_rounds 3 ?_
  rw [rounds_succ]
  obtain ⟨x0, x1, x2, x3, x4, x5⟩ := at0 HAX3.out
  go_wp2_with (go_at_call 19; fail)
  obtain ⟨c3, hc3⟩ : ∃ cw, m3.alloc (.cells #[.int .i64 x.k, .int .u64 (x.s.a.toNat : Int), .int .u64 (x.s.b.toNat : Int), .int .u64 (x.s.c.toNat : Int), .int .u64 (x.s.d.toNat : Int), .slice x.A x.n x.c] 30) = cw := ⟨_, rfl⟩
  have hba : Below m3.heap.size m3 c3 := by rw [← hc3]; exact (Below.refl _ _).alloc (Nat.le_refl _) _
  rw [hc3]
  refine (HX.out S x c3 (HIX3.out.below hba)).mono ?_
  rintro e m4 ⟨rfl, hbb⟩
  have hbc := hba.trans (hbb.mono hba.size)
  have HB4 := keepHid (HB3.out.trans (hbc.mono HB3.out.size))
  have HAY4 := keepHid (HAY3.out.keep (hbc.block g HAY3.out.lt))
  have HIY4 := keepHid (HIY3.out.below hbc)
  clear hba hbb hbc hc3 x0 x1 x2 x3 x4 x5 k0 k1 k2 k3 k4 k5 kf
  go_wp2_with fail
  rw [rounds_succ]
  obtain ⟨x0, x1, x2, x3, x4, x5⟩ := at6 HAY4.out
  go_wp2_with (go_at_call 19; fail)
  obtain ⟨c4, hc4⟩ : ∃ cw, m4.alloc (.cells #[.int .i64 y.k, .int .u64 (y.s.a.toNat : Int), .int .u64 (y.s.b.toNat : Int), .int .u64 (y.s.c.toNat : Int), .int .u64 (y.s.d.toNat : Int), .slice y.A y.n y.c] 30) = cw := ⟨_, rfl⟩
  have hba : Below m4.heap.size m4 c4 := by rw [← hc4]; exact (Below.refl _ _).alloc (Nat.le_refl _) _
  rw [hc4]
  refine (HY.out S y c4 (HIY4.out.below hba)).mono ?_
  rintro e m5 ⟨rfl, hbb⟩
  have hbc := hba.trans (hbb.mono hba.size)
  have HB5 := keepHid (HB4.out.trans (hbc.mono HB4.out.size))
  clear hba hbb hbc hc4 x0 x1 x2 x3 x4 x5
  go_wp2_with fail
  rw [rounds_succ]
  go_wp2
  go_ret
  exact ⟨rfl, HB5.out⟩
set_option maxRecDepth 100000 in
set_option maxHeartbeats 1000000 in
theorem right_alt (g c : Nat) (S : Nat → Prop) (x : Hd) (a : Re) (y : Hd) (b : Re) (w : World) (hX : RightSpec a) (hc : 2 ≤ c) (ax : AtHd w g 0 x) (ix : IsS w S x a) (hY : RightSpec b) (ay : AtHd w g 6 y) (iy : IsS w S y b) :
    Calls Tryd.prog 19 #[.agg #[.int .i64 3, .int .u64 0, .int .u64 0, .int .u64 0, .int .u64 0, .slice (some ⟨g, 0, none⟩) 2 c]] w fun e w' => e = .returned (.bool true) ∧ Below w.heap.size w w' := by
  obtain ⟨w0, hw0⟩ : ∃ w0, w.alloc (.cells #[.int .i64 3, .int .u64 0, .int .u64 0, .int .u64 0, .int .u64 0, .slice (some ⟨g, 0, none⟩) 2 c] 30) = w0 := ⟨_, rfl⟩
  obtain ⟨m1, m2, m3, r1, r2, r3, rl, hb03⟩ := kinds_map 3 (by omega) w0
  have hwant : wantK 3 = 2 := by decide
  rw [hwant] at rl
  replace rl : (Instr.lookup 70 (.map (some w0.heap.size)) (.int .i64 3) false).run Tryd.prog m3 = .ok (.int .i64 2) m3 := rl
  have hmm := @run_makeMap Tryd.prog
  have hb00 : Below w.heap.size w w0 := by rw [← hw0]; exact (Below.refl _ _).alloc (Nat.le_refl _) _
  have hk0 : Blk w0 w.heap.size 30 #[.int .i64 3, .int .u64 0, .int .u64 0, .int .u64 0, .int .u64 0, .slice (some ⟨g, 0, none⟩) 2 c] := by rw [← hw0]; exact Blk.new _ _ _
  have hk3 := hk0.below hb03 hk0.lt
  have hb3 := hb00.trans (hb03.mono hb00.size)
  have HB3 := keepHid hb3
  have HK3 := keepHid hk3
  have hne := neq_zeros
  obtain ⟨k0, k1, k2, k3, k4, k5, kf⟩ := blk6 hk3
  have HX := keepHid hX
  have HAX3 := keepHid (ax.keep (hb3.block g ax.lt))
  have HIX3 := keepHid (ix.below hb3)
  have hc' : (2 : Int) ≤ (c : Int) := by omega
  have HY := keepHid hY
  have HAY3 := keepHid (ay.keep (hb3.block g ay.lt))
  have HIY3 := keepHid (iy.below hb3)
  clear hb00 hb03 hb3 hk0 hk3 hwant ax ix hX ay iy hY
  go_enter Tryd.func19, Tryd.ntmps19
  go_wp2_with fail
  clear hw0 r1 r2 r3 rl hmm
  refine wp_loop_rounds 3 ?_
  rw [rounds_succ]
  obtain ⟨x0, x1, x2, x3, x4, x5⟩ := at0 HAX3.out
  go_wp2_with (go_at_call 19; fail)
  obtain ⟨c3, hc3⟩ : ∃ cw, m3.alloc (.cells #[.int .i64 x.k, .int .u64 (x.s.a.toNat : Int), .int .u64 (x.s.b.toNat : Int), .int .u64 (x.s.c.toNat : Int), .int .u64 (x.s.d.toNat : Int), .slice x.A x.n x.c] 30) = cw := ⟨_, rfl⟩
  have hba : Below m3.heap.size m3 c3 := by rw [← hc3]; exact (Below.refl _ _).alloc (Nat.le_refl _) _
  rw [hc3]
  refine (HX.out S x c3 (HIX3.out.below hba)).mono ?_
  rintro e m4 ⟨rfl, hbb⟩
  have hbc := hba.trans (hbb.mono hba.size)
  have HB4 := keepHid (HB3.out.trans (hbc.mono HB3.out.size))
  have HAY4 := keepHid (HAY3.out.keep (hbc.block g HAY3.out.lt))
  have HIY4 := keepHid (HIY3.out.below hbc)
  clear hba hbb hbc hc3 x0 x1 x2 x3 x4 x5 k0 k1 k2 k3 k4 k5 kf
  go_wp2_with fail
  rw [rounds_succ]
  obtain ⟨x0, x1, x2, x3, x4, x5⟩ := at6 HAY4.out
  go_wp2_with (go_at_call 19; fail)
  obtain ⟨c4, hc4⟩ : ∃ cw, m4.alloc (.cells #[.int .i64 y.k, .int .u64 (y.s.a.toNat : Int), .int .u64 (y.s.b.toNat : Int), .int .u64 (y.s.c.toNat : Int), .int .u64 (y.s.d.toNat : Int), .slice y.A y.n y.c] 30) = cw := ⟨_, rfl⟩
  have hba : Below m4.heap.size m4 c4 := by rw [← hc4]; exact (Below.refl _ _).alloc (Nat.le_refl _) _
  rw [hc4]
  refine (HY.out S y c4 (HIY4.out.below hba)).mono ?_
  rintro e m5 ⟨rfl, hbb⟩
  have hbc := hba.trans (hbb.mono hba.size)
  have HB5 := keepHid (HB4.out.trans (hbc.mono HB4.out.size))
  clear hba hbb hbc hc4 x0 x1 x2 x3 x4 x5
  go_wp2_with fail
  rw [rounds_succ]
  go_wp2
  go_ret
  exact ⟨rfl, HB5.out⟩

theorem right_any : ∀ r : Re, RightSpec r
  | .nil => fun S h w hi => by
    obtain rfl : h = hd0 := hi
    exact right_nil w
  | .one s => fun S h w hi => by
    obtain rfl : h = ⟨1, s, none, 0, 0⟩ := hi
    exact right_one s.a.toNat s.b.toNat s.c.toNat s.d.toNat w
  | .star a => fun S h w hi => by
    obtain ⟨g, c, x, rfl, h1, h2, hl, ax, ix⟩ := hi
    exact right_star g c S x a w (right_any a) h1 ax ix
  | .thn a b => fun S h w hi => by
    obtain ⟨g, c, x, y, rfl, h1, h2, hl, ax, ay, ix, iy⟩ := hi
    exact right_thn g c S x a y b w (right_any a) h1 ax ix (right_any b) ay iy
  | .alt a b => fun S h w hi => by
    obtain ⟨g, c, x, y, rfl, h1, h2, hl, ax, ay, ix, iy⟩ := hi
    exact right_alt g c S x a y b w (right_any a) h1 ax ix (right_any b) ay iy
end Go.Proofs.YtjceaojffdaihaaDoor
