/-
  What the statements' own 'awake' answers.
-/
import Derived.Test.YtjceaojffdaihaaDoorRegexParse
import Derived.WalkKit
import Derived.ProofKit
import Derived.WalkLawsBesides
import Derived.IntWalk
import Derived.RegionTactic
import Derived.BigRegion
import Derived.ChangeAlike
import Derived.Deep.QuietTactic
import Derived.BigQuiet
import Derived.Deep.RegionHeld3
import Derived.Deep.DrawnRows
import Derived.Outline
import Derived.Deep.DeepCutAuto
namespace Go.Proofs.YtjceaojffdaihaaDoor
open Go.RowKit
set_option linter.unusedVariables false

theorem pat1 : parseF [97, 124, 98, 42] = (some (.alt (.one (withS st0 97)) (.star (.one (withS st0 98)))), 4) := by decide +kernel
theorem pat2 : parseF [97, 41] = (none, 1) := by decide +kernel
theorem hdV_st0 (k : Int) (A : Option Addr) (n c : Nat) : hdV ⟨k, st0, A, n, c⟩ = .agg #[.int .i64 k, .int .u64 0, .int .u64 0, .int .u64 0, .int .u64 0, .slice A n c] := rfl
theorem hdV_hd0 : hdV hd0 = .agg #[.int .i64 0, .int .u64 0, .int .u64 0, .int .u64 0, .int .u64 0, .slice none 0 0] := rfl
theorem parse_pat {bs : List UInt8} {r : Re} {w w' : World} {e : Ending} (hf : parseF bs = (some r, bs.length)) (p : ParsePost bs w e w') (hl : bs.length ≤ 64) :
    ∃ h, e = .returned (.tuple #[hdV h, .nilIface]) ∧ IsRe w' w.heap.size h r ∧ Below w.heap.size w w' := by
  obtain ⟨hb, ⟨h1, _⟩ | ⟨_, ⟨r', h, h2, h3, h4⟩ | ⟨q, h2, _⟩⟩⟩ := p
  · omega
  · rw [hf] at h2
    injection h2 with h2
    injection h2 with h2
    subst h2
    exact ⟨h, h3, h4, hb⟩
  · rw [hf] at h2
    injection h2 with h2
    cases h2
theorem parse_bad {bs : List UInt8} {q : Nat} {w w' : World} {e : Ending} (hf : parseF bs = (none, q)) (p : ParsePost bs w e w') (hl : bs.length ≤ 64) :
    e = .returned (.tuple #[hdV hd0, faultV 8 (q : Int)]) ∧ Below w.heap.size w w' := by
  obtain ⟨hb, ⟨h1, _⟩ | ⟨_, ⟨r', h, h2, h3, h4⟩ | ⟨q', h2, h3⟩⟩⟩ := p
  · omega
  · rw [hf] at h2
    injection h2 with h2
    cases h2
  · rw [hf] at h2
    injection h2 with _ h2
    subst h2
    exact ⟨h3, hb⟩
set_option maxHeartbeats 1000000 in
theorem awake_any (w : World) (hT : ErrT w) : Calls Tryd.prog 8 #[] w fun e w' => e = .returned (.bool true) ∧ Below w.heap.size w w' := by
  have HT := keepHid hT
  have H1 := keepHid (parse_any [97, 124, 98, 42] w)
  clear hT
  go_enter Tryd.func8, Tryd.ntmps8
  go_wp2_with fail
  refine H1.out.mono ?_
  rintro e w1 hp
  obtain ⟨h, rfl, ⟨g, c, x, y, rfl, hc, hcm, hg, hx, hy, hix, hiy⟩, hb1⟩ := parse_pat pat1 hp (by decide)
  obtain rfl : x = ⟨1, withS st0 97, none, 0, 0⟩ := hix
  obtain ⟨g2, c2, x2, rfl, _, _, _, _, _⟩ := hiy
  have HX1 := keepHid hx
  have HY1 := keepHid hy
  have HB1 := keepHid hb1
  have HT1 := keepHid (HT.out.below hb1 HT.out.pos)
  have hc' : (2 : Int) ≤ (c : Int) := by omega
  obtain ⟨w2, hw2⟩ : ∃ w2, w1.alloc (.cells #[.int .i64 3, .int .u64 0, .int .u64 0, .int .u64 0, .int .u64 0, .slice (some ⟨g, 0, none⟩) 2 c] 30) = w2 := ⟨_, rfl⟩
  have HW2 := keepHid hw2
  have hb12 : Below w1.heap.size w1 w2 := by rw [← hw2]; exact (Below.refl _ _).alloc (Nat.le_refl _) _
  have HK2 : Hid (Blk w2 w1.heap.size 30 #[.int .i64 3, .int .u64 0, .int .u64 0, .int .u64 0, .int .u64 0, .slice (some ⟨g, 0, none⟩) 2 c]) := keepHid (by rw [← hw2]; exact Blk.new _ _ _)
  have HX2 := keepHid (HX1.out.keep (hb12.block g HX1.out.lt))
  have HY2 := keepHid (HY1.out.keep (hb12.block g HX1.out.lt))
  have HB2 := keepHid (HB1.out.trans (hb12.mono HB1.out.size))
  have HT2 := keepHid (HT1.out.below hb12 HT1.out.pos)
  have H2 := keepHid (parse_any [97, 41] w2)
  clear hp hx hy hb1 hb12 hw2 hg
  rw [hdV_st0]
  go_wp2_with fail
  rw [HW2.out]
  refine H2.out.mono ?_
  rintro e w3 hp
  obtain ⟨rfl, hb3⟩ := parse_bad pat2 hp (by decide)
  obtain ⟨w4, hw4⟩ : ∃ w4, w3.alloc (.cells #[.int .i64 0, .int .u64 0, .int .u64 0, .int .u64 0, .int .u64 0, .slice none 0 0] 30) = w4 := ⟨_, rfl⟩
  have hb34 : Below w3.heap.size w3 w4 := by rw [← hw4]; exact (Below.refl _ _).alloc (Nat.le_refl _) _
  have hb24 : Below w2.heap.size w2 w4 := hb3.trans (hb34.mono hb3.size)
  have HB4 := keepHid (HB2.out.trans (hb24.mono HB2.out.size))
  have HT4 := keepHid (HT2.out.below hb24 HT2.out.pos)
  have hk4 := HK2.out.below hb24 HK2.out.lt
  have hx4 := HX2.out.keep (hb24.block g HX2.out.lt)
  have hy4 := HY2.out.keep (hb24.block g HX2.out.lt)
  have HXX := keepHid hx4
  have HYY := keepHid hy4
  have HKK := keepHid hk4
  obtain ⟨k0, k1, k2, k3, k4, k5, kf⟩ := blk6 hk4
  obtain ⟨x0, x1, x2, x3, x4, x5⟩ := at0 hx4
  obtain ⟨y0, y1, y2, y3, y4, y5⟩ := at6 hy4
  dsimp only at x0 x1 x2 x3 x4 x5 y0
  have HH := keepHid (has_any (withS st0 97) 97 (by decide) w4)
  have hhas : hasS (withS st0 97) 97 = true := by decide +kernel
  rw [hhas] at HH
  unfold stV at HH
  generalize (withS st0 97).a.toNat = sa at *
  generalize (withS st0 97).b.toNat = sb at *
  generalize (withS st0 97).c.toNat = sc at *
  generalize (withS st0 97).d.toNat = sd at *
  have HW4 := keepHid hw4
  clear hw4 hp hb3 hb34 hb24 hk4 hx4 hy4 hhas HX1 HX2 HY1 HY2 HK2 HW2 H1 H2
  rw [hdV_hd0]
  unfold faultV
  go_upto_region 3 with fail
  rw [HW4.out]
  go_wp2_with fail
  refine HH.out.mono ?_
  rintro e w5 ⟨rfl, hb5⟩
  have HB5 := keepHid (HB4.out.trans (hb5.mono HB4.out.size))
  have HT5 := keepHid (HT4.out.below hb5 HT4.out.pos)
  have hx5 := HXX.out.keep (hb5.block g HXX.out.lt)
  have hy5 := HYY.out.keep (hb5.block g HXX.out.lt)
  have hk5 := HKK.out.below hb5 HKK.out.lt
  clear k0 k1 k2 k3 k4 k5 kf x0 x1 x2 x3 x4 x5 y0 y1 y2 y3 y4 y5 hb5
  obtain ⟨k0, k1, k2, k3, k4, k5, kf⟩ := blk6 hk5
  obtain ⟨y0, y1, y2, y3, y4, y5⟩ := at6 hy5
  go_wp2_with fail
  refine (number_any 8 1 w5 HT5.out).mono ?_
  rintro e w6 ⟨rfl, hb6⟩
  have HB6 := keepHid (HB5.out.trans (hb6.mono HB5.out.size))
  have HT6 := keepHid (HT5.out.below hb6 HT5.out.pos)
  go_wp2_with fail
  refine (place_any 8 1 w6 HT6.out).mono ?_
  rintro e w7 ⟨rfl, hb7⟩
  have HB7 := keepHid (HB6.out.trans (hb7.mono HB6.out.size))
  go_wp2
  go_ret
  exact ⟨rfl, HB7.out⟩
end Go.Proofs.YtjceaojffdaihaaDoor
