/-
  The statements' own build: patterns that numbers make.
-/
import Derived.Test.YtlmjijejgfhmmaaRegexMakes
import Derived.Test.YtlmjijejgfhmmaaRegexParse
import Derived.WalkKit
import Derived.OwnWalk
import Derived.ProofKit
import Derived.WalkLawsBesides
import Derived.IntWalk
import Derived.RegionTactic
import Derived.BigRegion
import Derived.ChangeAlike
import Derived.Deep.QuietTactic
import Derived.BigQuiet
import Derived.Deep.RegionHeld3
import Derived.Deep.DrawnRows
import Derived.Outline
import Derived.Deep.DeepCutAuto
import Derived.Deep.DeepCutAuto
namespace Go.Proofs.Ytlmjijejgfhmmaa
open Go.RowKit
set_option linter.unusedVariables false




set_option maxRecDepth 100000 in
set_option maxHeartbeats 2000000 in
theorem build_alt (B d : Nat) (hd : d ≤ 2) (H : BuildSpec d) (A : Option Addr) (n c : Nat) (ns : List UInt8) (w : World) (hB : B ≤ w.heap.size) (hy : Bys w B A n ns) (hn : 1 ≤ n) (hnc : n ≤ c) (hcm : c ≤ 9223372036854775807) (x0 : UInt8) (h0 : ns[0]? = some x0) (hj : 2 ≤ x0.toNat % 9 ∧ x0.toNat % 9 < 4) :
    Calls Try.prog 21 #[.slice A n c, .int .i64 ((d : Int) + 1)] w (BuildPost B (d + 1) ns w) := by
  obtain ⟨w1, hw1⟩ : ∃ w1, w.alloc (.cells #[.int .i64 0, .int .u64 0, .int .u64 0, .int .u64 0, .int .u64 0, .slice none 0 0] 30) = w1 := ⟨_, rfl⟩
  have HZ1 := keepHid (node_new hw1)
  have HL1 : Hid (w.heap.size < w1.heap.size) := keepHid (by rw [← hw1]; simp)
  have hb1 : Below w.heap.size w w1 := by rw [← hw1]; exact (Below.refl _ _).alloc (Nat.le_refl _) _
  have HB1 := keepHid hb1
  have HY := keepHid hy
  have HLN := keepHid hy.len
  obtain ⟨ad, x, rfl, had, hx, hcell⟩ := hy.at_ (k := 0) (by omega)
  have hca : w1.cell? ad = some (.int .u8 (x.toNat : Int)) := by
    have h0 : ad.add 0 = ad := by unfold Addr.add; simp
    have := (hb1.cell (show (ad.add 0).block < w.heap.size by rw [ad_block]; omega)).trans hcell
    rwa [h0] at this
  obtain ⟨ns', hns⟩ : ∃ ns', ns = x :: ns' := by
    cases ns with
    | nil => simp at hx
    | cons a r => simp at hx; subst hx; exact ⟨r, rfl⟩
  subst hns
  have hsl := run_tail1 (some ad) n c hn hnc
  obtain ⟨A2, hA2⟩ : ∃ A2, (if c = 1 then some ad else (some ad).map (·.add 1)) = A2 := ⟨_, rfl⟩
  rw [hA2] at hsl
  have HB0 := keepHid hB
  have HY2 : Hid (Bys w B A2 (n - 1) ns') := keepHid (by
    have := hy.cut hn hnc
    rw [hA2] at this
    exact this)
  obtain ⟨n2, hn2⟩ : ∃ n2, n - 1 = n2 := ⟨_, rfl⟩
  obtain ⟨c2, hc2⟩ : ∃ c2, c - 1 = c2 := ⟨_, rfl⟩
  rw [hn2, hc2] at hsl
  rw [hn2] at HY2
  have HNC2 : Hid (n2 ≤ c2) := keepHid (by omega)
  have HCM2 : Hid (c2 ≤ 9223372036854775807) := keepHid (by omega)
  obtain ⟨y, hyx⟩ : ∃ y, x.toNat = y := ⟨_, rfl⟩
  have hy256 : y < 256 := by rw [← hyx]; exact u8lt x
  rw [hyx] at hca
  have hn' : (1 : Int) ≤ (n : Int) := by omega
  have hn'' : ((n : Int) == 0) = false := by simp; omega
  obtain rfl : x0 = x := by simpa using h0.symm
  have HE : Hid (bldL (d + 1) (x0 :: ns') = ([40] ++ (bldL d ns').1 ++ [124, 40] ++ (bldL d (bldL d ns').2.2).1 ++ [41, 41], .alt (bldL d ns').2.1 (bldL d (bldL d ns').2.2).2.1, (bldL d (bldL d ns').2.2).2.2)) := keepHid (by rw [bldL, if_neg (by omega), if_pos (by omega)])
  have hl1 := bld_len d ns'
  have hl2 := bld_len d (bldL d ns').2.2
  have hM : bldM d ≤ 43 := by rcases (by omega : d = 0 ∨ d = 1 ∨ d = 2) with rfl | rfl | rfl <;> decide
  have HR1 := keepHid (H B A2 n2 c2 ns')
  have HH := keepHid H
  have a1 : ∀ w, (Op.stringOp .add ⟨#[40]⟩ (strB (bldL d ns').1)).run Try.prog w = .ok (.string (strB ([40] ++ (bldL d ns').1))) w := fun w => run_strAdd [40] _ (by simp; omega) w
  have a2 : ∀ w, (Op.stringOp .add (strB ([40] ++ (bldL d ns').1)) ⟨#[124, 40]⟩).run Try.prog w = .ok (.string (strB ([40] ++ (bldL d ns').1 ++ [124, 40]))) w := fun w => run_strAdd _ [124, 40] (by simp; omega) w
  have a3 : ∀ w, (Op.stringOp .add (strB ([40] ++ (bldL d ns').1 ++ [124, 40])) (strB (bldL d (bldL d ns').2.2).1)).run Try.prog w = .ok (.string (strB ([40] ++ (bldL d ns').1 ++ [124, 40] ++ (bldL d (bldL d ns').2.2).1))) w := fun w => run_strAdd _ _ (by simp; omega) w
  have a4 : ∀ w, (Op.stringOp .add (strB ([40] ++ (bldL d ns').1 ++ [124, 40] ++ (bldL d (bldL d ns').2.2).1)) ⟨#[41, 41]⟩).run Try.prog w = .ok (.string (strB ([40] ++ (bldL d ns').1 ++ [124, 40] ++ (bldL d (bldL d ns').2.2).1 ++ [41, 41]))) w := fun w => run_strAdd _ [41, 41] (by simp; omega) w
  rw [hyx] at hj
  have e1 : (y : Int) % 9 = ((y % 9 : Nat) : Int) := by omega
  have HJ : Hid (2 ≤ y % 9 ∧ y % 9 < 4) := keepHid hj
  clear hy hb1 hx hcell had hA2 hn2 hc2 hyx hl1 hl2 hM H h0 hj
  generalize y % 9 = j at *
  have hjj := HJ.out
  rcases (by omega : j = 2 ∨ j = 3) with rfl | rfl
  all_goals
    clear HJ hjj
    go_enter Try.func21, Try.ntmps21
    go_wp2_with fail
    refine (HR1.out w1 (Nat.le_trans HB0.out HB1.out.size) (HY2.out.below (HB1.out.mono HB0.out)) HNC2.out HCM2.out).mono ?_
    rintro e w2 ⟨h1, A3, n3, c3, rfl, hi1, hy3, hnc3, hcm3, hb2⟩
    clear hw1 hca hsl
    have HI1 := keepHid hi1
    have HY3 := keepHid hy3
    have HB2 := keepHid hb2
    have HZ2 := keepHid (HZ1.out.below hb2 HZ1.out.lt)
    obtain ⟨w3, hw3⟩ : ∃ w3, w2.alloc (.cells (hdC h1) 30) = w3 := ⟨_, rfl⟩
    have hb23 : Below w2.heap.size w2 w3 := by rw [← hw3]; exact (Below.refl _ _).alloc (Nat.le_refl _) _
    have HN3 : Hid (Blk w3 w2.heap.size 30 (hdC h1)) := keepHid (by rw [← hw3]; exact Blk.new _ _ _)
    have HB3 := keepHid (hb2.trans (hb23.mono hb2.size))
    have HI3 := keepHid (hi1.below hb23)
    have HZ3 := keepHid (HZ2.out.below hb23 HZ2.out.lt)
    have HR2 := keepHid (HH.out B A3 n3 c3 _ w3 (by have := HB0.out; have := HB3.out.size; have := HL1.out; omega) (hy3.below (hb23.mono (by have := HB0.out; have := HL1.out; have := hb2.size; omega))) hnc3 hcm3)
    clear hi1 hy3 hb2 hb23
    unfold hdV
    unfold hdC at hw3
    go_wp2_with fail
    refine HR2.out.mono ?_
    rintro e w4 ⟨h2, A4, n4, c4, rfl, hi2, hy4, hnc4, hcm4, hb4⟩
    clear hw3
    obtain ⟨q2, hq2⟩ : ∃ q, w2.heap.size = q := ⟨_, rfl⟩
    have HQ2 := keepHid hq2
    rw [hq2] at HN3
    have hs12 := HB3.out.size
    have hs34 := hb4.size
    have hs1 := HL1.out
    obtain ⟨w5, hw5⟩ : ∃ w5, w4.alloc (.cells (hdC h2) 30) = w5 := ⟨_, rfl⟩
    have hb45 : Below w4.heap.size w4 w5 := by rw [← hw5]; exact (Below.refl _ _).alloc (Nat.le_refl _) _
    have hm5 : Blk w5 w4.heap.size 30 (hdC h2) := by rw [← hw5]; exact Blk.new _ _ _
    have hb35 := hb4.trans (hb45.mono hb4.size)
    have hn5 := HN3.out.below hb35 HN3.out.lt
    have hz5 := HZ3.out.below hb35 HZ3.out.lt
    have HB5 := keepHid (HB3.out.trans (hb35.mono HB3.out.size))
    have HI5 := keepHid (HI3.out.below hb35)
    have HJ5 := keepHid ((hi2.below hb45).low (HB3.out.size))
    have HY5 := keepHid (hy4.below (hb45.mono (by have := HB0.out; omega)))
    have HNC5 := keepHid hnc4
    have HCM5 := keepHid hcm4
    have HS5 : Hid (w1.heap.size ≤ w5.heap.size) := keepHid HB5.out.size
    obtain ⟨q4, hq4⟩ : ∃ q, w4.heap.size = q := ⟨_, rfl⟩
    rw [hq4] at hm5
    clear hi2 hy4 hb4 hb45 hb35 HR1 HR2 HI1 HY3 HB2 HZ2 HN3 HI3 HZ3 HB3
    unfold hdV
    unfold hdC at hw5
    go_upto_region 18 with fail
    try rw [hw5]
    try rw [hq2]
    try rw [hq4]
    clear hw5 hq2 hq4
    obtain ⟨k0, k1, k2, k3, k4, k5, kf⟩ := blk6 hn5
    obtain ⟨l0, l1, l2, l3, l4, l5, lf⟩ := blk6 hm5
    obtain ⟨z0, z1, z2, z3, z4, z5, zf⟩ := blk6 hz5
    have hlt5 : w.heap.size < w5.heap.size := hz5.lt
    clear hn5 hm5 hz5 hs12 hs34 hs1
    generalize strB (bldL d ns').1 = S1 at *
    generalize strB (bldL d (bldL d ns').2.2).1 = S2 at *
    generalize strB ([40] ++ (bldL d ns').1) = S3 at *
    generalize strB ([40] ++ (bldL d ns').1 ++ [124, 40]) = S4 at *
    generalize strB ([40] ++ (bldL d ns').1 ++ [124, 40] ++ (bldL d (bldL d ns').2.2).1) = S5 at *
    obtain ⟨S6, hS6⟩ : ∃ S, strB ([40] ++ (bldL d ns').1 ++ [124, 40] ++ (bldL d (bldL d ns').2.2).1 ++ [41, 41]) = S := ⟨_, rfl⟩
    rw [hS6] at a4
    have HS6 := keepHid hS6
    clear hS6
    go_region
    all_goals
      go_wp2
      obtain ⟨f1, f2, f3⟩ := fin_one HB1.out HB5.out hlt5 #[.int .i64 h1.k, .int .u64 (h1.s.a.toNat : Int), .int .u64 (h1.s.b.toNat : Int), .int .u64 (h1.s.c.toNat : Int), .int .u64 (h1.s.d.toNat : Int), .slice h1.A h1.n h1.c, .int .i64 h2.k, .int .u64 (h2.s.a.toNat : Int), .int .u64 (h2.s.b.toNat : Int), .int .u64 (h2.s.c.toNat : Int), .int .u64 (h2.s.d.toNat : Int), .slice h2.A h2.n h2.c] (.int .i64 3) (.int .u64 0) (.int .u64 0) (.int .u64 0) (.int .u64 0) (.slice (some ⟨w5.heap.size, 0, none⟩) 2 2)
      have hlo := HL1.out
      have hs5 := HS5.out
      refine ⟨by rfl, .tuple #[.string S6, hdV ⟨3, st0, some ⟨w5.heap.size, 0, none⟩, 2, 2⟩, .slice A4 n4 c4], by rw [results_tct rfl]; go_simp; rfl, build_post HE.out HS6.out ?_ ?_ HNC5.out HCM5.out f1⟩
      · refine ⟨w5.heap.size, 2, h1, h2, rfl, Nat.le_refl _, by unfold maxLen; omega, Nat.le_of_lt hlt5, (blk_at1 f3).1, (blk_at1 f3).2, ?_, ?_⟩
        · exact HI5.out.move (fun b hb hl => f2 b (by have : w1.heap.size ≤ b := hb; omega) hl) (fun b hb _ => by have : w1.heap.size ≤ b := hb; show w.heap.size ≤ b; omega)
        · exact HJ5.out.move (fun b hb hl => f2 b (by have : w1.heap.size ≤ b := hb; omega) hl) (fun b hb _ => by have : w1.heap.size ≤ b := hb; show w.heap.size ≤ b; omega)
      · exact HY5.out.keep fun p hp => World.cell?_of_block (f2 p.block (by have := HB0.out; omega) (by have := HB0.out; omega))
end Go.Proofs.Ytlmjijejgfhmmaa
