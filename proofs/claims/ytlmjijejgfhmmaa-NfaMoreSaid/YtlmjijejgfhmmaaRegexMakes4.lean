/-
  The statements' own build: patterns that numbers make.
-/
import Derived.Test.YtlmjijejgfhmmaaRegexMakes
import Derived.Test.YtlmjijejgfhmmaaRegexParse
import Derived.WalkKit
import Derived.OwnWalk
import Derived.ProofKit
import Derived.WalkLawsBesides
import Derived.IntWalk
import Derived.RegionTactic
import Derived.BigRegion
import Derived.ChangeAlike
import Derived.Deep.QuietTactic
import Derived.BigQuiet
import Derived.Deep.RegionHeld3
import Derived.Deep.DrawnRows
import Derived.Outline
import Derived.Deep.DeepCutAuto
import Derived.Deep.DeepCutAuto
namespace Go.Proofs.Ytlmjijejgfhmmaa
open Go.RowKit
set_option linter.unusedVariables false




theorem fin_two {w w1 w5 : World} (hb1 : Below w.heap.size w w1) (h15 : Below w1.heap.size w1 w5) (hl : w.heap.size < w5.heap.size) (cs cs2 : Array Value) (u0 u1 u2 u3 u4 u5 : Value) :
    Below w.heap.size w (((((((((w5.setCell ⟨w.heap.size, 0, none⟩ u0).setCell ⟨w.heap.size, 1, none⟩ u1).setCell ⟨w.heap.size, 2, none⟩ u2).setCell ⟨w.heap.size, 3, none⟩ u3).setCell ⟨w.heap.size, 4, none⟩ u4).setCell ⟨w.heap.size, 5, none⟩ u5).alloc (.cells cs 30)).alloc (.cells cs2 30)).drew) ∧
    (∀ j, j ≠ w.heap.size → j < w5.heap.size → (((((((((w5.setCell ⟨w.heap.size, 0, none⟩ u0).setCell ⟨w.heap.size, 1, none⟩ u1).setCell ⟨w.heap.size, 2, none⟩ u2).setCell ⟨w.heap.size, 3, none⟩ u3).setCell ⟨w.heap.size, 4, none⟩ u4).setCell ⟨w.heap.size, 5, none⟩ u5).alloc (.cells cs 30)).alloc (.cells cs2 30)).drew).heap[j]? = w5.heap[j]?) ∧
    Blk (((((((((w5.setCell ⟨w.heap.size, 0, none⟩ u0).setCell ⟨w.heap.size, 1, none⟩ u1).setCell ⟨w.heap.size, 2, none⟩ u2).setCell ⟨w.heap.size, 3, none⟩ u3).setCell ⟨w.heap.size, 4, none⟩ u4).setCell ⟨w.heap.size, 5, none⟩ u5).alloc (.cells cs 30)).alloc (.cells cs2 30)).drew) w5.heap.size 30 cs ∧ Blk (((((((((w5.setCell ⟨w.heap.size, 0, none⟩ u0).setCell ⟨w.heap.size, 1, none⟩ u1).setCell ⟨w.heap.size, 2, none⟩ u2).setCell ⟨w.heap.size, 3, none⟩ u3).setCell ⟨w.heap.size, 4, none⟩ u4).setCell ⟨w.heap.size, 5, none⟩ u5).alloc (.cells cs 30)).alloc (.cells cs2 30)).drew) (w5.heap.size + 1) 30 cs2 := by
  have hs : ((((((w5.setCell ⟨w.heap.size, 0, none⟩ u0).setCell ⟨w.heap.size, 1, none⟩ u1).setCell ⟨w.heap.size, 2, none⟩ u2).setCell ⟨w.heap.size, 3, none⟩ u3).setCell ⟨w.heap.size, 4, none⟩ u4).setCell ⟨w.heap.size, 5, none⟩ u5).heap.size = w5.heap.size := by simp
  have hb6 := below_six (hb1.trans (h15.mono hb1.size)) (Nat.le_refl _) u0 u1 u2 u3 u4 u5
  have hf : ∀ j, j ≠ w.heap.size → ((((((w5.setCell ⟨w.heap.size, 0, none⟩ u0).setCell ⟨w.heap.size, 1, none⟩ u1).setCell ⟨w.heap.size, 2, none⟩ u2).setCell ⟨w.heap.size, 3, none⟩ u3).setCell ⟨w.heap.size, 4, none⟩ u4).setCell ⟨w.heap.size, 5, none⟩ u5).heap[j]? = w5.heap[j]? := fun j h => six_far h
  generalize ((((((w5.setCell ⟨w.heap.size, 0, none⟩ u0).setCell ⟨w.heap.size, 1, none⟩ u1).setCell ⟨w.heap.size, 2, none⟩ u2).setCell ⟨w.heap.size, 3, none⟩ u3).setCell ⟨w.heap.size, 4, none⟩ u4).setCell ⟨w.heap.size, 5, none⟩ u5) = W6 at hs hb6 hf ⊢
  have e1 : (W6.alloc (.cells cs 30)).heap.size = w5.heap.size + 1 := by rw [World.size_alloc, hs]
  refine ⟨((hb6.alloc hb6.size _).alloc (by rw [e1]; have := hb6.size; omega) _).drew, fun j h1 h2 => ?_, ((Blk.new_at _ _ _ _ hs.symm).alloc _).drew, (Blk.new_at _ _ _ _ e1.symm).drew⟩
  show (World.alloc _ _).heap[j]? = _
  rw [Below.heap_alloc _ _ _ (by rw [e1]; omega), Below.heap_alloc _ _ _ (by rw [hs]; exact h2), hf j h1]
set_option maxRecDepth 100000 in
set_option maxHeartbeats 2000000 in
theorem build_plus (B d : Nat) (hd : d ≤ 2) (H : BuildSpec d) (A : Option Addr) (n c : Nat) (ns : List UInt8) (w : World) (hB : B ≤ w.heap.size) (hy : Bys w B A n ns) (hn : 1 ≤ n) (hnc : n ≤ c) (hcm : c ≤ 9223372036854775807) (x0 : UInt8) (h0 : ns[0]? = some x0) (hj : x0.toNat % 9 = 6) :
    Calls Try.prog 21 #[.slice A n c, .int .i64 ((d : Int) + 1)] w (BuildPost B (d + 1) ns w) := by
  obtain ⟨w1, hw1⟩ : ∃ w1, w.alloc (.cells #[.int .i64 0, .int .u64 0, .int .u64 0, .int .u64 0, .int .u64 0, .slice none 0 0] 30) = w1 := ⟨_, rfl⟩
  have HZ1 := keepHid (node_new hw1)
  have HL1 : Hid (w.heap.size < w1.heap.size) := keepHid (by rw [← hw1]; simp)
  have hb1 : Below w.heap.size w w1 := by rw [← hw1]; exact (Below.refl _ _).alloc (Nat.le_refl _) _
  have HB1 := keepHid hb1
  have HY := keepHid hy
  have HLN := keepHid hy.len
  obtain ⟨ad, x, rfl, had, hx, hcell⟩ := hy.at_ (k := 0) (by omega)
  have hca : w1.cell? ad = some (.int .u8 (x.toNat : Int)) := by
    have h0 : ad.add 0 = ad := by unfold Addr.add; simp
    have := (hb1.cell (show (ad.add 0).block < w.heap.size by rw [ad_block]; omega)).trans hcell
    rwa [h0] at this
  obtain ⟨ns', hns⟩ : ∃ ns', ns = x :: ns' := by
    cases ns with
    | nil => simp at hx
    | cons a r => simp at hx; subst hx; exact ⟨r, rfl⟩
  subst hns
  have hsl := run_tail1 (some ad) n c hn hnc
  obtain ⟨A2, hA2⟩ : ∃ A2, (if c = 1 then some ad else (some ad).map (·.add 1)) = A2 := ⟨_, rfl⟩
  rw [hA2] at hsl
  have HB0 := keepHid hB
  have HY2 : Hid (Bys w B A2 (n - 1) ns') := keepHid (by
    have := hy.cut hn hnc
    rw [hA2] at this
    exact this)
  obtain ⟨n2, hn2⟩ : ∃ n2, n - 1 = n2 := ⟨_, rfl⟩
  obtain ⟨c2, hc2⟩ : ∃ c2, c - 1 = c2 := ⟨_, rfl⟩
  rw [hn2, hc2] at hsl
  rw [hn2] at HY2
  have HNC2 : Hid (n2 ≤ c2) := keepHid (by omega)
  have HCM2 : Hid (c2 ≤ 9223372036854775807) := keepHid (by omega)
  obtain ⟨y, hyx⟩ : ∃ y, x.toNat = y := ⟨_, rfl⟩
  have hy256 : y < 256 := by rw [← hyx]; exact u8lt x
  rw [hyx] at hca
  have hn' : (1 : Int) ≤ (n : Int) := by omega
  have hn'' : ((n : Int) == 0) = false := by simp; omega
  obtain rfl : x0 = x := by simpa using h0.symm
  have HE : Hid (bldL (d + 1) (x0 :: ns') = ([40] ++ (bldL d ns').1 ++ [41, 43], .thn (bldL d ns').2.1 (.star (bldL d ns').2.1), (bldL d ns').2.2)) := keepHid (by rw [bldL, if_neg (by omega), if_neg (by omega), if_neg (by omega), if_neg (by omega), if_pos hj])
  have hl1 := bld_len d ns'
  have hM : bldM d ≤ 43 := by rcases (by omega : d = 0 ∨ d = 1 ∨ d = 2) with rfl | rfl | rfl <;> decide
  have HR1 := keepHid (H B A2 n2 c2 ns')
  have a1 : ∀ w, (Op.stringOp .add ⟨#[40]⟩ (strB (bldL d ns').1)).run Try.prog w = .ok (.string (strB ([40] ++ (bldL d ns').1))) w := fun w => run_strAdd [40] _ (by simp; omega) w
  have a2 : ∀ w, (Op.stringOp .add (strB ([40] ++ (bldL d ns').1)) ⟨#[41, 43]⟩).run Try.prog w = .ok (.string (strB ([40] ++ (bldL d ns').1 ++ [41, 43]))) w := fun w => run_strAdd _ [41, 43] (by simp; omega) w
  rw [hyx] at hj
  have e1 : (y : Int) % 9 = 6 := by omega
  clear hy hb1 hx hcell had hA2 hn2 hc2 hyx hl1 hM H h0 hj
  go_enter Try.func21, Try.ntmps21
  go_wp2_with fail
  refine (HR1.out w1 (Nat.le_trans HB0.out HB1.out.size) (HY2.out.below (HB1.out.mono HB0.out)) HNC2.out HCM2.out).mono ?_
  rintro e w2 ⟨h1, A3, n3, c3, rfl, hi1, hy3, hnc3, hcm3, hb2⟩
  clear hw1 hca hsl
  obtain ⟨w5, hw5⟩ : ∃ w5, w2.alloc (.cells (hdC h1) 30) = w5 := ⟨_, rfl⟩
  have hb23 : Below w2.heap.size w2 w5 := by rw [← hw5]; exact (Below.refl _ _).alloc (Nat.le_refl _) _
  have hn5 : Blk w5 w2.heap.size 30 (hdC h1) := by rw [← hw5]; exact Blk.new _ _ _
  have hz5 := (HZ1.out.below hb2 HZ1.out.lt).below hb23 (HZ1.out.below hb2 HZ1.out.lt).lt
  have HB5 := keepHid (hb2.trans (hb23.mono hb2.size))
  have HI5 := keepHid (hi1.below hb23)
  have HY5 := keepHid (hy3.below (hb23.mono (by have := HB0.out; have := HL1.out; have := hb2.size; omega)))
  have HS5 : Hid (w1.heap.size ≤ w5.heap.size) := keepHid HB5.out.size
  obtain ⟨q2, hq2⟩ : ∃ q, w2.heap.size = q := ⟨_, rfl⟩
  rw [hq2] at hn5
  clear hi1 hy3 hb2 hb23 HR1
  unfold hdV
  unfold hdC at hw5
  go_upto_region 27 with fail
  try rw [hw5]
  try rw [hq2]
  clear hw5 hq2
  obtain ⟨k0, k1, k2, k3, k4, k5, kf⟩ := blk6 hn5
  obtain ⟨z0, z1, z2, z3, z4, z5, zf⟩ := blk6 hz5
  have hlt5 : w.heap.size < w5.heap.size := hz5.lt
  have hq5 : q2 < w5.heap.size := hn5.lt
  clear hn5 hz5
  generalize strB (bldL d ns').1 = S1 at *
  generalize strB ([40] ++ (bldL d ns').1) = S3 at *
  obtain ⟨S6, hS6⟩ : ∃ S, strB ([40] ++ (bldL d ns').1 ++ [41, 43]) = S := ⟨_, rfl⟩
  rw [hS6] at a2
  have HS6 := keepHid hS6
  clear hS6
  go_region
  all_goals
    go_wp2
    obtain ⟨f1, f2, f3, f4⟩ := fin_two HB1.out HB5.out hlt5 #[.int .i64 h1.k, .int .u64 (h1.s.a.toNat : Int), .int .u64 (h1.s.b.toNat : Int), .int .u64 (h1.s.c.toNat : Int), .int .u64 (h1.s.d.toNat : Int), .slice h1.A h1.n h1.c] #[.int .i64 h1.k, .int .u64 (h1.s.a.toNat : Int), .int .u64 (h1.s.b.toNat : Int), .int .u64 (h1.s.c.toNat : Int), .int .u64 (h1.s.d.toNat : Int), .slice h1.A h1.n h1.c, .int .i64 4, .int .u64 0, .int .u64 0, .int .u64 0, .int .u64 0, .slice (some ⟨w5.heap.size, 0, none⟩) 1 1] (.int .i64 2) (.int .u64 0) (.int .u64 0) (.int .u64 0) (.int .u64 0) (.slice (some ⟨w5.heap.size + 1, 0, none⟩) 2 2)
    have hlo := HL1.out
    have hs5 := HS5.out
    refine ⟨by rfl, .tuple #[.string S6, hdV ⟨2, st0, some ⟨w5.heap.size + 1, 0, none⟩, 2, 2⟩, .slice A3 n3 c3], by rw [results_tct rfl]; go_simp; rfl, build_post HE.out HS6.out ?_ ?_ hnc3 hcm3 f1⟩
    · refine ⟨w5.heap.size + 1, 2, h1, ⟨4, st0, some ⟨w5.heap.size, 0, none⟩, 1, 1⟩, rfl, Nat.le_refl _, by unfold maxLen; omega, by show w.heap.size ≤ _; omega, (blk_at1 (h := h1) (k := ⟨4, st0, some ⟨w5.heap.size, 0, none⟩, 1, 1⟩) f4).1, (blk_at1 (h := h1) (k := ⟨4, st0, some ⟨w5.heap.size, 0, none⟩, 1, 1⟩) f4).2, ?_, w5.heap.size, 1, h1, rfl, Nat.le_refl _, by unfold maxLen; omega, Nat.le_of_lt hlt5, blk_at f3, ?_⟩
      · exact HI5.out.move (fun b hb hl => f2 b (by have : w1.heap.size ≤ b := hb; omega) hl) (fun b hb _ => by have : w1.heap.size ≤ b := hb; show w.heap.size ≤ b; omega)
      · exact HI5.out.move (fun b hb hl => f2 b (by have : w1.heap.size ≤ b := hb; omega) hl) (fun b hb _ => by have : w1.heap.size ≤ b := hb; show w.heap.size ≤ b; omega)
    · exact HY5.out.keep fun p hp => World.cell?_of_block (f2 p.block (by have := HB0.out; omega) (by have := HB0.out; omega))
end Go.Proofs.Ytlmjijejgfhmmaa
