/-
  'lifelinelaw12.LinkTame' answers true for every input, and leaves its arguments as they were.
  Conditions: none but what the row itself says of its arguments (how much memory each may take).
-/
import Derived.Test.YtjbkhaoddababaaRows
import Derived.Test.YtjbkhaoddababaaRows
import Derived.Test.YtjbkhaoddababaaLinkAwake
import Derived.Test.YtjbkhaoddababaaLinkTamed
import Derived.Test.YtjbkhaoddababaaFrameNoise
import Derived.LoopTactic
import Derived.Deep.DeepCutAuto
import Derived.Deep.RegionWith
import Derived.Deep.RegionHeld3
import Derived.Deep.DrawnRows
import Derived.Lib.QuietBelow
import Derived.Test.YtjbkhaoddababaaFrame
import Derived.WalkKit
import Derived.ProofKit
import Derived.OpenShut
import Derived.ShutString
import Derived.ChangeOld
import Derived.Below
namespace Go.Proofs.Ytjbkhaoddababaa.linkTame
open Go.ChangeShapes Go.WideShapes Go.ChangeAt Go.RowKit
open Go.ChangeMaps (open_string shut_string)
set_option linter.unusedVariables false

theorem own : ownKnob Try.prog.godebug = none := by kernel_rfl
theorem laidOut : laidOutB Try.prog = true := by kernel_rfl

set_option maxRecDepth 100000 in
set_option maxHeartbeats 4000000 in
theorem walk (a0 : Option Addr) (n0 c0 : Nat) (b0 : List UInt8) (x1 : Int) (x2 : Bool) (a3 : Option Addr) (n3 c3 : Nat) (z3 : List Nz) (x4 : Int) (w : World) (h0 : Bys w w.heap.size a0 n0 b0) (l0 : n0 ≤ c0) (s0 : c0 ≤ 140737488351232) (h1 : 0 ≤ x1 ∧ x1 ≤ 255) (h3 : NzS w a3 n3 z3) (l3 : n3 ≤ c3) (s3 : c3 * 24 ≤ 140737488351232) (h4 : 0 ≤ x4 ∧ x4 ≤ 255) :
    Calls Try.prog 5 #[.slice a0 n0 c0, .int .u8 x1, .bool x2, .slice a3 n3 c3, .int .u8 x4] w fun e w' => e = .returned (.bool true) ∧ Below w.heap.size w w' := by
  obtain ⟨m, hm⟩ : ∃ m : Nat, x1 % 5 = (m : Int) := ⟨(x1 % 5).toNat, by omega⟩
  have hm4 : m ≤ 4 := by omega
  obtain ⟨t, ht⟩ : ∃ t : Nat, x4.tmod 3 = (t : Int) ∧ t ≤ 2 := ⟨(x4 % 3).toNat, by rw [Int.tmod_eq_emod_of_nonneg h4.1]; omega⟩
  obtain ⟨ht, ht2⟩ := ht
  obtain ⟨T, hTt⟩ : ∃ T : Nat, T = t + 2 := ⟨_, rfl⟩
  have hT2 : 2 + (t : Int) = (T : Int) := by omega
  have hTc : capZ (T : Int) 9 = T := by unfold capZ; omega
  obtain ⟨bl, hbl⟩ : ∃ bl, blk10 b0 x2 m = bl := ⟨_, rfl⟩
  obtain ⟨p, hp⟩ : ∃ p : LP, (⟨bl, T, 3, true, 2⟩ : LP) = p := ⟨_, rfl⟩
  have hok : LOk p := by rw [← hp, ← hbl]; exact lok_of b0 x2 m hm4 T 3 2 true (by omega)
  have hsl : ∀ q ∈ bl, q.2.length ≤ 1024 := by rw [← hbl]; exact blk10_sized
  have hHY := keepHid h0
  have hHZ := keepHid h3
  obtain ⟨L, hL⟩ : ∃ L, (allB bl).length = L := ⟨_, rfl⟩
  have HRR : Hid (∀ zt, TameN zt T → ∃ R, R = runX p zt 400 (startL p 9) (false, 0, 0) ∧ R.2.2.1 = true ∧ R.2.2.2.1 = 0 ∧ R.2.2.2.2 = 0 ∧ R.1.r.da = allB bl) := keepHid (fun zt h => by
    obtain ⟨h1, h2⟩ := run_tame (p := p) (ns := zt) ⟨hok, by rw [← hp], by rw [← hp], by rw [← hp], by rw [← hp]; show T ≤ 4; omega, by rw [← hp]; exact h⟩ (false, 0, 0)
    exact ⟨_, rfl, by rw [h1], by rw [h1], by rw [h1], by rw [h2, allB_flat, ← hp]⟩)
  have HRS : Hid (∀ w3 Hb G1 GB A c w' (R : Lk × Nat × (Bool × Nat × Nat)), R.2.2.1 = true ∧ R.1.r.da = allB bl → ResAt w3 p Hb G1 R GB A c .nilIface .nilIface w' → Blk w' GB 32 #[.bool true, .nilIface, .nilIface, .slice A L c, .int .i64 (R.2.1 : Int), .int .i64 (R.1.sent : Int)] ∧ Bys w' w'.heap.size A L (allB bl)) := keepHid (fun w3 Hb G1 GB A c w' R hR h => by
    have h1 := h.blk
    have h2 := h.bys
    rw [hR.1, hR.2, hL] at h1
    rw [hR.2, hL] at h2
    exact ⟨h1, h2⟩)
  have HE1 : Hid (∀ w3 Hb G1 G2 A c w' w6 (R : Lk × Nat × (Bool × Nat × Nat)), R.2.2.1 = true ∧ R.1.r.da = allB bl → Talked p w3 Hb G1 G2 R A c w' w6 → ResAt w3 p Hb G1 R w6.heap.size A c .nilIface .nilIface (w6.alloc (.cells #[.bool true, .nilIface, .nilIface, .slice A L c, .int .i64 (R.2.1 : Int), .int .i64 (R.1.sent : Int)] 32))) := keepHid (fun w3 Hb G1 G2 A c w' w6 R hR h => by
    have h1 := ResAt.of_new h .nilIface .nilIface _ rfl
    rw [hR.1, hR.2, hL] at h1
    exact h1)
  have HE2 : Hid (∀ w3 Hb G1 G2 A c w' w6 g (R : Lk × Nat × (Bool × Nat × Nat)), R.2.2.1 = true ∧ R.1.r.da = allB bl → Talked p w3 Hb G1 G2 R A c w' w6 → (ZeroB w6 g ∧ ∀ ad, A = some ad → ad.block ≠ g) → w3.heap.size ≤ g → ResAt w3 p Hb G1 R g A c .nilIface .nilIface ((((((w6.setCell ⟨g, 0, none⟩ (.bool true)).setCell ⟨g, 1, none⟩ .nilIface).setCell ⟨g, 2, none⟩ .nilIface).setCell ⟨g, 3, none⟩ (.slice A L c)).setCell ⟨g, 4, none⟩ (.int .i64 (R.2.1 : Int))).setCell ⟨g, 5, none⟩ (.int .i64 (R.1.sent : Int)))) := keepHid (fun w3 Hb G1 G2 A c w' w6 g R hR h hz hg => by
    have h1 := ResAt.of_old h hz.1 hz.2 hg .nilIface .nilIface
    rw [hR.1, hR.2, hL] at h1
    exact h1)
  have HSOF : Hid (∀ w' g, BlkS w' (some ⟨g, 0, none⟩) m bl → Calls Try.prog 11 #[.agg #[.int .i64 (T : Int), .int .i64 3], .slice (some ⟨g, 0, none⟩) m m, .bool true, .bool true] w' fun e w'' => ∃ G, e = .returned (.pointer (some ⟨G, 0, none⟩)) ∧ SndH w'' w''.heap.size G p.bl p.T p.W true (newS p.W p.crc) ∧ Made w' w'' G) := keepHid (fun w' g hb => by
    refine (sof_pair (T : Int) 3 (some ⟨g, 0, none⟩) m m bl true w' hb (by omega) hsl).mono ?_
    rintro e w'' ⟨G, rfl, e3, e4⟩
    rw [hTc, show capZ 3 99 = 3 by decide] at e3
    exact ⟨G, rfl, by rw [← hp]; exact e3, e4⟩)
  have HROF : Hid (∀ w3 w4 G1, SndH w4 w4.heap.size G1 p.bl p.T p.W true (newS p.W p.crc) → w3.heap.size ≤ G1 → Below w3.heap.size w3 w4 → ∀ w', Below w4.heap.size w4 w' → Calls Try.prog 12 #[.agg #[.int .i64 9, .int .i64 2], .int .u8 1, .bool true, .bool true, .int .i64 1] w' fun e w'' => ∃ G, e = .returned (.pointer (some ⟨G, 0, none⟩)) ∧ Pair p 9 w3 w4.heap.size G1 G w'' ∧ Made w' w'' G) := keepHid (fun w3 w4 G1 hs hg hbel w' hb => by
    have h := rof_pair p 9 2 w3 w' (hs.below hb) hb.size hg (hbel.trans (hb.mono hbel.size)) (by rw [← hp]; exact (by decide : capZ 2 99 = 2))
    have hc : p.crc = true := by rw [← hp]
    rw [show capZ 9 9 = 9 by decide, hc] at h
    exact h)
  have HXR : Hid (∀ w3 w5 Hb G1 G2, Pair p 9 w3 Hb G1 G2 w5 → ∀ w9 At nt zt, Below w5.heap.size w5 w9 → NzS w9 At nt zt → (∀ ad, At = some ad → w5.heap.size ≤ ad.block) → TameN zt T → ∃ R, (R.2.2.1 = true ∧ R.1.r.da = allB bl) ∧ ∀ ct w', Below w9.heap.size w9 w' → Calls Try.prog 10 #[.pointer (some ⟨G1, 0, none⟩), .pointer (some ⟨G2, 0, none⟩), .slice At nt ct, .int .i64 400] w' fun e w'' => ∃ A c, e = .returned (.agg #[.bool true, .nilIface, .nilIface, .slice A L c, .int .i64 (R.2.1 : Int), .int .i64 (R.1.sent : Int)]) ∧ Talked p w3 Hb G1 G2 R A c w' w'') := keepHid (fun w3 w5 Hb G1 G2 hpr w9 At nt zt hb hz ha ht => by
    obtain ⟨R, hR, r1, r2, r3, r4⟩ := HRR.out zt ht
    refine ⟨R, ⟨r1, r4⟩, fun ct w' hb' => ?_⟩
    have hb5 := hpr.hb
    have h := run_pair ((hpr.below hb).below hb') At nt ct zt (hz.below hb') (fun _ ad e hh => by have := ha ad e; omega) 400 (by omega)
    rw [← hR] at h
    refine h.mono ?_
    rintro e w'' ⟨A, c, rfl, ht⟩
    refine ⟨A, c, ?_, ht⟩
    unfold resV
    rw [r1, r2, r3, r4, hL]
    rfl)
  have HTMR : Hid (∀ w3, Below w.heap.size w w3 → ∀ w5, Below w3.heap.size w3 w5 → ∀ w', Below w5.heap.size w5 w' → Calls Try.prog 23 #[.slice a3 n3 c3, .int .i64 (T : Int)] w' fun e w'' => ∃ A n c zs, e = .returned (.slice A n c) ∧ NzS w'' A n zs ∧ (∀ ad, A = some ad → w5.heap.size ≤ ad.block) ∧ TameN zs T ∧ Below w'.heap.size w' w'' ∧ Below w5.heap.size w5 w'') := keepHid (fun w3 hb3 w5 hb5 w' hb' => by
    have hbw := hb3.trans ((hb5.trans (hb'.mono hb5.size)).mono hb3.size)
    refine (tame_any a3 n3 c3 z3 T (by omega) (by omega) w' (hHZ.out.below hbw) (by omega)).mono ?_
    rintro e w'' ⟨A, n, c, zs, rfl, h1, h2, h3, h4⟩
    exact ⟨A, n, c, zs, rfl, h1, fun ad e => Nat.le_trans hb'.size (h2 ad e), h3, h4, hb'.trans (h4.mono hb'.size)⟩)
  have HBK : Hid (∀ w', Below w.heap.size w w' → Calls Try.prog 9 #[.slice a0 n0 c0, .int .u8 x1, .bool x2] w' (Blocks10 w' m bl)) := keepHid (fun w' hb => by
    rw [← hbl]; exact blocks10_any a0 n0 c0 b0 x1 m x2 h1 hm w' ((hHY.out.below hb).more hb.size))
  have HSL := keepHid hsl
  have HAW := keepHid (awake12_any w)
  have hTi : (T : Int) ≤ 4 := by omega
  clear h0 h1 h3 h4 l0 s0 l3 s3 hm hbl hp hok hsl hHY hHZ hL hTc HRR hTt
  go_enter Try.func5, Try.ntmps5
  go_wp2_with fail
  with_reducible refine HAW.out.mono ?_
  rintro e w1 ⟨rfl, hb1⟩
  obtain ⟨GC, hGC⟩ : ∃ GC, w1.heap.size = GC := ⟨_, rfl⟩
  obtain ⟨w2, hw2⟩ : ∃ w2, w1.alloc (.cells #[.int .i64 (T : Int), .int .i64 3] 23) = w2 := ⟨_, rfl⟩
  have hb2 : Below w.heap.size w w2 := by rw [← hw2]; exact hb1.alloc hb1.size _
  have hk2 : Blk w2 GC 23 #[.int .i64 (T : Int), .int .i64 3] := by rw [← hw2, ← hGC]; exact Blk.new w1 _ _
  have HB2 := keepHid hb2
  have HK2 := keepHid hk2
  have HBK2 := keepHid (HBK.out w2 hb2)
  clear hb1 hb2 hk2
  go_wp2_with fail
  with_reducible refine HBK2.out.mono ?_
  rintro e w3 ⟨g, rfl, hbs, hb3⟩
  clear hGC hw2
  have HBS := keepHid hbs
  have HB3 := keepHid (HB2.out.trans (hb3.mono HB2.out.size))
  have hk3 := HK2.out.below hb3 HK2.out.lt
  have HK3 := keepHid hk3
  have d0 : w3.cell? ⟨GC, 0, none⟩ = some (.int .i64 (T : Int)) := hk3.cell 0
  have d1 : w3.cell? ⟨GC, 1, none⟩ = some (.int .i64 3) := hk3.cell 1
  have HCF : Hid (∀ w', Below w3.heap.size w3 w' → w'.cell? ⟨GC, 0, none⟩ = some (.int .i64 (T : Int)) ∧ w'.cell? ⟨GC, 1, none⟩ = some (.int .i64 3) ∧ GC < w'.heap.size) := keepHid (fun w' hb => by
    have := HK3.out.below hb HK3.out.lt
    exact ⟨this.cell 0, this.cell 1, this.lt⟩)
  have hlt3 : GC < w3.heap.size := HK3.out.lt
  have HS : Hid (∀ w', Below w3.heap.size w3 w' → Calls Try.prog 11 #[.agg #[.int .i64 (T : Int), .int .i64 3], .slice (some ⟨g, 0, none⟩) m m, .bool true, .bool true] w' fun e w'' => ∃ G, e = .returned (.pointer (some ⟨G, 0, none⟩)) ∧ SndH w'' w''.heap.size G p.bl p.T p.W true (newS p.W p.crc) ∧ Made w' w'' G) := keepHid (fun w' hb => HSOF.out w' g (HBS.out.below hb))
  have HR := keepHid (HROF.out w3)
  have HX := keepHid (HXR.out w3)
  have HTM := keepHid (HTMR.out w3 HB3.out)
  have HCS : Hid (∀ w', Below w3.heap.size w3 w' → w'.cell? ⟨GC, 0, none⟩ = some (.int .i64 (T : Int)) ∧ w'.cell? ⟨GC, 1, none⟩ = some (.int .i64 3) ∧ Below w3.heap.size w3 w') := keepHid (fun w' hb => ⟨(HCF.out w' hb).1, (HCF.out w' hb).2.1, hb⟩)
  clear hbs hb3 hk3
  go_upto_region 5 with fail
  go_cut [13] (fun s wx => ∃ R GB A6 c6 Hb G1, s = .pointer (some ⟨GB, 0, none⟩) ∧ (R.2.2.1 = true ∧ R.1.r.da = allB bl) ∧ ResAt w3 p Hb G1 R GB A6 c6 .nilIface .nilIface wx)
  case first =>
    go_region_held3 (fun w' => w'.cell? ⟨GC, 0, none⟩ = some (.int .i64 (T : Int)) ∧ w'.cell? ⟨GC, 1, none⟩ = some (.int .i64 3) ∧ Below w3.heap.size w3 w') (exact HCS.out _ (by (repeat (first | (with_reducible exact Below.refl _ _) | (with_reducible exact HB4.out) | (with_reducible exact HB5.out) | (with_reducible exact HB9.out) | (with_reducible exact HB6.out) | (with_reducible refine Below.drew ?_) | (with_reducible refine bel_alloc ?_ _) | (with_reducible refine bel_set ?_ (by first | exact Nat.le_refl _ | exact HLE4.out | exact HLE5.out | exact HLE9.out) _))))) (first | (go_at_call 11; (with_reducible refine (HS.out _ (by (first | exact Below.refl _ _ | exact Below.drew (Below.refl _ _) | exact (Below.refl _ _).alloc (Nat.le_refl _) _ | exact Below.drew ((Below.refl _ _).alloc (Nat.le_refl _) _) | exact (Below.drew (Below.refl _ _)).alloc (Nat.le_refl _) _))).mono ?_); rintro e w4 ⟨G1, rfl, hs4, hm4⟩; obtain ⟨hb4, hg4⟩ := Made.since (w3 := w3) (by (first | exact Below.refl _ _ | exact Below.drew (Below.refl _ _) | exact (Below.refl _ _).alloc (Nat.le_refl _) _ | exact Below.drew ((Below.refl _ _).alloc (Nat.le_refl _) _) | exact (Below.drew (Below.refl _ _)).alloc (Nat.le_refl _) _)) hm4; obtain ⟨d0', d1', hlt4⟩ := HCF.out w4 hb4; (try (have hz := ZeroB.made (by first | exact ZeroB.new w3 | exact (ZeroB.new w3).drew | exact ZeroB.new w3.drew) hm4; obtain ⟨zz0, zz1, zz2, zz3, zz4, zz5, zzf⟩ := hz.1.cells; have HZ4 := keepHid hz; clear hz)); have HB4 := keepHid hb4; have HLE4 := keepHid hb4.size; have HR4 := keepHid (HR.out w4 G1 hs4 hg4 hb4); have HM4 := keepHid hm4.lt; clear hs4 hm4 hb4 hg4) | (go_at_call 12; (with_reducible refine (HR4.out _ (by (first | exact Below.refl _ _ | exact Below.drew (Below.refl _ _) | exact (Below.refl _ _).alloc (Nat.le_refl _) _ | exact Below.drew ((Below.refl _ _).alloc (Nat.le_refl _) _) | exact (Below.drew (Below.refl _ _)).alloc (Nat.le_refl _) _))).mono ?_); rintro e w5 ⟨G2, rfl, hpr, hm5⟩; (first | (have hz := ZeroB.made (by first | exact HZ4.out.1 | exact ZeroB.drew HZ4.out.1) hm5; obtain ⟨zz0, zz1, zz2, zz3, zz4, zz5, zzf⟩ := hz.1.cells; have HZ5 := keepHid (And.intro hz.1 (And.intro HZ4.out.2 hz.2)); clear hz) | (have hz := ZeroB.made (by first | exact ZeroB.new w4 | exact (ZeroB.new w4).drew | exact ZeroB.new w4.drew) hm5; obtain ⟨zz0, zz1, zz2, zz3, zz4, zz5, zzf⟩ := hz.1.cells; have HZ5 := keepHid (And.intro hz.1 (And.intro (Nat.ne_of_gt HM4.out) hz.2)); clear hz) | skip); have HB5 := keepHid hpr.bel; have HLE5 := keepHid hpr.bel.size; have HX5 := keepHid (HX.out w5 _ G1 G2 hpr); have HM5 := keepHid (And.intro hpr.hb hm5.lt); obtain ⟨e0', e1', hlt5⟩ := HCF.out w5 hpr.bel; have HTM5 := keepHid (HTM.out w5 hpr.bel); clear hpr hm5) | (go_at_call 23; (with_reducible refine (HTM5.out _ (by (first | exact Below.refl _ _ | exact Below.drew (Below.refl _ _) | exact (Below.refl _ _).alloc (Nat.le_refl _) _ | exact Below.drew ((Below.refl _ _).alloc (Nat.le_refl _) _) | exact (Below.drew (Below.refl _ _)).alloc (Nat.le_refl _) _))).mono ?_); rintro e w9 ⟨At, nt, ct, zt, rfl, hzt, hat, htm, hbt, hb59⟩; (first | (have hz := And.intro (ZeroB.below (by first | exact HZ5.out.1 | exact ZeroB.drew HZ5.out.1) hbt) HZ5.out.2; obtain ⟨zz0, zz1, zz2, zz3, zz4, zz5, zzf⟩ := hz.1.cells; have HZ9 := keepHid hz; clear hz) | (have hz := And.intro (ZeroB.below (by first | exact ZeroB.new w5 | exact (ZeroB.new w5).drew | exact ZeroB.new w5.drew) hbt) (And.intro (Nat.ne_of_gt (Nat.lt_of_lt_of_le HM5.out.1.2.1 (Nat.le_of_lt (Nat.lt_of_le_of_lt HM5.out.1.2.2.1 HM5.out.2)))) (Nat.ne_of_gt HM5.out.2)); obtain ⟨zz0, zz1, zz2, zz3, zz4, zz5, zzf⟩ := hz.1.cells; have HZ9 := keepHid hz; clear hz) | skip); obtain ⟨R, hR, hN⟩ := HX5.out w9 At nt zt hb59 hzt hat htm; have HPR := keepHid hR; have HN9 := keepHid hN; have HB9 := keepHid (HB5.out.trans (hb59.mono HB5.out.size)); have HLE9 := keepHid (HB9.out.size); have HM9 := keepHid (Nat.lt_of_lt_of_le HM5.out.2 hb59.size); clear hzt hat htm hbt hb59 hR hN) | (go_at_call 10; (with_reducible refine (HN9.out ct _ (by (first | exact Below.refl _ _ | exact Below.drew (Below.refl _ _) | exact (Below.refl _ _).alloc (Nat.le_refl _) _ | exact Below.drew ((Below.refl _ _).alloc (Nat.le_refl _) _) | exact (Below.drew (Below.refl _ _)).alloc (Nat.le_refl _) _))).mono ?_); rintro e w6 ⟨A6, c6, rfl, ht6⟩; (first | (have hz := ZeroB.talked (by first | exact HZ9.out.1 | exact ZeroB.drew HZ9.out.1) HZ9.out.2.1 HZ9.out.2.2 ht6; obtain ⟨zz0, zz1, zz2, zz3, zz4, zz5, zzf⟩ := hz.1.cells; have HZ6 := keepHid hz; clear hz) | (have hz := ZeroB.talked (by first | exact ZeroB.new w9 | exact (ZeroB.new w9).drew | exact ZeroB.new w9.drew) (by have := HM5.out; have := HM9.out; omega) (by have := HM5.out; have := HM9.out; omega) ht6; obtain ⟨zz0, zz1, zz2, zz3, zz4, zz5, zzf⟩ := hz.1.cells; have HZ6 := keepHid hz; clear hz) | skip); have HB6 := keepHid ht6.bel; have HT6 := keepHid ht6; clear ht6))
    all_goals
      go_wp2_with fail
      go_meet
      case rel =>
        refine ⟨R, _, A6, c6, w4.heap.size, G1, rfl, HPR.out, ?_⟩
        first
          | with_reducible exact HE1.out _ _ _ _ _ _ _ _ _ HPR.out HT6.out
          | with_reducible exact HE2.out _ _ _ _ _ _ _ _ _ _ HPR.out HT6.out HZ6.out (Nat.le_refl _)
          | with_reducible exact HE2.out _ _ _ _ _ _ _ _ _ _ HPR.out HT6.out HZ6.out HLE4.out
          | with_reducible exact HE2.out _ _ _ _ _ _ _ _ _ _ HPR.out HT6.out HZ6.out HLE5.out
          | with_reducible exact HE2.out _ _ _ _ _ _ _ _ _ _ HPR.out HT6.out HZ6.out HLE9.out
  case rest =>
    obtain ⟨R, GB, A6, c6, Hb, G1, rfl, hPR, hres⟩ := hcut
    obtain ⟨hk6, hy6⟩ := HRS.out _ _ _ _ _ _ _ _ hPR hres
    have hb6 := hres.bel
    have CD := keepHid (fun d os => Calls.regrown_of (data12_any (some ⟨g, 0, none⟩) m m bl (Sort.grow (redrawn wc d) os) (HBS.out.below (hb6.trans ((below_regrown wc d os).mono hb6.size))) (by omega) HSL.out))
    have cv : ∀ d os, (convert 24 9 (.slice A6 L c6)).run Try.prog (Sort.grow (redrawn wc d) os) = .ok (.string (strB (allB bl))) (Sort.grow (redrawn wc d) os) := fun d os =>
      run_str 24 5 9 Try.underlying24 Try.underlying5 Try.underlying9 (hy6.below (below_regrown wc d os))
    have k0 := cell_regrown (hk6.cell 0)
    have k1 := cell_regrown (hk6.cell 1)
    have k2 := cell_regrown (hk6.cell 2)
    have k3 := cell_regrown (hk6.cell 3)
    simp at k0 k1 k2 k3
    have HBX := keepHid (HB3.out.trans (hb6.mono HB3.out.size))
    have hsame := strB_same (xs := allB bl) (bs := allB bl) rfl
    clear hres hk6 hy6 hb6 HE1 HE2 HRS HS HR HX HTM HTMR HCS HCF HSOF HROF HXR hPR
    generalize strB (allB bl) = X at *
    go_upto_region 6 with fail
    refine wp_region_quiet_below (by kernel_rfl) (by kernel_rfl) ?_
    repeat (go_big_quiet_step (first | (with_reducible exact CD.out _ _)))
    refine wpQuiet_nil ?_
    intro _ hw'
    obtain ⟨⟨dq, osq⟩, hw''⟩ := hw'
    subst hw''
    have hbr := below_regrown wc dq osq
    go_wp2
    go_ret
    exact ⟨rfl, HBX.out.trans (hbr.mono HBX.out.size)⟩

set_option maxRecDepth 100000 in
theorem lifted (os : Os) (started : os.Started) (H : Type) (enc : TypeId × Value → H) :
    ReturnsInHanded {} Try.checked os 5 .any (Rows.linkTameSpec.pre6 enc Try.prog Try.f5 Rows.linkTameRow.domain false) (Rows.linkTameSpec.post enc Try.prog Try.f5 false true false false) := by
  refine returnsInHanded_of_change_sized (C := Try.checked) own started (by kernel_rfl) Try.func5
    (ChangeSpec.witness6 (enc := enc) (C := Try.checked) false ⟨#[], #[.slice none 0 0, .int .u8 0, .bool false, .slice none 0 0, .int .u8 0], []⟩ 8 (by kernel_rfl) (by kernel_rfl) (by kernel_rfl) (by kernel_rfl)) ?_
  intro W base args ds gs before hval0 hW hcnd hsz0 _
  have hsz : (DataW.weightsEach Try.prog (Try.f5.params.toList ++ Rows.linkTameSpec.plain.varTypes Try.prog) (ds ++ gs)).all (· ≤ reachBytes) = true := hsz0
  clear hsz0
  have hval : ∀ (j : Nat) t v, Try.f5.params[j]? = some t → args[j]? = some v → Value.okWide Try.prog W .any base t v := hval0
  have hW' := hW
  obtain ⟨p, q, hA0, hV, rfl, hfz, hnd⟩ := hW
  have hA : DataW.TrodAll enc Try.prog W 0 (fun _ => true) true Try.f5.params.toList args.toList ds p := hA0
  rw [Try.params5] at hA hval hsz
  obtain ⟨v0, vs0, d0, ds0, p0, q0, hargs, rfl, rfl, h0, r0⟩ := trodAll_cons hA
  obtain ⟨v1, vs1, d1, ds1, p1, q1, rfl, rfl, rfl, h1, r1⟩ := trodAll_cons r0
  obtain ⟨v2, vs2, d2, ds2, p2, q2, rfl, rfl, rfl, h2, r2⟩ := trodAll_cons r1
  obtain ⟨v3, vs3, d3, ds3, p3, q3, rfl, rfl, rfl, h3, r3⟩ := trodAll_cons r2
  obtain ⟨v4, vs4, d4, ds4, p4, q4, rfl, rfl, rfl, h4, r4⟩ := trodAll_cons r3
  obtain ⟨rfl, rfl, rfl⟩ := trodAll_nil r4
  obtain rfl : args = #[v0, v1, v2, v3, v4] := by cases args; simp_all
  obtain ⟨rfl, rfl⟩ := trodVars_none hV
  have k0 := h0
  have lt0 : ∀ x ∈ p0, x.block < W.heap.size := by obtain ⟨m, hm⟩ := k0; exact DataW.trod_lt m _ _ _ hm
  have k1 := h1
  have lt1 : ∀ x ∈ p1, x.block < W.heap.size := by obtain ⟨m, hm⟩ := k1; exact DataW.trod_lt m _ _ _ hm
  have k2 := h2
  have lt2 : ∀ x ∈ p2, x.block < W.heap.size := by obtain ⟨m, hm⟩ := k2; exact DataW.trod_lt m _ _ _ hm
  have k3 := h3
  have lt3 : ∀ x ∈ p3, x.block < W.heap.size := by obtain ⟨m, hm⟩ := k3; exact DataW.trod_lt m _ _ _ hm
  have k4 := h4
  have lt4 : ∀ x ∈ p4, x.block < W.heap.size := by obtain ⟨m, hm⟩ := k4; exact DataW.trod_lt m _ _ _ hm
  obtain ⟨a0, n0, c0, b0, rfl, w0, l0, s0⟩ := open_bys Try.underlying24 Try.underlying5 (by kernel_rfl) (by kernel_rfl) (hval 0 24 v0 rfl rfl) (fun _ => rfl) h0 (fun el sp hd => sized_slice hsz (j := 0) (t := 24) (e := 5) rfl (by rw [hd]; rfl) Try.underlying24)
  obtain ⟨x1, rfl, rfl, rfl, w1⟩ := open_int Try.underlying5 (hval 1 5 v1 rfl rfl) h1
  obtain ⟨x2, rfl, rfl, rfl⟩ := open_bool Try.underlying4 (hval 2 4 v2 rfl rfl) h2
  obtain ⟨a3, n3, c3, z3, rfl, w3, l3, s3⟩ := open_noise Try.underlying25 Try.underlying48 ⟨rfl, rfl⟩ ⟨rfl, rfl⟩ ⟨rfl, rfl⟩ Try.underlying4 Try.underlying3 Try.underlying5 (by kernel_rfl) (by kernel_rfl) (by kernel_rfl) (by kernel_rfl) (by kernel_rfl) (hval 3 25 v3 rfl rfl) h3 (fun el sp hd => sized_slice hsz (j := 3) (t := 25) (e := 48) rfl (by rw [hd]; rfl) Try.underlying25)
  obtain ⟨x4, rfl, rfl, rfl, w4⟩ := open_int Try.underlying5 (hval 4 5 v4 rfl rfl) h4
  clear hA0 hval0
  refine (walk a0 n0 c0 b0 x1 x2 a3 n3 c3 z3 x4 W w0 l0 s0 (wf_u8 w1) w3 l3 s3 (wf_u8 w4)).mono fun e W' ⟨he, bel⟩ => ?_
  subst he
  exact ⟨_, rfl, _, _, _, [], _, [], hW', trodAll_mk1 (shut_bool Try.underlying4 _), (trodAll_cons_mk (Below.trod laidOut (by kernel_rfl) (of_decide_eq_true (by kernel_rfl)) k0 bel lt0) (trodAll_cons_mk (Below.trod laidOut (by kernel_rfl) (of_decide_eq_true (by kernel_rfl)) k1 bel lt1) (trodAll_cons_mk (Below.trod laidOut (by kernel_rfl) (of_decide_eq_true (by kernel_rfl)) k2 bel lt2) (trodAll_cons_mk (Below.trod laidOut (by kernel_rfl) (of_decide_eq_true (by kernel_rfl)) k3 bel lt3) (trodAll_cons_mk (Below.trod laidOut (by kernel_rfl) (of_decide_eq_true (by kernel_rfl)) k4 bel lt4) trodAll_mk0))))), rfl, bel.frame _, fun h => by cases h⟩

theorem over : Rows.linkTameRow.holds Try.pinned (OpenSpec.ofChange Rows.linkTameSpec) :=
  OpenClaim.holds_of_wide 5 Try.f5 rfl rfl rfl rfl rfl rfl rfl ⟨rfl, rfl, rfl, rfl, rfl⟩ rfl rfl rfl rfl rfl (by kernel_rfl) Try.func5 (by kernel_rfl)
    (of_decide_eq_true (by kernel_rfl)) (by unfold Func.isWrapper; first | (rw [if_pos (by decide +kernel)]; kernel_rfl) | (rw [if_neg (by decide +kernel)]; exact ⟨rfl, rfl⟩))
    (fun os started H enc _ => lifted os started H enc)

theorem proved : Rows.LinkTameSaid := over
end Go.Proofs.Ytjbkhaoddababaa.linkTame
