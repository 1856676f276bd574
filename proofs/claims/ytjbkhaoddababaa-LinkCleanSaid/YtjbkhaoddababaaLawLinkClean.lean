/-
  'lifelinelaw12.LinkClean' answers true for every input, and leaves its arguments as they were.
  Conditions: none but what the row itself says of its arguments (how much memory each may take).
-/
import Derived.Test.YtjbkhaoddababaaRows
import Derived.Test.YtjbkhaoddababaaRows
import Derived.Test.YtjbkhaoddababaaLinkAwake
import Derived.Test.YtjbkhaoddababaaFrameTwo
import Derived.LoopTactic
import Derived.Deep.DeepCutAuto
import Derived.Deep.RegionWith
import Derived.Deep.RegionHeld3
import Derived.Deep.DrawnRows
import Derived.Lib.QuietBelow
import Derived.Test.YtjbkhaoddababaaFrame
import Derived.WalkKit
import Derived.ProofKit
import Derived.OpenShut
import Derived.ShutString
import Derived.ChangeOld
import Derived.Below
namespace Go.Proofs.Ytjbkhaoddababaa.linkClean
open Go.ChangeShapes Go.WideShapes Go.ChangeAt Go.RowKit
open Go.ChangeMaps (open_string shut_string)
set_option linter.unusedVariables false

theorem own : ownKnob Try.prog.godebug = none := by kernel_rfl
theorem laidOut : laidOutB Try.prog = true := by kernel_rfl

theorem wait_is (z : Int) (lo : Int) : ∃ t v u z1 : Int, z.tmod 5 = t ∧ t + 5 = v ∧ v.tmod 5 = u ∧ lo + u = z1 ∧ lo ≤ z1 ∧ z1 ≤ lo + 4 ∧ -4 ≤ t ∧ t ≤ 4 ∧ 1 ≤ v ∧ v ≤ 9 ∧ 0 ≤ u ∧ u ≤ 4 := by
  refine ⟨_, _, _, _, rfl, rfl, rfl, rfl, ?_⟩
  have h1 : z.tmod 5 = z % 5 ∨ (z.tmod 5 = z % 5 - 5 ∧ z % 5 ≠ 0) := by
    rw [Int.tmod_eq_emod]
    split
    · left; omega
    · rename_i h
      exact .inr ⟨rfl, fun e => h (.inr (Int.dvd_of_emod_eq_zero e))⟩
  have h2 : (z.tmod 5 + 5).tmod 5 = (z.tmod 5 + 5) % 5 := by rw [Int.tmod_eq_emod_of_nonneg (by omega)]
  rw [h2]
  generalize z.tmod 5 = t at *
  clear h2
  refine ⟨?_, ?_, ?_, ?_, ?_, ?_, ?_, ?_⟩ <;> omega
set_option maxRecDepth 100000 in
set_option maxHeartbeats 4000000 in
theorem walk (y0 z0 : Int) (a1 : Option Addr) (n1 c1 : Nat) (b1 : List UInt8) (x2 : Int) (x3 : Bool) (x4 : Bool) (w : World) (h0 : -9223372036854775808 ≤ y0 ∧ y0 ≤ 9223372036854775807) (g0 : -9223372036854775808 ≤ z0 ∧ z0 ≤ 9223372036854775807) (h1 : Bys w w.heap.size a1 n1 b1) (l1 : n1 ≤ c1) (s1 : c1 ≤ 140737488351232) (h2 : 0 ≤ x2 ∧ x2 ≤ 255) :
    Calls Try.prog 4 #[.agg #[.int .i64 y0, .int .i64 z0], .slice a1 n1 c1, .int .u8 x2, .bool x3, .bool x4] w fun e w' => e = .returned (.bool true) ∧ Below w.heap.size w w' := by
  obtain ⟨m, hm⟩ : ∃ m : Nat, x2 % 5 = (m : Int) := ⟨(x2 % 5).toNat, by omega⟩
  have hm4 : m ≤ 4 := by omega
  obtain ⟨m1, hm1⟩ : ∃ m1, (m : Int) + 1 = m1 := ⟨_, rfl⟩
  obtain ⟨m2, hm2⟩ : ∃ m2, (m : Int) + 2 = m2 := ⟨_, rfl⟩
  have HM1 := keepHid hm1
  have HM2 := keepHid hm2
  obtain ⟨t, v, u, z1, ht, hv, hu, hz, hz1, hz6, t1, t2, v1, v2, u1, u2⟩ := wait_is z0 2
  obtain ⟨W, hW⟩ : ∃ W, capZ z1 99 = W := ⟨_, rfl⟩
  have hW2 : 2 ≤ W ∧ W ≤ 99 := by rw [← hW]; unfold capZ; omega
  obtain ⟨T, hT⟩ : ∃ T, capZ y0 9 = T := ⟨_, rfl⟩
  have hT1 : 1 ≤ T := by rw [← hT]; exact (capZ_is y0 9 (by omega)).2.1
  obtain ⟨bl, hbl⟩ : ∃ bl, blk10 b1 x3 m = bl := ⟨_, rfl⟩
  obtain ⟨p, hp⟩ : ∃ p : LP, (⟨bl, T, W, x4, W⟩ : LP) = p := ⟨_, rfl⟩
  have hok : LOk p := by rw [← hp, ← hbl]; exact lok_of b1 x3 m hm4 T W W x4 hT1
  have hn : p.bl.length = m := by rw [← hp, ← hbl]; exact blk10_len _ _ _
  have hsl : ∀ q ∈ bl, q.2.length ≤ 1024 := by rw [← hbl]; exact blk10_sized
  have hrun := run_clean (o := (false, 0, 0)) hok (by rw [← hp]; exact hW2.1) (by rw [← hp]; exact hW2.1) [] (still_none _) (R := T) (by omega) (N := 50) (by omega)
  have hHY := keepHid h1
  obtain ⟨L, hL⟩ : ∃ L, (allB bl).length = L := ⟨_, rfl⟩
  obtain ⟨R, hR⟩ : ∃ R, runX p [] 50 (startL p T) (false, 0, 0) = R := ⟨_, rfl⟩
  have hR1 : R.2.2.1 = true := by rw [← hR, hrun]
  have hR2 : R.2.2.2.1 = 0 := by rw [← hR, hrun]
  have hR3 : R.2.2.2.2 = 0 := by rw [← hR, hrun]
  have hR4 : R.1.r.da = allB bl := by rw [← hR, hrun]; show (took p p.bl.length (T - 1)).da = _; rw [took_da, allB_flat, ← hp]
  have hR5 : (R.2.1 : Int) = m2 := by rw [← hR, hrun, hn, ← hm2]; rfl
  have hR6 : (R.1.sent : Int) = m1 := by rw [← hR, hrun, hn, ← hm1]; rfl
  have HV : Hid (∀ A c, resV R A c = .agg #[.bool true, .nilIface, .nilIface, .slice A L c, .int .i64 m2, .int .i64 m1]) := keepHid (fun A c => by
    unfold resV
    rw [hR1, hR2, hR3, hR4, hR5, hR6, hL]
    rfl)
  have HRS : Hid (∀ w3 Hb G1 GB A c w', ResAt w3 p Hb G1 R GB A c .nilIface .nilIface w' → Blk w' GB 32 #[.bool true, .nilIface, .nilIface, .slice A L c, .int .i64 m2, .int .i64 m1] ∧ Bys w' w'.heap.size A L (allB bl)) := keepHid (fun w3 Hb G1 GB A c w' h => by
    have h1 := h.blk
    have h2 := h.bys
    rw [hR1, hR4, hR5, hR6, hL] at h1
    rw [hR4, hL] at h2
    exact ⟨h1, h2⟩)
  have HE1 : Hid (∀ w3 Hb G1 G2 A c w' w6, Talked p w3 Hb G1 G2 R A c w' w6 → ResAt w3 p Hb G1 R w6.heap.size A c .nilIface .nilIface (w6.alloc (.cells #[.bool true, .nilIface, .nilIface, .slice A L c, .int .i64 m2, .int .i64 m1] 32))) := keepHid (fun w3 Hb G1 G2 A c w' w6 h => by
    have h1 := ResAt.of_new h .nilIface .nilIface _ rfl
    rw [hR1, hR4, hR5, hR6, hL] at h1
    exact h1)
  have HE2 : Hid (∀ w3 Hb G1 G2 A c w' w6 g, Talked p w3 Hb G1 G2 R A c w' w6 → (ZeroB w6 g ∧ ∀ ad, A = some ad → ad.block ≠ g) → w3.heap.size ≤ g → ResAt w3 p Hb G1 R g A c .nilIface .nilIface ((((((w6.setCell ⟨g, 0, none⟩ (.bool true)).setCell ⟨g, 1, none⟩ .nilIface).setCell ⟨g, 2, none⟩ .nilIface).setCell ⟨g, 3, none⟩ (.slice A L c)).setCell ⟨g, 4, none⟩ (.int .i64 m2)).setCell ⟨g, 5, none⟩ (.int .i64 m1))) := keepHid (fun w3 Hb G1 G2 A c w' w6 g h hz hg => by
    have h1 := ResAt.of_old h hz.1 hz.2 hg .nilIface .nilIface
    rw [hR1, hR4, hR5, hR6, hL] at h1
    exact h1)
  have HSOF : Hid (∀ w' g, BlkS w' (some ⟨g, 0, none⟩) m bl → Calls Try.prog 11 #[.agg #[.int .i64 y0, .int .i64 z1], .slice (some ⟨g, 0, none⟩) m m, .bool x4, .bool true] w' fun e w'' => ∃ G, e = .returned (.pointer (some ⟨G, 0, none⟩)) ∧ SndH w'' w''.heap.size G p.bl p.T p.W true (newS p.W p.crc) ∧ Made w' w'' G) := keepHid (fun w' g hb => by
    refine (sof_pair y0 z1 (some ⟨g, 0, none⟩) m m bl x4 w' hb (by omega) hsl).mono ?_
    rintro e w'' ⟨G, rfl, e3, e4⟩
    rw [hT, hW] at e3
    exact ⟨G, rfl, by rw [← hp]; exact e3, e4⟩)
  have HROF : Hid (∀ w3 w4 G1, SndH w4 w4.heap.size G1 p.bl p.T p.W true (newS p.W p.crc) → w3.heap.size ≤ G1 → Below w3.heap.size w3 w4 → ∀ w', Below w4.heap.size w4 w' → Calls Try.prog 12 #[.agg #[.int .i64 y0, .int .i64 z1], .int .u8 1, .bool x4, .bool true, .int .i64 1] w' fun e w'' => ∃ G, e = .returned (.pointer (some ⟨G, 0, none⟩)) ∧ Pair p T w3 w4.heap.size G1 G w'' ∧ Made w' w'' G) := keepHid (fun w3 w4 G1 hs hg hbel w' hb => by
    have h := rof_pair p y0 z1 w3 w' (hs.below hb) hb.size hg (hbel.trans (hb.mono hbel.size)) (by rw [hW, ← hp])
    have hc : p.crc = x4 := by rw [← hp]
    rw [hT, hc] at h
    exact h)
  have HNR : Hid (∀ w3 w5 Hb G1 G2, Pair p T w3 Hb G1 G2 w5 → ∀ w', Below w5.heap.size w5 w' → Calls Try.prog 10 #[.pointer (some ⟨G1, 0, none⟩), .pointer (some ⟨G2, 0, none⟩), .slice none 0 0, .int .i64 50] w' fun e w'' => ∃ A c, e = .returned (.agg #[.bool true, .nilIface, .nilIface, .slice A L c, .int .i64 m2, .int .i64 m1]) ∧ Talked p w3 Hb G1 G2 R A c w' w'') := keepHid (fun w3 w5 Hb G1 G2 hpr w' hb => by
    have h := run_pair (hpr.below hb) none 0 0 [] (NzS.none_ _) (Apart.zero _ _) 50 (by omega)
    rw [hR] at h
    refine h.mono ?_
    rintro e w'' ⟨A, c, rfl, ht⟩
    rw [HV.out]
    exact ⟨A, c, rfl, ht⟩)
  have HBK : Hid (∀ w', Below w.heap.size w w' → Calls Try.prog 9 #[.slice a1 n1 c1, .int .u8 x2, .bool x3] w' (Blocks10 w' m bl)) := keepHid (fun w' hb => by
    rw [← hbl]; exact blocks10_any a1 n1 c1 b1 x2 m x3 h2 hm w' ((hHY.out.below hb).more hb.size))
  have HSL := keepHid hsl
  obtain ⟨wa, hwa⟩ : ∃ wa, w.alloc (.cells #[.int .i64 y0, .int .i64 z0] 23) = wa := ⟨_, rfl⟩
  have hba : Below w.heap.size w wa := by rw [← hwa]; exact (Below.refl _ _).alloc (Nat.le_refl _) _
  have hka : Blk wa w.heap.size 23 #[.int .i64 y0, .int .i64 z0] := by rw [← hwa]; exact Blk.new w _ _
  have hga : w.heap.size < wa.heap.size := hka.lt
  have HBA := keepHid hba
  have HKA := keepHid hka
  have HAW := keepHid (awake12_any wa)
  have HGA := keepHid hga
  clear hm1 hm2
  clear h1 h2 l1 s1 hm hbl hp hok hn hsl hrun hHY hL hW hW2 hT hT1 hba hka hga hR hR1 hR2 hR3 hR4 hR5 hR6
  go_enter Try.func4, Try.ntmps4
  go_wp2_with fail
  with_reducible refine HAW.out.mono ?_
  rintro e w1 ⟨rfl, hb1⟩
  have hk1 := HKA.out.below hb1 HGA.out
  have HB1 := keepHid (HBA.out.trans (hb1.mono HBA.out.size))
  have cc1 : w1.cell? ⟨w.heap.size, 1, none⟩ = some (.int .i64 z0) := hk1.cell 1
  have cf := hk1.frozen
  obtain ⟨w2, hw2⟩ : ∃ w2, w1.setCell ⟨w.heap.size, 1, none⟩ (.int .i64 z1) = w2 := ⟨_, rfl⟩
  have hb2 : Below w.heap.size w w2 := by rw [← hw2]; exact HB1.out.setCell (Nat.le_refl _) _
  have hk2 : Blk w2 w.heap.size 23 #[.int .i64 y0, .int .i64 z1] := by rw [← hw2]; exact hk1.put 1 _
  have HB2 := keepHid hb2
  have HK2 := keepHid hk2
  have HBK2 := keepHid (HBK.out w2 hb2)
  clear hb1 hk1 hb2 hk2 hwa
  go_wp2_with fail
  with_reducible refine HBK2.out.mono ?_
  rintro e w3 ⟨g, rfl, hbs, hb3⟩
  have HBS := keepHid hbs
  have HB3 := keepHid (HB2.out.trans (hb3.mono HB2.out.size))
  have hk3 := HK2.out.below hb3 HK2.out.lt
  have HK3 := keepHid hk3
  have HG3 := keepHid (HB3.out.size)
  have d0 : w3.cell? ⟨w.heap.size, 0, none⟩ = some (.int .i64 y0) := hk3.cell 0
  have d1 : w3.cell? ⟨w.heap.size, 1, none⟩ = some (.int .i64 z1) := hk3.cell 1
  have HCF : Hid (∀ w', Below w3.heap.size w3 w' → w'.cell? ⟨w.heap.size, 0, none⟩ = some (.int .i64 y0) ∧ w'.cell? ⟨w.heap.size, 1, none⟩ = some (.int .i64 z1) ∧ w.heap.size < w'.heap.size) := keepHid (fun w' hb => by
    have := HK3.out.below hb HK3.out.lt
    exact ⟨this.cell 0, this.cell 1, this.lt⟩)
  have hlt3 : w.heap.size < w3.heap.size := HK3.out.lt
  have HS : Hid (∀ w', Below w3.heap.size w3 w' → Calls Try.prog 11 #[.agg #[.int .i64 y0, .int .i64 z1], .slice (some ⟨g, 0, none⟩) m m, .bool x4, .bool true] w' fun e w'' => ∃ G, e = .returned (.pointer (some ⟨G, 0, none⟩)) ∧ SndH w'' w''.heap.size G p.bl p.T p.W true (newS p.W p.crc) ∧ Made w' w'' G) := keepHid (fun w' hb => HSOF.out w' g (HBS.out.below hb))
  have HR := keepHid (HROF.out w3)
  have HN := keepHid (HNR.out w3)
  clear hbs hb3 hk3 hw2 cc1 cf
  have HCS : Hid (∀ w', Below w3.heap.size w3 w' → w'.cell? ⟨w.heap.size, 0, none⟩ = some (.int .i64 y0) ∧ w'.cell? ⟨w.heap.size, 1, none⟩ = some (.int .i64 z1) ∧ Below w3.heap.size w3 w') := keepHid (fun w' hb => ⟨(HCF.out w' hb).1, (HCF.out w' hb).2.1, hb⟩)
  go_upto_region 5 with fail
  go_cut [12] (fun s wx => ∃ GB A6 c6 Hb G1, s = .pointer (some ⟨GB, 0, none⟩) ∧ ResAt w3 p Hb G1 R GB A6 c6 .nilIface .nilIface wx)
  case first =>
    go_region_held3 (fun w' => w'.cell? ⟨w.heap.size, 0, none⟩ = some (.int .i64 y0) ∧ w'.cell? ⟨w.heap.size, 1, none⟩ = some (.int .i64 z1) ∧ Below w3.heap.size w3 w') (exact HCS.out _ (by (repeat (first | (with_reducible exact Below.refl _ _) | (with_reducible exact HB4.out) | (with_reducible exact HB5.out) | (with_reducible exact HB6.out) | (with_reducible refine Below.drew ?_) | (with_reducible refine bel_alloc ?_ _) | (with_reducible refine bel_set ?_ (by first | exact Nat.le_refl _ | exact HLE4.out | exact HLE5.out) _))))) (first | (go_at_call 11; (with_reducible refine (HS.out _ (by (first | exact Below.refl _ _ | exact Below.drew (Below.refl _ _) | exact (Below.refl _ _).alloc (Nat.le_refl _) _ | exact Below.drew ((Below.refl _ _).alloc (Nat.le_refl _) _) | exact (Below.drew (Below.refl _ _)).alloc (Nat.le_refl _) _))).mono ?_); rintro e w4 ⟨G1, rfl, hs4, hm4⟩; obtain ⟨hb4, hg4⟩ := Made.since (w3 := w3) (by (first | exact Below.refl _ _ | exact Below.drew (Below.refl _ _) | exact (Below.refl _ _).alloc (Nat.le_refl _) _ | exact Below.drew ((Below.refl _ _).alloc (Nat.le_refl _) _) | exact (Below.drew (Below.refl _ _)).alloc (Nat.le_refl _) _)) hm4; obtain ⟨d0', d1', hlt4⟩ := HCF.out w4 hb4; (try (have hz := ZeroB.made (by first | exact ZeroB.new w3 | exact (ZeroB.new w3).drew | exact ZeroB.new w3.drew) hm4; obtain ⟨zz0, zz1, zz2, zz3, zz4, zz5, zzf⟩ := hz.1.cells; have HZ4 := keepHid hz; clear hz)); have HB4 := keepHid hb4; have HLE4 := keepHid hb4.size; have HR4 := keepHid (HR.out w4 G1 hs4 hg4 hb4); have HM4 := keepHid hm4.lt; clear hs4 hm4 hb4 hg4) | (go_at_call 12; (with_reducible refine (HR4.out _ (by (first | exact Below.refl _ _ | exact Below.drew (Below.refl _ _) | exact (Below.refl _ _).alloc (Nat.le_refl _) _ | exact Below.drew ((Below.refl _ _).alloc (Nat.le_refl _) _) | exact (Below.drew (Below.refl _ _)).alloc (Nat.le_refl _) _))).mono ?_); rintro e w5 ⟨G2, rfl, hpr, hm5⟩; (first | (have hz := ZeroB.made (by first | exact HZ4.out.1 | exact ZeroB.drew HZ4.out.1) hm5; obtain ⟨zz0, zz1, zz2, zz3, zz4, zz5, zzf⟩ := hz.1.cells; have HZ5 := keepHid (And.intro hz.1 (And.intro HZ4.out.2 hz.2)); clear hz) | (have hz := ZeroB.made (by first | exact ZeroB.new w4 | exact (ZeroB.new w4).drew | exact ZeroB.new w4.drew) hm5; obtain ⟨zz0, zz1, zz2, zz3, zz4, zz5, zzf⟩ := hz.1.cells; have HZ5 := keepHid (And.intro hz.1 (And.intro (Nat.ne_of_gt HM4.out) hz.2)); clear hz) | skip); have HB5 := keepHid hpr.bel; have HLE5 := keepHid hpr.bel.size; have HN5 := keepHid (HN.out w5 _ G1 G2 hpr); have HM5 := keepHid (And.intro hpr.hb hm5.lt); clear hpr hm5) | (go_at_call 10; (with_reducible refine (HN5.out _ (by (first | exact Below.refl _ _ | exact Below.drew (Below.refl _ _) | exact (Below.refl _ _).alloc (Nat.le_refl _) _ | exact Below.drew ((Below.refl _ _).alloc (Nat.le_refl _) _) | exact (Below.drew (Below.refl _ _)).alloc (Nat.le_refl _) _))).mono ?_); rintro e w6 ⟨A6, c6, rfl, ht6⟩; (first | (have hz := ZeroB.talked (by first | exact HZ5.out.1 | exact ZeroB.drew HZ5.out.1) HZ5.out.2.1 HZ5.out.2.2 ht6; obtain ⟨zz0, zz1, zz2, zz3, zz4, zz5, zzf⟩ := hz.1.cells; have HZ6 := keepHid hz; clear hz) | (have hz := ZeroB.talked (by first | exact ZeroB.new w5 | exact (ZeroB.new w5).drew | exact ZeroB.new w5.drew) (by have := HM5.out; omega) (by have := HM5.out; omega) ht6; obtain ⟨zz0, zz1, zz2, zz3, zz4, zz5, zzf⟩ := hz.1.cells; have HZ6 := keepHid hz; clear hz) | skip); have HB6 := keepHid ht6.bel; have HT6 := keepHid ht6; clear ht6))
    all_goals
      go_wp2_with fail
      go_meet
      case rel =>
        refine ⟨_, A6, c6, w4.heap.size, G1, rfl, ?_⟩
        first
          | with_reducible exact HE1.out _ _ _ _ _ _ _ _ HT6.out
          | with_reducible exact HE2.out _ _ _ _ _ _ _ _ _ HT6.out HZ6.out (Nat.le_refl _)
          | with_reducible exact HE2.out _ _ _ _ _ _ _ _ _ HT6.out HZ6.out HLE4.out
          | with_reducible exact HE2.out _ _ _ _ _ _ _ _ _ HT6.out HZ6.out HLE5.out
  case rest =>
    obtain ⟨GB, A6, c6, Hb, G1, rfl, hres⟩ := hcut
    obtain ⟨hk6, hy6⟩ := HRS.out _ _ _ _ _ _ _ hres
    have hb6 := hres.bel
    have CD := keepHid (fun d os => Calls.regrown_of (data12_any (some ⟨g, 0, none⟩) m m bl (Sort.grow (redrawn wc d) os) (HBS.out.below (hb6.trans ((below_regrown wc d os).mono hb6.size))) (by omega) HSL.out))
    have cv : ∀ d os, (convert 24 9 (.slice A6 L c6)).run Try.prog (Sort.grow (redrawn wc d) os) = .ok (.string (strB (allB bl))) (Sort.grow (redrawn wc d) os) := fun d os =>
      run_str 24 5 9 Try.underlying24 Try.underlying5 Try.underlying9 (hy6.below (below_regrown wc d os))
    have k0 := cell_regrown (hk6.cell 0)
    have k1 := cell_regrown (hk6.cell 1)
    have k2 := cell_regrown (hk6.cell 2)
    have k3 := cell_regrown (hk6.cell 3)
    have k4 := cell_regrown (hk6.cell 4)
    have k5 := cell_regrown (hk6.cell 5)
    simp at k0 k1 k2 k3 k4 k5
    have HBX := keepHid (HB3.out.trans (hb6.mono HB3.out.size))
    have hsame := strB_same (xs := allB bl) (bs := allB bl) rfl
    have hm1 := HM1.out
    have hm2 := HM2.out
    have hw1 : IntKind.i64.wrap ((m : Int) + 1) = m1 := by rw [hm1, IntKind.wrap_i64]; omega
    have hw2 : IntKind.i64.wrap ((m : Int) + 2) = m2 := by rw [hm2, IntKind.wrap_i64]; omega
    clear hres hk6 hy6 hb6 HE1 HE2 HRS HS HR HN HCS HCF HSOF HROF HNR HV
    generalize strB (allB bl) = X at *
    go_upto_region 6 with fail
    refine wp_region_quiet_below (by kernel_rfl) (by kernel_rfl) ?_
    repeat (go_big_quiet_step (first | (with_reducible exact CD.out _ _)))
    refine wpQuiet_nil ?_
    intro _ hw'
    obtain ⟨⟨dq, osq⟩, hw''⟩ := hw'
    subst hw''
    have hbr := below_regrown wc dq osq
    go_wp2
    go_ret
    exact ⟨rfl, HBX.out.trans (hbr.mono HBX.out.size)⟩

set_option maxRecDepth 100000 in
theorem lifted (os : Os) (started : os.Started) (H : Type) (enc : TypeId × Value → H) :
    ReturnsInHanded {} Try.checked os 4 .any (Rows.linkCleanSpec.pre6 enc Try.prog Try.f4 Rows.linkCleanRow.domain false) (Rows.linkCleanSpec.post enc Try.prog Try.f4 false true false false) := by
  refine returnsInHanded_of_change_sized (C := Try.checked) own started (by kernel_rfl) Try.func4
    (ChangeSpec.witness6 (enc := enc) (C := Try.checked) false ⟨#[], #[.agg #[.int .i64 0, .int .i64 0], .slice none 0 0, .int .u8 0, .bool false, .bool false], []⟩ 8 (by kernel_rfl) (by kernel_rfl) (by kernel_rfl) (by kernel_rfl)) ?_
  intro W base args ds gs before hval0 hW hcnd hsz0 _
  have hsz : (DataW.weightsEach Try.prog (Try.f4.params.toList ++ Rows.linkCleanSpec.plain.varTypes Try.prog) (ds ++ gs)).all (· ≤ reachBytes) = true := hsz0
  clear hsz0
  have hval : ∀ (j : Nat) t v, Try.f4.params[j]? = some t → args[j]? = some v → Value.okWide Try.prog W .any base t v := hval0
  have hW' := hW
  obtain ⟨p, q, hA0, hV, rfl, hfz, hnd⟩ := hW
  have hA : DataW.TrodAll enc Try.prog W 0 (fun _ => true) true Try.f4.params.toList args.toList ds p := hA0
  rw [Try.params4] at hA hval hsz
  obtain ⟨v0, vs0, d0, ds0, p0, q0, hargs, rfl, rfl, h0, r0⟩ := trodAll_cons hA
  obtain ⟨v1, vs1, d1, ds1, p1, q1, rfl, rfl, rfl, h1, r1⟩ := trodAll_cons r0
  obtain ⟨v2, vs2, d2, ds2, p2, q2, rfl, rfl, rfl, h2, r2⟩ := trodAll_cons r1
  obtain ⟨v3, vs3, d3, ds3, p3, q3, rfl, rfl, rfl, h3, r3⟩ := trodAll_cons r2
  obtain ⟨v4, vs4, d4, ds4, p4, q4, rfl, rfl, rfl, h4, r4⟩ := trodAll_cons r3
  obtain ⟨rfl, rfl, rfl⟩ := trodAll_nil r4
  obtain rfl : args = #[v0, v1, v2, v3, v4] := by cases args; simp_all
  obtain ⟨rfl, rfl⟩ := trodVars_none hV
  have k0 := h0
  have lt0 : ∀ x ∈ p0, x.block < W.heap.size := by obtain ⟨m, hm⟩ := k0; exact DataW.trod_lt m _ _ _ hm
  have k1 := h1
  have lt1 : ∀ x ∈ p1, x.block < W.heap.size := by obtain ⟨m, hm⟩ := k1; exact DataW.trod_lt m _ _ _ hm
  have k2 := h2
  have lt2 : ∀ x ∈ p2, x.block < W.heap.size := by obtain ⟨m, hm⟩ := k2; exact DataW.trod_lt m _ _ _ hm
  have k3 := h3
  have lt3 : ∀ x ∈ p3, x.block < W.heap.size := by obtain ⟨m, hm⟩ := k3; exact DataW.trod_lt m _ _ _ hm
  have k4 := h4
  have lt4 : ∀ x ∈ p4, x.block < W.heap.size := by obtain ⟨m, hm⟩ := k4; exact DataW.trod_lt m _ _ _ hm
  obtain ⟨y0, z0, rfl, w0, u0⟩ := open_two Try.underlying23 ⟨rfl, rfl⟩ ⟨rfl, rfl⟩ Try.underlying3 (by kernel_rfl) (by kernel_rfl) (hval 0 23 v0 rfl rfl) h0
  obtain ⟨a1, n1, c1, b1, rfl, w1, l1, s1⟩ := open_bys Try.underlying24 Try.underlying5 (by kernel_rfl) (by kernel_rfl) (hval 1 24 v1 rfl rfl) (fun _ => rfl) h1 (fun el sp hd => sized_slice hsz (j := 1) (t := 24) (e := 5) rfl (by rw [hd]; rfl) Try.underlying24)
  obtain ⟨x2, rfl, rfl, rfl, w2⟩ := open_int Try.underlying5 (hval 2 5 v2 rfl rfl) h2
  obtain ⟨x3, rfl, rfl, rfl⟩ := open_bool Try.underlying4 (hval 3 4 v3 rfl rfl) h3
  obtain ⟨x4, rfl, rfl, rfl⟩ := open_bool Try.underlying4 (hval 4 4 v4 rfl rfl) h4
  clear hA0 hval0
  refine (walk y0 z0 a1 n1 c1 b1 x2 x3 x4 W w0 u0 w1 l1 s1 (wf_u8 w2)).mono fun e W' ⟨he, bel⟩ => ?_
  subst he
  exact ⟨_, rfl, _, _, _, [], _, [], hW', trodAll_mk1 (shut_bool Try.underlying4 _), (trodAll_cons_mk (Below.trod laidOut (by kernel_rfl) (of_decide_eq_true (by kernel_rfl)) k0 bel lt0) (trodAll_cons_mk (Below.trod laidOut (by kernel_rfl) (of_decide_eq_true (by kernel_rfl)) k1 bel lt1) (trodAll_cons_mk (Below.trod laidOut (by kernel_rfl) (of_decide_eq_true (by kernel_rfl)) k2 bel lt2) (trodAll_cons_mk (Below.trod laidOut (by kernel_rfl) (of_decide_eq_true (by kernel_rfl)) k3 bel lt3) (trodAll_cons_mk (Below.trod laidOut (by kernel_rfl) (of_decide_eq_true (by kernel_rfl)) k4 bel lt4) trodAll_mk0))))), rfl, bel.frame _, fun h => by cases h⟩

theorem over : Rows.linkCleanRow.holds Try.pinned (OpenSpec.ofChange Rows.linkCleanSpec) :=
  OpenClaim.holds_of_wide 4 Try.f4 rfl rfl rfl rfl rfl rfl rfl ⟨rfl, rfl, rfl, rfl, rfl⟩ rfl rfl rfl rfl rfl (by kernel_rfl) Try.func4 (by kernel_rfl)
    (of_decide_eq_true (by kernel_rfl)) (by unfold Func.isWrapper; first | (rw [if_pos (by decide +kernel)]; kernel_rfl) | (rw [if_neg (by decide +kernel)]; exact ⟨rfl, rfl⟩))
    (fun os started H enc _ => lifted os started H enc)

theorem proved : Rows.LinkCleanSaid := over
end Go.Proofs.Ytjbkhaoddababaa.linkClean
