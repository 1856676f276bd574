/-
  'lifelinelaw12.LinkEnds' answers true for every input of the row, and leaves its arguments as they were.
  Conditions: the package-level variables that the row lists lie as the program's own text lays them (the card ties them to it; what is pinned is a constant of the library's).
-/
import Derived.Test.YtjbkhaoddababaaDoorRows
import Derived.Test.YtjbkhaoddababaaDoorRows
import Derived.Test.YtjbkhaoddababaaDoorLinkAwake
import Derived.Test.YtjbkhaoddababaaDoorLinkEnds
import Derived.Test.YtjbkhaoddababaaDoorLinkRows
import Derived.Test.YtjbkhaoddababaaDoorFrameTwo
import Derived.LoopTactic
import Derived.Deep.DeepCutAuto
import Derived.Deep.RegionWith
import Derived.Deep.DrawnRows
import Derived.Test.YtjbkhaoddababaaDoorFrame
import Derived.Test.YtjbkhaoddababaaDoorFrameRegex
import Derived.Test.YtjbkhaoddababaaDoorCards
import Derived.WalkKit
import Derived.ProofKit
import Derived.OpenShut
import Derived.ShutString
import Derived.ChangeOld
import Derived.Below
namespace Go.Proofs.YtjbkhaoddababaaDoor.linkEnds
open Go.ChangeShapes Go.WideShapes Go.ChangeAt Go.RowKit
open Go.ChangeMaps (open_string shut_string)
set_option linter.unusedVariables false

theorem own : ownKnob Tryd.prog.godebug = none := by kernel_rfl
theorem laidOut : laidOutB Tryd.prog = true := by kernel_rfl

theorem wait_is (z : Int) (lo : Int) : ∃ t v u z1 : Int, z.tmod 5 = t ∧ t + 5 = v ∧ v.tmod 5 = u ∧ lo + u = z1 ∧ lo ≤ z1 ∧ z1 ≤ lo + 4 ∧ -4 ≤ t ∧ t ≤ 4 ∧ 1 ≤ v ∧ v ≤ 9 ∧ 0 ≤ u ∧ u ≤ 4 := by
  refine ⟨_, _, _, _, rfl, rfl, rfl, rfl, ?_⟩
  have h1 : z.tmod 5 = z % 5 ∨ (z.tmod 5 = z % 5 - 5 ∧ z % 5 ≠ 0) := by
    rw [Int.tmod_eq_emod]
    split
    · left; omega
    · rename_i h
      exact .inr ⟨rfl, fun e => h (.inr (Int.dvd_of_emod_eq_zero e))⟩
  have h2 : (z.tmod 5 + 5).tmod 5 = (z.tmod 5 + 5) % 5 := by rw [Int.tmod_eq_emod_of_nonneg (by omega)]
  rw [h2]
  generalize z.tmod 5 = t at *
  clear h2
  refine ⟨?_, ?_, ?_, ?_, ?_, ?_, ?_, ?_⟩ <;> omega
theorem errV_nil {e : Nat} (h : errV e = .nilIface) : e = 0 := by
  unfold errV at h
  split at h
  · assumption
  · cases h
set_option maxRecDepth 100000 in
set_option maxHeartbeats 4000000 in
theorem errs_any (w : World) (g : Nat) (hk : Blk w g 43 #[.int .i64 10]) (hT : ErrT w) :
    Calls Tryd.prog 10 #[.iface 43 (.int .i64 10), .slice (some ⟨g, 0, none⟩) 1 1] w fun e w' => e = .returned (.bool true) ∧ Below w.heap.size w w' := by
  have HN := keepHid (number_e 10 w hT)
  have c0 : w.cell? ⟨g, 0, none⟩ = some (.int .i64 10) := hk.cell 0
  clear hk hT
  go_enter Tryd.func10, Tryd.ntmps10
  go_wp2_with fail
  refine wp_loop_rounds 1 ?_
  rw [rounds_succ]
  go_wp2_with fail
  with_reducible refine HN.out.mono ?_
  rintro e w1 ⟨rfl, hb⟩
  have HB := keepHid hb
  clear hb
  go_wp2_with fail
  go_ret
  exact ⟨rfl, HB.out⟩
def lossL (K k : Nat) : List Nz := (List.range k).map fun j => ⟨decide (K ≤ j), 0, 0⟩
theorem loss_succ (K k : Nat) : lossL K (k + 1) = lossL K k ++ [⟨decide (K ≤ k), 0, 0⟩] := by simp [lossL, List.range_succ]
theorem loss_get (K k j : Nat) (h : j < k) : (lossL K k)[j]? = some ⟨decide (K ≤ j), 0, 0⟩ := by
  unfold lossL
  rw [List.getElem?_map, List.getElem?_range h]
  rfl
theorem loss_still (K k : Nat) (hK : K ≤ k) : Still (lossL K k) K := fun j hj x => by
  unfold arr
  rw [loss_get K k j (by omega)]
  show (if decide (K ≤ j) = true then [] else hitL x _) = x
  rw [if_neg (by simp; omega)]
  exact hit_same x _ rfl
theorem loss_lost (K k j : Nat) (h1 : K ≤ j) (h2 : j < k) (x : List UInt8) : arr (lossL K k) j x = [] := by
  unfold arr
  rw [loss_get K k j h2]
  show (if decide (K ≤ j) = true then [] else hitL x _) = []
  rw [if_pos (by simpa using h1)]
theorem loss_at {K k j : Nat} {z : Nz} (h : (lossL K k)[j]? = some z) : -9223372036854775808 ≤ z.at_ ∧ z.at_ ≤ 9223372036854775807 := by
  unfold lossL at h
  rw [List.getElem?_map] at h
  obtain ⟨i, _, rfl⟩ := Option.map_eq_some_iff.1 h
  exact ⟨by show (-9223372036854775808 : Int) ≤ 0; omega, by show (0 : Int) ≤ 9223372036854775807; omega⟩
set_option maxRecDepth 100000 in
set_option maxHeartbeats 4000000 in
theorem walk (y0 z0 : Int) (a1 : Option Addr) (n1 c1 : Nat) (b1 : List UInt8) (x2 : Int) (x3 : Int) (w : World) (hT : ErrT w) (h0 : -9223372036854775808 ≤ y0 ∧ y0 ≤ 9223372036854775807) (g0 : -9223372036854775808 ≤ z0 ∧ z0 ≤ 9223372036854775807) (h1 : Bys w w.heap.size a1 n1 b1) (l1 : n1 ≤ c1) (s1 : c1 ≤ 140737488351232) (h2 : 0 ≤ x2 ∧ x2 ≤ 255) (h3 : 0 ≤ x3 ∧ x3 ≤ 255) :
    Calls Tryd.prog 3 #[.agg #[.int .i64 y0, .int .i64 z0], .slice a1 n1 c1, .int .u8 x2, .int .u8 x3] w fun e w' => e = .returned (.bool true) ∧ Below w.heap.size w w' := by
  have HET := keepHid hT
  clear hT
  obtain ⟨m, hm⟩ : ∃ m : Nat, x2 % 5 = (m : Int) := ⟨(x2 % 5).toNat, by omega⟩
  have hm4 : m ≤ 4 := by omega
  obtain ⟨K, hK⟩ : ∃ K : Nat, x3.tmod 4 = (K : Int) ∧ K ≤ 3 := ⟨(x3 % 4).toNat, by rw [Int.tmod_eq_emod_of_nonneg h3.1]; omega⟩
  obtain ⟨hK, hK3⟩ := hK
  obtain ⟨t, v, u, z1, ht, hv, hu, hz, hz1, hz6, t1, t2, v1', v2', u1, u2⟩ := wait_is z0 2
  obtain ⟨W, hW⟩ : ∃ W, capZ z1 99 = W := ⟨_, rfl⟩
  have hW2 : 2 ≤ W ∧ W ≤ 99 := by rw [← hW]; unfold capZ; omega
  obtain ⟨T, hTT⟩ : ∃ T, capZ y0 9 = T := ⟨_, rfl⟩
  have hT1 : 1 ≤ T ∧ T ≤ 9 := by rw [← hTT]; exact (capZ_is y0 9 (by omega)).2
  obtain ⟨bl, hbl⟩ : ∃ bl, blk10 b1 false m = bl := ⟨_, rfl⟩
  obtain ⟨p, hp⟩ : ∃ p : LP, (⟨bl, T, W, true, W⟩ : LP) = p := ⟨_, rfl⟩
  have hok : LOk p := by rw [← hp, ← hbl]; exact lok_of b1 false m hm4 T W W true hT1.1
  have hn : p.bl.length = m := by rw [← hp, ← hbl]; exact blk10_len _ _ _
  have hsh : ∀ (j : Nat) (q : UInt8 × List UInt8), p.bl[j]? = some q → q.2.length = 128 := by rw [← hp, ← hbl]; exact short_of b1 m
  have hsl : ∀ q ∈ bl, q.2.length ≤ 1024 := by rw [← hbl]; exact blk10_sized
  have hHY := keepHid h1
  obtain ⟨R, hR⟩ : ∃ R, runX p (lossL K 60) 2000 (startL p T) (false, 0, 0) = R := ⟨_, rfl⟩
  have hpW : p.W = W := by rw [← hp]
  have hpT : p.T = T := by rw [← hp]
  have HRA : Hid (m < K → R.2.2 = (true, 0, 0)) := keepHid (fun h => by
    rw [← hR, run_clean hok (by rw [hpW]; exact hW2.1) (by rw [← hp]; exact hW2.1) (lossL K 60) (fun j hj x => loss_still K 60 (by omega) j (by omega) x) (R := T) (by omega) (N := 2000) (by omega)])
  have HRB : Hid (K ≤ m → R.1.s.ph = 3 ∧ R.1.s.err = 10 ∧ R.1.r.da.length = 128 * K) := keepHid (fun h => by
    have h1 := run_lost (p := p) (ns := lossL K 60) (L := K) ⟨hok, by rw [hpW]; exact hW2.1, by rw [← hp], by rw [hpT]; exact hT1.2, by rw [← hp], by omega, hK3, fun j hj x => loss_still K 60 (by omega) j hj x, fun j h1 h2 x => loss_lost K 60 j h1 h2 x⟩ (by rw [hpW]; exact hW2.2) (false, 0, 0)
    rw [hpT, hR] at h1
    exact ⟨h1.1, h1.2.1, by rw [h1.2.2, flat_len hsh K (by omega)]⟩)
  have HSOF : Hid (∀ w' g, BlkS w' (some ⟨g, 0, none⟩) m bl → Calls Tryd.prog 6 #[.agg #[.int .i64 y0, .int .i64 z1], .slice (some ⟨g, 0, none⟩) m m, .bool true, .bool true] w' fun e w'' => ∃ G, e = .returned (.pointer (some ⟨G, 0, none⟩)) ∧ SndH w'' w''.heap.size G p.bl p.T p.W true (newS p.W p.crc) ∧ Made w' w'' G) := keepHid (fun w' g hb => by
    refine (sof_pair y0 z1 (some ⟨g, 0, none⟩) m m bl true w' hb (by omega) hsl).mono ?_
    rintro e w'' ⟨G, rfl, e3, e4⟩
    rw [hTT, hW] at e3
    exact ⟨G, rfl, by rw [← hp]; exact e3, e4⟩)
  have HROF : Hid (∀ w3 w4 G1, SndH w4 w4.heap.size G1 p.bl p.T p.W true (newS p.W p.crc) → w3.heap.size ≤ G1 → Below w3.heap.size w3 w4 → Calls Tryd.prog 8 #[.agg #[.int .i64 y0, .int .i64 z1], .int .u8 1, .bool true, .bool true, .int .i64 1] w4 fun e w'' => ∃ G, e = .returned (.pointer (some ⟨G, 0, none⟩)) ∧ Pair p T w3 w4.heap.size G1 G w'' ∧ Made w4 w'' G) := keepHid (fun w3 w4 G1 hs hg hbel => by
    have h := rof_pair p y0 z1 w3 w4 hs (Nat.le_refl _) hg hbel (by rw [hW, ← hp])
    have hc : p.crc = true := by rw [← hp]
    rw [hTT, hc] at h
    exact h)
  have HNR : Hid (∀ w3 At nt ct, NzS w3 At nt (lossL K 60) → (∀ ad, At = some ad → ad.block < w3.heap.size) → ∀ w5 Hb G1 G2, Pair p T w3 Hb G1 G2 w5 → Calls Tryd.prog 7 #[.pointer (some ⟨G1, 0, none⟩), .pointer (some ⟨G2, 0, none⟩), .slice At nt ct, .int .i64 2000] w5 fun e w'' => ∃ A c, e = .returned (.agg #[.bool R.2.2.1, errV R.2.2.2.1, errV R.2.2.2.2, .slice A R.1.r.da.length c, .int .i64 (R.2.1 : Int), .int .i64 (R.1.sent : Int)]) ∧ Talked p w3 Hb G1 G2 R A c w5 w'') := keepHid (fun w3 At nt ct hz ha w5 Hb G1 G2 hpr => by
    have hb5 := hpr.hb
    have h := run_pair hpr At nt ct (lossL K 60) (hz.below hpr.bel) (fun _ ad e hh => by have := ha ad e; omega) 2000 (by omega)
    rw [hR] at h
    exact h)
  have HBK : Hid (∀ w', Below w.heap.size w w' → Calls Tryd.prog 5 #[.slice a1 n1 c1, .int .u8 x2, .bool false] w' (Blocks10 w' m bl)) := keepHid (fun w' hb => by
    rw [← hbl]; exact blocks10_any a1 n1 c1 b1 x2 m false h2 hm w' ((hHY.out.below hb).more hb.size))
  obtain ⟨wa, hwa⟩ : ∃ wa, w.alloc (.cells #[.int .i64 y0, .int .i64 z0] 23) = wa := ⟨_, rfl⟩
  have hba : Below w.heap.size w wa := by rw [← hwa]; exact (Below.refl _ _).alloc (Nat.le_refl _) _
  have hka : Blk wa w.heap.size 23 #[.int .i64 y0, .int .i64 z0] := by rw [← hwa]; exact Blk.new w _ _
  have hga : w.heap.size < wa.heap.size := hka.lt
  have HBA := keepHid hba
  have HKA := keepHid hka
  have HAW := keepHid (awake12_any wa)
  have HGA := keepHid hga
  have hKi : (K : Int) ≤ 3 := by omega
  have hmi : (m : Int) ≤ 4 := by omega
  clear h0 g0 h1 h2 h3 l1 s1 hm hbl hp hok hn hsl hsh hHY hW hW2 hTT hT1 hba hka hga hR hpW hpT
  go_enter Tryd.func3, Tryd.ntmps3
  go_wp2_with fail
  with_reducible refine HAW.out.mono ?_
  rintro e w1 ⟨rfl, hb1⟩
  have hk1 := HKA.out.below hb1 HGA.out
  have HB1 := keepHid (HBA.out.trans (hb1.mono HBA.out.size))
  have cc1 : w1.cell? ⟨w.heap.size, 1, none⟩ = some (.int .i64 z0) := hk1.cell 1
  have cf := hk1.frozen
  obtain ⟨w2, hw2⟩ : ∃ w2, w1.setCell ⟨w.heap.size, 1, none⟩ (.int .i64 z1) = w2 := ⟨_, rfl⟩
  have hb2 : Below w.heap.size w w2 := by rw [← hw2]; exact HB1.out.setCell (Nat.le_refl _) _
  have hk2 : Blk w2 w.heap.size 23 #[.int .i64 y0, .int .i64 z1] := by rw [← hw2]; exact hk1.put 1 _
  have HB2 := keepHid hb2
  have HK2 := keepHid hk2
  have HBK2 := keepHid (HBK.out w2 hb2)
  clear hb1 hk1 hb2 hk2 hwa
  go_wp2_with fail
  with_reducible refine HBK2.out.mono ?_
  rintro e w3 ⟨g, rfl, hbs, hb3⟩
  have HBS := keepHid hbs
  have HB3 := keepHid (HB2.out.trans (hb3.mono HB2.out.size))
  have HK3 := keepHid (HK2.out.below hb3 HK2.out.lt)
  clear hbs hb3 hw2 cc1 cf ht hv hu hz
  go_wp2_with fail
  go_loopw [10, 11] (fun ov kv wr => ∃ (k : Nat), k ≤ 60 ∧ kv = .int .i64 k ∧ OwnZ wr w3.heap.size ov k (lossL K k) ∧ Below w3.heap.size w3 wr) (fun _ kv _ => 60 - (intOf kv).toNat)
  case atStart => exact ⟨0, Nat.zero_le _, rfl, OwnZ.nil _ _, Below.refl _ _⟩
  case round =>
    obtain ⟨k, hk, rfl, ho, hbel⟩ := hrel
    obtain ⟨A1, cz, rfl, hc1, hc2, hA1⟩ := ho.form
    have HO := keepHid ho
    have HB := keepHid hbel
    rcases Nat.lt_or_ge k 60 with hlt | hge
    · have hi : (k : Int) < 60 := by omega
      have HAP : Hid (∀ b : Bool, decide (K ≤ k) = b → ∀ wq, wr.alloc (.cells #[.bool b, .int .i64 0, .int .u8 0] 30) = wq → OwnZ wq w3.heap.size (.slice A1 k cz) k (lossL K k) ∧ Blk wq wr.heap.size 30 #[.bool b, .int .i64 0, .int .u8 ((0 : UInt8).toNat : Int)] ∧ w3.heap.size ≤ wq.heap.size ∧ Below w3.heap.size w3 wq ∧ lossL K (k + 1) = lossL K k ++ [⟨b, 0, 0⟩]) := keepHid (fun b hb wq e => by
        have h1 : Below wr.heap.size wr wq := by rw [← e]; exact (Below.refl _ _).alloc (Nat.le_refl _) _
        refine ⟨HO.out.below h1, by rw [← e]; exact Blk.new wr _ _, Nat.le_trans HB.out.size h1.size, HB.out.trans (h1.mono HB.out.size), by rw [loss_succ, hb]⟩)
      clear ho hbel
      by_cases hKk : K ≤ k
      · have hge1 : (k : Int) ≥ (K : Int) := by omega
        obtain ⟨wq, hwq⟩ : ∃ wq, wr.alloc (.cells #[.bool true, .int .i64 0, .int .u8 0] 30) = wq := ⟨_, rfl⟩
        obtain ⟨ho2, hk2, hs2, hb2, hl2⟩ := HAP.out true (by simpa using hKk) wq hwq
        have HO2 := keepHid ho2
        have HK2' := keepHid hk2
        have HS2 := keepHid hs2
        have HBQ := keepHid hb2
        have HL2 := keepHid hl2
        clear ho2 hk2 hs2 hb2 hl2
        go_wp2_with (at_builtin; go_loud (refine wpList_append_noise rfl _ _ rfl w3.heap.size (.slice A1 k cz) k (lossL K k) (by rfl) HO2.out wr.heap.size (by rfl) ⟨true, 0, 0⟩ HK2'.out (by omega) HS2.out ?_))
        intro G cap w4 ho4 hb4
        rw [← HL2.out] at ho4
        have HO4 := keepHid ho4
        have HB4 := keepHid (HBQ.out.trans hb4)
        clear ho4 hb4
        go_wp2
        go_roundw
        case rel => exact ⟨k + 1, by omega, by go_num, HO4.out, HB4.out⟩
        case measure => simp [intOf]; omega
      · have hge1 : ¬ (k : Int) ≥ (K : Int) := by omega
        obtain ⟨wq, hwq⟩ : ∃ wq, wr.alloc (.cells #[.bool false, .int .i64 0, .int .u8 0] 30) = wq := ⟨_, rfl⟩
        obtain ⟨ho2, hk2, hs2, hb2, hl2⟩ := HAP.out false (by simpa using hKk) wq hwq
        have HO2 := keepHid ho2
        have HK2' := keepHid hk2
        have HS2 := keepHid hs2
        have HBQ := keepHid hb2
        have HL2 := keepHid hl2
        clear ho2 hk2 hs2 hb2 hl2
        go_wp2_with (at_builtin; go_loud (refine wpList_append_noise rfl _ _ rfl w3.heap.size (.slice A1 k cz) k (lossL K k) (by rfl) HO2.out wr.heap.size (by rfl) ⟨false, 0, 0⟩ HK2'.out (by omega) HS2.out ?_))
        intro G cap w4 ho4 hb4
        rw [← HL2.out] at ho4
        have HO4 := keepHid ho4
        have HB4 := keepHid (HBQ.out.trans hb4)
        clear ho4 hb4
        go_wp2
        go_roundw
        case rel => exact ⟨k + 1, by omega, by go_num, HO4.out, HB4.out⟩
        case measure => simp [intOf]; omega
    · obtain rfl : k = 60 := by omega
      have hbw := HB3.out.trans (hbel.mono HB3.out.size)
      have hkr := HK3.out.below hbel HK3.out.lt
      have hnz := ho.nzs (fun j z hz => loss_at hz) (by omega)
      have hA2 : ∀ ad, A1 = some ad → ad.block < wr.heap.size := fun ad e => (World.ownsRow.lt ho ad.block (by rw [e]; rfl)).2
      have HBW := keepHid hbw
      have HKR := keepHid hkr
      have d0 : wr.cell? ⟨w.heap.size, 0, none⟩ = some (.int .i64 y0) := hkr.cell 0
      have d1 : wr.cell? ⟨w.heap.size, 1, none⟩ = some (.int .i64 z1) := hkr.cell 1
      have HSO := keepHid (HSOF.out wr g (HBS.out.below hbel))
      have HN := keepHid (HNR.out wr A1 60 cz hnz hA2)
      clear ho hbel hbw hkr hnz hA2 HO HB HBS HSOF HNR
      go_wp2_with fail
      with_reducible refine HSO.out.mono ?_
      rintro e w4 ⟨G1, rfl, hs4, hm4'⟩
      have hk4 := HKR.out.below hm4'.bel HKR.out.lt
      have e0 : w4.cell? ⟨w.heap.size, 0, none⟩ = some (.int .i64 y0) := hk4.cell 0
      have e1 : w4.cell? ⟨w.heap.size, 1, none⟩ = some (.int .i64 z1) := hk4.cell 1
      have HRO := keepHid (HROF.out wr w4 G1 hs4 hm4'.g hm4'.bel)
      clear hs4 hm4' hk4 HROF
      rcases errV_or R.2.2.2.1 with ev1 | ⟨y1, x1, ev1⟩ <;> rcases errV_or R.2.2.2.2 with ev2 | ⟨y2, x4, ev2⟩
      · rw [ev1, ev2] at HN
        have HV1 := keepHid ev1
        clear ev1 ev2
        go_wp2_with fail
        with_reducible refine HRO.out.mono ?_
        rintro e w5 ⟨G2, rfl, hpr, hm5⟩
        have HNN := keepHid (HN.out w5 _ G1 G2 hpr)
        have HHB := keepHid hpr.hb
        clear hpr hm5
        go_wp2_with fail
        with_reducible refine HNN.out.mono ?_
        rintro e w6 ⟨A6, c6, rfl, ht6⟩
        have HT6 := keepHid ht6
        clear ht6
        obtain ⟨w7, hw7⟩ : ∃ w7, w6.alloc (.cells #[.bool R.2.2.1, .nilIface, .nilIface, .slice A6 R.1.r.da.length c6, .int .i64 (R.2.1 : Int), .int .i64 (R.1.sent : Int)] 36) = w7 := ⟨_, rfl⟩
        have hres : ResAt wr p w4.heap.size G1 R w6.heap.size A6 c6 .nilIface .nilIface w7 := by rw [← hw7]; exact ResAt.of_new HT6.out _ _ _ rfl
        have HHS : w4.heap.size ≤ w6.heap.size := by have := HHB.out; have := HT6.out.tu.size; omega
        have hk7 := hres.blk
        have q0 : w7.cell? ⟨w6.heap.size, 0, none⟩ = some (.bool R.2.2.1) := hk7.cell 0
        have q1 : w7.cell? ⟨w6.heap.size, 1, none⟩ = some .nilIface := hk7.cell 1
        have HB7 := keepHid (HBW.out.trans (hres.bel.mono HBW.out.size))
        have HK7 := keepHid hk7
        have HDN := keepHid (done_sndH (hres.sn HHS))
        clear hres hk7 HHS
        by_cases hKm : m < K
        · have hR2 := HRA.out hKm
          have g1 : (K : Int) > (m : Int) := by omega
          rw [hR2] at hw7 q0
          have hv1 := HV1.out
          rw [hR2] at hv1
          rw [hR2]
          go_wp2_with fail
          go_ret
          exact ⟨rfl, HB7.out⟩
        · obtain ⟨r1, r2, r3⟩ := HRB.out (by omega)
          have e10 : errV 10 = .iface 43 (.int .i64 10) := rfl
          rw [r1, r2, e10] at HDN
          rw [r3] at hw7
          have g1 : ¬ (K : Int) > (m : Int) := by omega
          have q3 : w7.cell? ⟨w6.heap.size, 3, none⟩ = some (.slice A6 (128 * K) c6) := by rw [← r3]; exact HK7.out.cell 3
          obtain ⟨D, hD⟩ : ∃ D, 128 * K = D := ⟨_, rfl⟩
          have hD2 : 128 * (K : Int) = (D : Int) := by omega
          rw [hD] at q3 hw7
          rw [r3, hD]
          have hDi : (D : Int) ≤ 1000 := by omega
          have hmn := fun ts t W => min_z ts t (m : Int) (K : Int) (K : Int) (by omega) W
          have HCD : Hid (∀ w', Below w7.heap.size w7 w' → w'.cell? ⟨w6.heap.size, 3, none⟩ = some (.slice A6 D c6)) := keepHid (fun w' hb => by
            have := (HK7.out.below hb HK7.out.lt).cell 3
            rw [this, ← hD, ← r3]; rfl)
          have hpos := HET.out.pos
          have HET7 := keepHid (HET.out.below HB7.out hpos)
          have HZ7 : Hid (0 < w7.heap.size) := keepHid (HET7.out.pos)
          clear r1 r2 r3 hD hpos
          go_wp2_with fail
          with_reducible refine HDN.out.mono ?_
          rintro e w8 ⟨rfl, rfl⟩
          have HER : Hid (∀ w' g, Below w7.heap.size w7 w' → Blk w' g 43 #[.int .i64 10] → Calls Tryd.prog 10 #[.iface 43 (.int .i64 10), .slice (some ⟨g, 0, none⟩) 1 1] w' fun e w'' => e = .returned (.bool true) ∧ w''.cell? ⟨w6.heap.size, 3, none⟩ = some (.slice A6 D c6) ∧ Below w.heap.size w w'') := keepHid (fun w' g hb hk => by
            refine (errs_any w' g hk (HET7.out.below hb HZ7.out)).mono ?_
            rintro e w'' ⟨rfl, h2⟩
            have h3 := hb.trans (h2.mono hb.size)
            exact ⟨rfl, HCD.out _ h3, HB7.out.trans (h3.mono HB7.out.size)⟩)
          go_wp2_with fail
          with_reducible refine (HER.out ((w7.alloc (.cells #[.int .i64 10] 43)).drew) w7.heap.size (Below.drew ((Below.refl _ _).alloc (Nat.le_refl _) _)) ((Blk.new _ _ _).drew)).mono ?_
          rintro e w9 ⟨rfl, q9, hb9⟩
          have HB9 := keepHid hb9
          clear hb9
          go_wp2_with fail
          go_ret
          exact ⟨rfl, HB9.out⟩
      · rw [ev1, ev2] at HN
        have HV1 := keepHid ev1
        clear ev1 ev2
        go_wp2_with fail
        with_reducible refine HRO.out.mono ?_
        rintro e w5 ⟨G2, rfl, hpr, hm5⟩
        have HNN := keepHid (HN.out w5 _ G1 G2 hpr)
        have HHB := keepHid hpr.hb
        clear hpr hm5
        go_wp2_with fail
        with_reducible refine HNN.out.mono ?_
        rintro e w6 ⟨A6, c6, rfl, ht6⟩
        have HT6 := keepHid ht6
        clear ht6
        obtain ⟨w7, hw7⟩ : ∃ w7, w6.alloc (.cells #[.bool R.2.2.1, .nilIface, (.iface y2 x4), .slice A6 R.1.r.da.length c6, .int .i64 (R.2.1 : Int), .int .i64 (R.1.sent : Int)] 36) = w7 := ⟨_, rfl⟩
        have hres : ResAt wr p w4.heap.size G1 R w6.heap.size A6 c6 .nilIface (.iface y2 x4) w7 := by rw [← hw7]; exact ResAt.of_new HT6.out _ _ _ rfl
        have HHS : w4.heap.size ≤ w6.heap.size := by have := HHB.out; have := HT6.out.tu.size; omega
        have hk7 := hres.blk
        have q0 : w7.cell? ⟨w6.heap.size, 0, none⟩ = some (.bool R.2.2.1) := hk7.cell 0
        have q1 : w7.cell? ⟨w6.heap.size, 1, none⟩ = some .nilIface := hk7.cell 1
        have HB7 := keepHid (HBW.out.trans (hres.bel.mono HBW.out.size))
        have HK7 := keepHid hk7
        have HDN := keepHid (done_sndH (hres.sn HHS))
        clear hres hk7 HHS
        by_cases hKm : m < K
        · have hR2 := HRA.out hKm
          have g1 : (K : Int) > (m : Int) := by omega
          rw [hR2] at hw7 q0
          have hv1 := HV1.out
          rw [hR2] at hv1
          rw [hR2]
          go_wp2_with fail
          go_ret
          exact ⟨rfl, HB7.out⟩
        · obtain ⟨r1, r2, r3⟩ := HRB.out (by omega)
          have e10 : errV 10 = .iface 43 (.int .i64 10) := rfl
          rw [r1, r2, e10] at HDN
          rw [r3] at hw7
          have g1 : ¬ (K : Int) > (m : Int) := by omega
          have q3 : w7.cell? ⟨w6.heap.size, 3, none⟩ = some (.slice A6 (128 * K) c6) := by rw [← r3]; exact HK7.out.cell 3
          obtain ⟨D, hD⟩ : ∃ D, 128 * K = D := ⟨_, rfl⟩
          have hD2 : 128 * (K : Int) = (D : Int) := by omega
          rw [hD] at q3 hw7
          rw [r3, hD]
          have hDi : (D : Int) ≤ 1000 := by omega
          have hmn := fun ts t W => min_z ts t (m : Int) (K : Int) (K : Int) (by omega) W
          have HCD : Hid (∀ w', Below w7.heap.size w7 w' → w'.cell? ⟨w6.heap.size, 3, none⟩ = some (.slice A6 D c6)) := keepHid (fun w' hb => by
            have := (HK7.out.below hb HK7.out.lt).cell 3
            rw [this, ← hD, ← r3]; rfl)
          have hpos := HET.out.pos
          have HET7 := keepHid (HET.out.below HB7.out hpos)
          have HZ7 : Hid (0 < w7.heap.size) := keepHid (HET7.out.pos)
          clear r1 r2 r3 hD hpos
          go_wp2_with fail
          with_reducible refine HDN.out.mono ?_
          rintro e w8 ⟨rfl, rfl⟩
          have HER : Hid (∀ w' g, Below w7.heap.size w7 w' → Blk w' g 43 #[.int .i64 10] → Calls Tryd.prog 10 #[.iface 43 (.int .i64 10), .slice (some ⟨g, 0, none⟩) 1 1] w' fun e w'' => e = .returned (.bool true) ∧ w''.cell? ⟨w6.heap.size, 3, none⟩ = some (.slice A6 D c6) ∧ Below w.heap.size w w'') := keepHid (fun w' g hb hk => by
            refine (errs_any w' g hk (HET7.out.below hb HZ7.out)).mono ?_
            rintro e w'' ⟨rfl, h2⟩
            have h3 := hb.trans (h2.mono hb.size)
            exact ⟨rfl, HCD.out _ h3, HB7.out.trans (h3.mono HB7.out.size)⟩)
          go_wp2_with fail
          with_reducible refine (HER.out ((w7.alloc (.cells #[.int .i64 10] 43)).drew) w7.heap.size (Below.drew ((Below.refl _ _).alloc (Nat.le_refl _) _)) ((Blk.new _ _ _).drew)).mono ?_
          rintro e w9 ⟨rfl, q9, hb9⟩
          have HB9 := keepHid hb9
          clear hb9
          go_wp2_with fail
          go_ret
          exact ⟨rfl, HB9.out⟩
      · rw [ev1, ev2] at HN
        have HV1 := keepHid ev1
        clear ev1 ev2
        go_wp2_with fail
        with_reducible refine HRO.out.mono ?_
        rintro e w5 ⟨G2, rfl, hpr, hm5⟩
        have HNN := keepHid (HN.out w5 _ G1 G2 hpr)
        have HHB := keepHid hpr.hb
        clear hpr hm5
        go_wp2_with fail
        with_reducible refine HNN.out.mono ?_
        rintro e w6 ⟨A6, c6, rfl, ht6⟩
        have HT6 := keepHid ht6
        clear ht6
        obtain ⟨w7, hw7⟩ : ∃ w7, w6.alloc (.cells #[.bool R.2.2.1, (.iface y1 x1), .nilIface, .slice A6 R.1.r.da.length c6, .int .i64 (R.2.1 : Int), .int .i64 (R.1.sent : Int)] 36) = w7 := ⟨_, rfl⟩
        have hres : ResAt wr p w4.heap.size G1 R w6.heap.size A6 c6 (.iface y1 x1) .nilIface w7 := by rw [← hw7]; exact ResAt.of_new HT6.out _ _ _ rfl
        have HHS : w4.heap.size ≤ w6.heap.size := by have := HHB.out; have := HT6.out.tu.size; omega
        have hk7 := hres.blk
        have q0 : w7.cell? ⟨w6.heap.size, 0, none⟩ = some (.bool R.2.2.1) := hk7.cell 0
        have q1 : w7.cell? ⟨w6.heap.size, 1, none⟩ = some (.iface y1 x1) := hk7.cell 1
        have HB7 := keepHid (HBW.out.trans (hres.bel.mono HBW.out.size))
        have HK7 := keepHid hk7
        have HDN := keepHid (done_sndH (hres.sn HHS))
        clear hres hk7 HHS
        by_cases hKm : m < K
        · have hR2 := HRA.out hKm
          have g1 : (K : Int) > (m : Int) := by omega
          rw [hR2] at hw7 q0
          have hv1 := HV1.out
          rw [hR2] at hv1
          rw [hR2]
          exact absurd hv1 (by simp [errV])
        · obtain ⟨r1, r2, r3⟩ := HRB.out (by omega)
          have e10 : errV 10 = .iface 43 (.int .i64 10) := rfl
          rw [r1, r2, e10] at HDN
          rw [r3] at hw7
          have g1 : ¬ (K : Int) > (m : Int) := by omega
          have q3 : w7.cell? ⟨w6.heap.size, 3, none⟩ = some (.slice A6 (128 * K) c6) := by rw [← r3]; exact HK7.out.cell 3
          obtain ⟨D, hD⟩ : ∃ D, 128 * K = D := ⟨_, rfl⟩
          have hD2 : 128 * (K : Int) = (D : Int) := by omega
          rw [hD] at q3 hw7
          rw [r3, hD]
          have hDi : (D : Int) ≤ 1000 := by omega
          have hmn := fun ts t W => min_z ts t (m : Int) (K : Int) (K : Int) (by omega) W
          have HCD : Hid (∀ w', Below w7.heap.size w7 w' → w'.cell? ⟨w6.heap.size, 3, none⟩ = some (.slice A6 D c6)) := keepHid (fun w' hb => by
            have := (HK7.out.below hb HK7.out.lt).cell 3
            rw [this, ← hD, ← r3]; rfl)
          have hpos := HET.out.pos
          have HET7 := keepHid (HET.out.below HB7.out hpos)
          have HZ7 : Hid (0 < w7.heap.size) := keepHid (HET7.out.pos)
          clear r1 r2 r3 hD hpos
          go_wp2_with fail
          with_reducible refine HDN.out.mono ?_
          rintro e w8 ⟨rfl, rfl⟩
          have HER : Hid (∀ w' g, Below w7.heap.size w7 w' → Blk w' g 43 #[.int .i64 10] → Calls Tryd.prog 10 #[.iface 43 (.int .i64 10), .slice (some ⟨g, 0, none⟩) 1 1] w' fun e w'' => e = .returned (.bool true) ∧ w''.cell? ⟨w6.heap.size, 3, none⟩ = some (.slice A6 D c6) ∧ Below w.heap.size w w'') := keepHid (fun w' g hb hk => by
            refine (errs_any w' g hk (HET7.out.below hb HZ7.out)).mono ?_
            rintro e w'' ⟨rfl, h2⟩
            have h3 := hb.trans (h2.mono hb.size)
            exact ⟨rfl, HCD.out _ h3, HB7.out.trans (h3.mono HB7.out.size)⟩)
          go_wp2_with fail
          with_reducible refine (HER.out ((w7.alloc (.cells #[.int .i64 10] 43)).drew) w7.heap.size (Below.drew ((Below.refl _ _).alloc (Nat.le_refl _) _)) ((Blk.new _ _ _).drew)).mono ?_
          rintro e w9 ⟨rfl, q9, hb9⟩
          have HB9 := keepHid hb9
          clear hb9
          go_wp2_with fail
          go_ret
          exact ⟨rfl, HB9.out⟩
      · rw [ev1, ev2] at HN
        have HV1 := keepHid ev1
        clear ev1 ev2
        go_wp2_with fail
        with_reducible refine HRO.out.mono ?_
        rintro e w5 ⟨G2, rfl, hpr, hm5⟩
        have HNN := keepHid (HN.out w5 _ G1 G2 hpr)
        have HHB := keepHid hpr.hb
        clear hpr hm5
        go_wp2_with fail
        with_reducible refine HNN.out.mono ?_
        rintro e w6 ⟨A6, c6, rfl, ht6⟩
        have HT6 := keepHid ht6
        clear ht6
        obtain ⟨w7, hw7⟩ : ∃ w7, w6.alloc (.cells #[.bool R.2.2.1, (.iface y1 x1), (.iface y2 x4), .slice A6 R.1.r.da.length c6, .int .i64 (R.2.1 : Int), .int .i64 (R.1.sent : Int)] 36) = w7 := ⟨_, rfl⟩
        have hres : ResAt wr p w4.heap.size G1 R w6.heap.size A6 c6 (.iface y1 x1) (.iface y2 x4) w7 := by rw [← hw7]; exact ResAt.of_new HT6.out _ _ _ rfl
        have HHS : w4.heap.size ≤ w6.heap.size := by have := HHB.out; have := HT6.out.tu.size; omega
        have hk7 := hres.blk
        have q0 : w7.cell? ⟨w6.heap.size, 0, none⟩ = some (.bool R.2.2.1) := hk7.cell 0
        have q1 : w7.cell? ⟨w6.heap.size, 1, none⟩ = some (.iface y1 x1) := hk7.cell 1
        have HB7 := keepHid (HBW.out.trans (hres.bel.mono HBW.out.size))
        have HK7 := keepHid hk7
        have HDN := keepHid (done_sndH (hres.sn HHS))
        clear hres hk7 HHS
        by_cases hKm : m < K
        · have hR2 := HRA.out hKm
          have g1 : (K : Int) > (m : Int) := by omega
          rw [hR2] at hw7 q0
          have hv1 := HV1.out
          rw [hR2] at hv1
          rw [hR2]
          exact absurd hv1 (by simp [errV])
        · obtain ⟨r1, r2, r3⟩ := HRB.out (by omega)
          have e10 : errV 10 = .iface 43 (.int .i64 10) := rfl
          rw [r1, r2, e10] at HDN
          rw [r3] at hw7
          have g1 : ¬ (K : Int) > (m : Int) := by omega
          have q3 : w7.cell? ⟨w6.heap.size, 3, none⟩ = some (.slice A6 (128 * K) c6) := by rw [← r3]; exact HK7.out.cell 3
          obtain ⟨D, hD⟩ : ∃ D, 128 * K = D := ⟨_, rfl⟩
          have hD2 : 128 * (K : Int) = (D : Int) := by omega
          rw [hD] at q3 hw7
          rw [r3, hD]
          have hDi : (D : Int) ≤ 1000 := by omega
          have hmn := fun ts t W => min_z ts t (m : Int) (K : Int) (K : Int) (by omega) W
          have HCD : Hid (∀ w', Below w7.heap.size w7 w' → w'.cell? ⟨w6.heap.size, 3, none⟩ = some (.slice A6 D c6)) := keepHid (fun w' hb => by
            have := (HK7.out.below hb HK7.out.lt).cell 3
            rw [this, ← hD, ← r3]; rfl)
          have hpos := HET.out.pos
          have HET7 := keepHid (HET.out.below HB7.out hpos)
          have HZ7 : Hid (0 < w7.heap.size) := keepHid (HET7.out.pos)
          clear r1 r2 r3 hD hpos
          go_wp2_with fail
          with_reducible refine HDN.out.mono ?_
          rintro e w8 ⟨rfl, rfl⟩
          have HER : Hid (∀ w' g, Below w7.heap.size w7 w' → Blk w' g 43 #[.int .i64 10] → Calls Tryd.prog 10 #[.iface 43 (.int .i64 10), .slice (some ⟨g, 0, none⟩) 1 1] w' fun e w'' => e = .returned (.bool true) ∧ w''.cell? ⟨w6.heap.size, 3, none⟩ = some (.slice A6 D c6) ∧ Below w.heap.size w w'') := keepHid (fun w' g hb hk => by
            refine (errs_any w' g hk (HET7.out.below hb HZ7.out)).mono ?_
            rintro e w'' ⟨rfl, h2⟩
            have h3 := hb.trans (h2.mono hb.size)
            exact ⟨rfl, HCD.out _ h3, HB7.out.trans (h3.mono HB7.out.size)⟩)
          go_wp2_with fail
          with_reducible refine (HER.out ((w7.alloc (.cells #[.int .i64 10] 43)).drew) w7.heap.size (Below.drew ((Below.refl _ _).alloc (Nat.le_refl _) _)) ((Blk.new _ _ _).drew)).mono ?_
          rintro e w9 ⟨rfl, q9, hb9⟩
          have HB9 := keepHid hb9
          clear hb9
          go_wp2_with fail
          go_ret
          exact ⟨rfl, HB9.out⟩

set_option maxRecDepth 100000 in
theorem lifted (os : Os) (started : os.Started) (H : Type) (enc : TypeId × Value → H) :
    ReturnsInHanded {} Tryd.checked os 3 .any (fun w args => (Rows.linkEndsSpec.pre enc Tryd.prog Tryd.f3 [] false w args ∧ laidMetH Tryd.prog laidR w) ∧ sizedMet enc Tryd.prog Tryd.f3 (OpenSpec.ofChange Rows.linkEndsSpec) false w args) (Rows.linkEndsSpec.post enc Tryd.prog Tryd.f3 false true false false) := by
  refine returnsInHanded_of_change_and (C := Tryd.checked) (X := fun w _ => laidMetH Tryd.prog laidR w) (fun _ _ _ hh h => h.of_heap hh) own started (by kernel_rfl) Tryd.func3
    (ChangeSpec.witness_shaped (enc := enc) (C := Tryd.checked) (os := os) (X := fun w _ => laidMetH Tryd.prog laidR w) false (World.doorLaid Tryd.prog 400 os) #[.agg #[.int .i64 0, .int .i64 0], .slice none 0 0, .int .u8 0, .int .u8 0] 8 rfl (World.shaped_of_RefB (by kernel_rfl) (by kernel_rfl)) (by kernel_rfl) (by kernel_rfl) (by kernel_rfl) (doorR os _)) ?_
  intro W base args ds gs before hval0 hW hcnd hsz0 hL _
  have hsz : (DataW.weightsEach Tryd.prog (Tryd.f3.params.toList ++ Rows.linkEndsSpec.plain.varTypes Tryd.prog) (ds ++ gs)).all (· ≤ reachBytes) = true := hsz0
  clear hsz0
  have hval : ∀ (j : Nat) t v, Tryd.f3.params[j]? = some t → args[j]? = some v → Value.okWide Tryd.prog W .any base t v := hval0
  have hW' := hW
  obtain ⟨p, q, hA0, hV, rfl, hfz, hnd⟩ := hW
  have hA : DataW.TrodAll enc Tryd.prog W 0 (fun _ => true) true Tryd.f3.params.toList args.toList ds p := hA0
  rw [Tryd.params3] at hA hval hsz
  obtain ⟨v0, vs0, d0, ds0, p0, q0, hargs, rfl, rfl, h0, r0⟩ := trodAll_cons hA
  obtain ⟨v1, vs1, d1, ds1, p1, q1, rfl, rfl, rfl, h1, r1⟩ := trodAll_cons r0
  obtain ⟨v2, vs2, d2, ds2, p2, q2, rfl, rfl, rfl, h2, r2⟩ := trodAll_cons r1
  obtain ⟨v3, vs3, d3, ds3, p3, q3, rfl, rfl, rfl, h3, r3⟩ := trodAll_cons r2
  obtain ⟨rfl, rfl, rfl⟩ := trodAll_nil r3
  obtain rfl : args = #[v0, v1, v2, v3] := by cases args; simp_all
  obtain ⟨rfl, rfl⟩ := trodVars_none hV
  have k0 := h0
  have lt0 : ∀ x ∈ p0, x.block < W.heap.size := by obtain ⟨m, hm⟩ := k0; exact DataW.trod_lt m _ _ _ hm
  have k1 := h1
  have lt1 : ∀ x ∈ p1, x.block < W.heap.size := by obtain ⟨m, hm⟩ := k1; exact DataW.trod_lt m _ _ _ hm
  have k2 := h2
  have lt2 : ∀ x ∈ p2, x.block < W.heap.size := by obtain ⟨m, hm⟩ := k2; exact DataW.trod_lt m _ _ _ hm
  have k3 := h3
  have lt3 : ∀ x ∈ p3, x.block < W.heap.size := by obtain ⟨m, hm⟩ := k3; exact DataW.trod_lt m _ _ _ hm
  obtain ⟨y0, z0, rfl, w0, u0⟩ := open_two Tryd.underlying23 ⟨rfl, rfl⟩ ⟨rfl, rfl⟩ Tryd.underlying3 (by kernel_rfl) (by kernel_rfl) (hval 0 23 v0 rfl rfl) h0
  obtain ⟨a1, n1, c1, b1, rfl, w1, l1, s1⟩ := open_bys Tryd.underlying24 Tryd.underlying5 (by kernel_rfl) (by kernel_rfl) (hval 1 24 v1 rfl rfl) (fun _ => rfl) h1 (fun el sp hd => sized_slice hsz (j := 1) (t := 24) (e := 5) rfl (by rw [hd]; rfl) Tryd.underlying24)
  obtain ⟨x2, rfl, rfl, rfl, w2⟩ := open_int Tryd.underlying5 (hval 2 5 v2 rfl rfl) h2
  obtain ⟨x3, rfl, rfl, rfl, w3⟩ := open_int Tryd.underlying5 (hval 3 5 v3 rfl rfl) h3
  clear hA0 hval0
  refine (walk y0 z0 a1 n1 c1 b1 x2 x3 W (tabsR hL) w0 u0 w1 l1 s1 (wf_u8 w2) (wf_u8 w3)).mono fun e W' ⟨he, bel⟩ => ?_
  subst he
  exact ⟨_, rfl, _, _, _, [], _, [], hW', trodAll_mk1 (shut_bool Tryd.underlying4 _), (trodAll_cons_mk (Below.trod laidOut (by kernel_rfl) (of_decide_eq_true (by kernel_rfl)) k0 bel lt0) (trodAll_cons_mk (Below.trod laidOut (by kernel_rfl) (of_decide_eq_true (by kernel_rfl)) k1 bel lt1) (trodAll_cons_mk (Below.trod laidOut (by kernel_rfl) (of_decide_eq_true (by kernel_rfl)) k2 bel lt2) (trodAll_cons_mk (Below.trod laidOut (by kernel_rfl) (of_decide_eq_true (by kernel_rfl)) k3 bel lt3) trodAll_mk0)))), rfl, bel.frame _, fun h => by cases h⟩

theorem over : Rows.linkEndsRow.holds Tryd.pinned (OpenSpec.ofChange Rows.linkEndsSpec) :=
  OpenClaim.holds_of_wide 3 Tryd.f3 rfl rfl rfl rfl rfl rfl rfl ⟨rfl, rfl, rfl, rfl, rfl⟩ rfl rfl rfl rfl rfl (by kernel_rfl) Tryd.func3 (by kernel_rfl)
    (of_decide_eq_true (by kernel_rfl)) (by unfold Func.isWrapper; first | (rw [if_pos (by decide +kernel)]; kernel_rfl) | (rw [if_neg (by decide +kernel)]; exact ⟨rfl, rfl⟩))
    (fun os started H enc _ => lifted os started H enc)

/-- The card: what the row lists is tied to the program's own text. -/
theorem proved : Rows.LinkEndsCardSaid :=
  Claim7.holds_tied_plain_at .later [] [.handle] true Rows.linkEndsCard.stood.harness true
    over (fun _ h => by cases h) (by kernel_rfl) (fun _ h => by cases h) linkEnds_row_tie rfl ⟨rfl, rfl⟩ (by kernel_rfl) rfl
    (fun f fn hf hfn => by
      obtain rfl : f = 3 := Option.some.inj ((show Tryd.prog.funcNamed "lifeline/lifelinelaw12.LinkEnds" = some 3 by kernel_rfl).symm.trans hf) |>.symm
      obtain rfl : fn = Tryd.f3 := (Option.some.inj (Tryd.func3.symm.trans hfn)).symm
      exact ⟨by kernel_rfl, fun j t ht => by
        rw [Tryd.params3] at ht
        have hm : t ∈ [23, 24, 5, 5] := by simpa using Array.mem_of_getElem? ht
        have hall : ([23, 24, 5, 5].all fun u => !Tryd.prog.wantsStandIn u) = true := by kernel_rfl
        exact (show Tryd.prog.wantsStandIn t = false by simpa using List.all_eq_true.1 hall t hm)⟩)
    (by kernel_rfl)
end Go.Proofs.YtjbkhaoddababaaDoor.linkEnds
