/-
  'lifelinelaw20.TargetScript' answers true for every input of the row, and leaves its arguments as they were.
  Conditions: the arguments hold together at most 1048576 values and bytes, each counted each time that it is reached; the package-level variables that the row lists lie as the program's own text lays them (the card ties them to it; what is pinned is a constant of the library's).
-/
import Derived.Test.YtonloefjhofeeaaGreatDoorRows
import Derived.Test.YtonloefjhofeeaaGreatDoorMdl
import Derived.Test.YtonloefjhofeeaaGreatDoorFrameTwo
import Derived.Test.YtonloefjhofeeaaGreatDoorTac
import Derived.Test.YtonloefjhofeeaaGreatDoorFrame
import Derived.Test.YtonloefjhofeeaaGreatDoorFrameBoard
import Derived.Test.YtonloefjhofeeaaGreatDoorCards
import Derived.WalkKit
import Derived.ProofKit
import Derived.OpenShut
import Derived.ShutString
import Derived.ChangeOld
import Derived.Below
import Derived.Deep.DeepHandedRow
import Derived.Deep.DeepWitnessRowRef
namespace Go.Proofs.YtonloefjhofeeaaGreatDoor.targetScript
open Go.ChangeShapes Go.WideShapes Go.ChangeAt Go.RowKit
open Go.ChangeMaps (open_string shut_string)
set_option linter.unusedVariables false

theorem own : ownKnob Tryz.prog.godebug = none := by kernel_rfl
theorem laidOut : laidOutB Tryz.prog = true := by kernel_rfl

set_option maxRecDepth 100000 in
set_option maxHeartbeats 8000000 in
theorem walk (y0 z0 : Int) (a1 : Option Addr) (n1 c1 : Nat) (t1s : List Tac) (w : World) (hS : Sup w) (h0 : -9223372036854775808 ≤ y0 ∧ y0 ≤ 9223372036854775807) (g0 : -9223372036854775808 ≤ z0 ∧ z0 ≤ 9223372036854775807) (h1 : TacS w a1 n1 t1s) (l1 : n1 ≤ c1) (s1 : c1 ≤ 9223372036854775807) (z1 : (t1s.map szTac).sum ≤ 1048576) :
    Calls Tryz.prog 3 #[.agg #[.int .i64 y0, .int .i64 z0], .slice a1 n1 c1] w fun e w' => e = .returned (.bool true) ∧ Below w.heap.size w w' := by
  obtain ⟨q, hq⟩ : ∃ q, Int.tmod z0 5 = q := ⟨_, rfl⟩
  have hq5 : -5 < q ∧ q < 5 := by
    have h1 := Int.tmod_lt_of_pos z0 (show (0 : Int) < 5 by omega)
    have h2 := Int.lt_tmod_of_pos z0 (show (0 : Int) < 5 by omega)
    omega
  obtain ⟨r, hr⟩ : ∃ r : Nat, Int.tmod (q + 5) 5 = (r : Int) ∧ r < 5 := by
    rw [Int.tmod_eq_emod_of_nonneg (by omega)]
    exact ⟨((q + 5) % 5).toNat, by omega, by omega⟩
  obtain ⟨hr, hr5⟩ := hr
  obtain ⟨p, hp, hT, hW⟩ := bp_ex y0 (1 + (r : Int))
  have HP := keepHid hp
  obtain ⟨w1, hw1⟩ : ∃ w1, w.alloc (.cells #[.int .i64 y0, .int .i64 z0] 23) = w1 := ⟨_, rfl⟩
  have hb1 : Below w.heap.size w w1 := by rw [← hw1]; exact (Below.refl _ _).alloc (Nat.le_refl _) _
  have hk1 : Blk w1 w.heap.size 23 #[.int .i64 y0, .int .i64 z0] := by rw [← hw1]; exact Blk.new w _ _
  have HAW := keepHid (awake_any20 w1 (hS.below hb1 (Nat.le_refl _)))
  have HST : Hid (∀ wx, Below w.heap.size w wx → Stan w wx p y0 (1 + (r : Int))) := keepHid (fun wx hx => ⟨hx, hS, hT, hW⟩)
  have HB1 := keepHid hb1
  have HK1 := keepHid hk1
  have HAC := keepHid h1
  have HZ1 := keepHid z1
  have HZ2 : Hid ((([] : List (List UInt8)).map fun b => 1 + b.length).sum ≤ 1048576) := keepHid (by simp)
  have hnl := h1.len
  have hn0 : n1 ≤ 100000 := by have := acts_few t1s z1; omega
  have HQ5 := keepHid hq5
  have hq51 := hq5.1
  have hq52 := hq5.2
  have hr5I : (r : Int) < 5 := by omega
  clear hT hW hS hp hb1 hk1 h0 h1 z1 hq5
  go_enter Tryz.func3, Tryz.ntmps3
  go_wp2_with fail
  try rw [hw1]
  clear hw1
  with_reducible refine HAW.out.mono ?_
  rintro e w2 ⟨rfl, hb2⟩
  have hk2 := HK1.out.below hb2 HK1.out.lt
  have d1 : w2.cell? ⟨w.heap.size, 1, none⟩ = some (.int .i64 z0) := hk2.cell 1
  have df := hk2.frozen
  obtain ⟨w3, hw3⟩ : ∃ w3, w2.setCell ⟨w.heap.size, 1, none⟩ (.int .i64 (1 + (r : Int))) = w3 := ⟨_, rfl⟩
  have hk3 : Blk w3 w.heap.size 23 #[.int .i64 y0, .int .i64 (1 + (r : Int))] := by rw [← hw3]; exact hk2.put 1 _
  have hb3 : Below w.heap.size w w3 := by rw [← hw3]; exact (HB1.out.trans (hb2.mono HB1.out.size)).setCell (p := ⟨w.heap.size, 1, none⟩) (Nat.le_refl _) _
  have HK3 := keepHid hk3
  have HB3 := keepHid hb3
  have HCF : Hid (∀ wx, Below w3.heap.size w3 wx → wx.cell? ⟨w.heap.size, 0, none⟩ = some (.int .i64 y0) ∧ wx.cell? ⟨w.heap.size, 1, none⟩ = some (.int .i64 (1 + (r : Int)))) := keepHid (fun wx hx => ⟨(HK3.out.below hx HK3.out.lt).cell 0, (HK3.out.below hx HK3.out.lt).cell 1⟩)
  obtain ⟨e0, e1⟩ := HCF.out w3 (Below.refl _ _)
  have HOF : Hid (∀ wx, Below w3.heap.size w3 wx → Calls Tryz.prog 10 #[.agg #[.int .i64 y0, .int .i64 (1 + (r : Int))]] wx fun e w5 => ∃ Gt, e = .returned (.pointer (some ⟨Gt, 0, none⟩)) ∧ w5.cell? ⟨w.heap.size, 0, none⟩ = some (.int .i64 y0) ∧ w5.cell? ⟨w.heap.size, 1, none⟩ = some (.int .i64 (1 + (r : Int))) ∧
      Hid (∀ wy, Below w5.heap.size w5 wy → Calls Tryz.prog 11 #[.agg #[.int .i64 y0, .int .i64 (1 + (r : Int))]] wy fun e w6 => ∃ Gm, e = .returned (.pointer (some ⟨Gm, 0, none⟩)) ∧ Hid (∃ s', Both w w6 Gt Gm p y0 (1 + (r : Int)) 0 0 s'))) := keepHid (fun wx hx => by
    refine (both_new (HST.out wx (HB3.out.trans (hx.mono HB3.out.size)))).mono ?_
    rintro e w5 ⟨Gt, rfl, hb5, hn⟩
    obtain ⟨x0, x1⟩ := HCF.out w5 (hx.trans (hb5.mono hx.size))
    exact ⟨Gt, rfl, x0, x1, hn⟩)
  clear hb2 hk2 HAW HK1 HB1 hk3 hb3
  go_upto_region 4 with fail
  try rw [hw3]
  clear hw3 d1 df
  go_cut [5, 6] (fun v5 v6 wx => ∃ Gt Gm, v5 = .pointer (some ⟨Gt, 0, none⟩) ∧ v6 = .pointer (some ⟨Gm, 0, none⟩) ∧ Hid (∃ s', Both w wx Gt Gm p y0 (1 + (r : Int)) 0 0 s'))
  case first =>
    go_region_with (first
      | (go_at_call 10; (with_reducible refine (HOF.out _ (by first | exact Below.refl _ _ | exact (Below.refl _ _).drew | exact below_drewN (Below.refl _ _) _)).mono ?_); rintro e w5 ⟨Gt, rfl, x0, x1, HNM⟩)
      | (go_at_call 11; (with_reducible refine (HNM.out _ (by first | exact Below.refl _ _ | exact (Below.refl _ _).drew | exact below_drewN (Below.refl _ _) _)).mono ?_); rintro e w6 ⟨Gm, rfl, HB6⟩))
    all_goals
      go_wp2_with fail
      go_meet
      case rel => exact ⟨_, _, rfl, rfl, HB6⟩
  case rest =>
  obtain ⟨Gt, Gm, rfl, rfl, HB6⟩ := hcut
  clear HOF HCF e0 e1 HK3 HB3 HST
  generalize wc = w6 at *
  obtain ⟨s6, hB6⟩ := HB6.out
  obtain ⟨GS6, g0⟩ := both_store hB6
  have HAG := keepHid (both_agrees hB6 (by omega))
  have HBB := keepHid hB6
  clear hB6 HB6
  go_wp2_with fail
  with_reducible refine HAG.out.mono ?_
  rintro e w7 ⟨rfl, hb7⟩
  have HB7 : Hid (∃ s, Both w w7 Gt Gm p y0 (1 + (r : Int)) 0 (comeT t1s [] 0) s) := keepHid ⟨s6, (HBB.out.below hb7).mono (Nat.le_refl _) (Nat.zero_le _)⟩
  have HN1 : Hid ((1 : Int) = (((1 : UInt8).toNat : Nat) : Int)) := keepHid rfl
  clear hb7 HAG HBB g0
  go_wp2_with fail
  go_loopw [7, 39] (fun vn vk wx => ∃ (k : Nat) (nx : UInt8), k ≤ n1 ∧ vk = .int .i64 (k : Int) ∧ vn = .int .u8 (nx.toNat : Int) ∧ Hid (∃ s, Both w wx Gt Gm p y0 (1 + (r : Int)) k (comeT t1s [] k) s)) (fun _ vk _ => n1 - (intOf vk).toNat)
  case atStart => exact ⟨0, 1, Nat.zero_le _, rfl, by rw [← HN1.out], HB7⟩
  case round =>
    clear HB7 HN1
    obtain ⟨k, nx, hk, rfl, rfl, HTR⟩ := hrel
    by_cases hk3 : k < n1
    · have hkI : (k : Int) < (n1 : Int) := by omega
      obtain ⟨sr, hBr⟩ := HTR.out
      have HBr := keepHid hBr
      have hbr := hBr.bel
      obtain ⟨t, ht⟩ : ∃ t, t1s[k]? = some t := ⟨_, List.getElem?_eq_getElem (by omega)⟩
      obtain ⟨ad, RA, rc, BA, bc, had, hlt, hc0, hten, hF, r1, r2, r3, b1, b2, b3⟩ := HAC.out.at_ ht
      subst had
      have tr : ∀ a : Addr, a.block = ad.block → wr.cell? a = w.cell? a := fun a h => hbr.cell (by rw [h]; exact hlt)
      have k0 := (tr (ad.add (k * 10)) (ad_block _ _)).trans hc0
      have k1 := (tr ⟨(ad.add (k * 10)).block, _, none⟩ (ad_block ad (k * 10))).trans hten.c1
      have k2 := (tr ⟨(ad.add (k * 10)).block, _, none⟩ (ad_block ad (k * 10))).trans hten.c2
      have k3 := (tr ⟨(ad.add (k * 10)).block, _, none⟩ (ad_block ad (k * 10))).trans hten.c3
      have k4 := (tr ⟨(ad.add (k * 10)).block, _, none⟩ (ad_block ad (k * 10))).trans hten.c4
      have k5 := (tr ⟨(ad.add (k * 10)).block, _, none⟩ (ad_block ad (k * 10))).trans hten.c5
      have k6 := (tr ⟨(ad.add (k * 10)).block, _, none⟩ (ad_block ad (k * 10))).trans hten.c6
      have k7 := (tr ⟨(ad.add (k * 10)).block, _, none⟩ (ad_block ad (k * 10))).trans hten.c7
      have k8 := (tr ⟨(ad.add (k * 10)).block, _, none⟩ (ad_block ad (k * 10))).trans hten.c8
      have k9 := (tr ⟨(ad.add (k * 10)).block, _, none⟩ (ad_block ad (k * 10))).trans hten.c9
      obtain ⟨w4, hw4⟩ : ∃ w4, wr.alloc (.cells #[.int .u8 (t.op : Int), .int .u8 (t.way : Int), .int .u16 (t.ad : Int), .int .u16 (t.sz : Int), .slice RA t.raw.length rc, .int .u8 (t.blk.op : Int), .int .u8 (t.blk.nb : Int), .slice BA t.blk.bs.length bc, .int .u16 (t.blk.pl : Int), .int .u8 (t.blk.xr : Int)] 42) = w4 := ⟨_, rfl⟩
      have hb4 : Below wr.heap.size wr w4 := by rw [← hw4]; exact (Below.refl _ _).alloc (Nat.le_refl _) _
      have hb04 := hbr.trans (hb4.mono hbr.size)
      have hbk4 : Blk w4 wr.heap.size 42 (tacL t (.slice RA t.raw.length rc) (.slice BA t.blk.bs.length bc)) := by rw [← hw4]; exact Blk.new wr _ _
      have q0 : w4.cell? ⟨wr.heap.size, 0, none⟩ = some (.int .u8 (t.op : Int)) := hbk4.cell 0
      have q1 : w4.cell? ⟨wr.heap.size, 1, none⟩ = some (.int .u8 (t.way : Int)) := hbk4.cell 1
      have q2 : w4.cell? ⟨wr.heap.size, 2, none⟩ = some (.int .u16 (t.ad : Int)) := hbk4.cell 2
      have q3 : w4.cell? ⟨wr.heap.size, 3, none⟩ = some (.int .u16 (t.sz : Int)) := hbk4.cell 3
      have q4 : w4.cell? ⟨wr.heap.size, 4, none⟩ = some (.slice RA t.raw.length rc) := hbk4.cell 4
      have q5 : w4.cell? ⟨wr.heap.size, 5, none⟩ = some (.int .u8 (t.blk.op : Int)) := hbk4.cell 5
      have q6 : w4.cell? ⟨wr.heap.size, 6, none⟩ = some (.int .u8 (t.blk.nb : Int)) := hbk4.cell 6
      have q7 : w4.cell? ⟨wr.heap.size, 7, none⟩ = some (.slice BA t.blk.bs.length bc) := hbk4.cell 7
      have q8 : w4.cell? ⟨wr.heap.size, 8, none⟩ = some (.int .u16 (t.blk.pl : Int)) := hbk4.cell 8
      have q9 : w4.cell? ⟨wr.heap.size, 9, none⟩ = some (.int .u8 (t.blk.xr : Int)) := hbk4.cell 9
      clear hbk4
      have hop := hF.op
      have hopI : (t.op : Int) ≤ 255 := by omega
      obtain ⟨o8, ho8⟩ : ∃ o8, t.op % 8 = o8 := ⟨_, rfl⟩
      have t8 : Int.tmod (t.op : Int) 8 = (o8 : Int) := by rw [Int.tmod_eq_emod_of_nonneg (by omega)]; omega
      have ho8I : (o8 : Int) < 8 := by omega
      have hcl := come_le HZ1.out HZ2.out (show k ≤ t1s.length by omega)
      have hsz : szTac t ≤ 1048576 := by
        have q := sum_next szTac t1s k t ht
        have q2 := sum_take szTac t1s (k + 1)
        have q3 := HZ1.out
        omega
      have hcm := sum_next szTac t1s k t ht
      have hcn : comeT t1s [] k + (1100 + szTac t) ≤ comeT t1s [] (k + 1) := by
        have e : ∀ j, sumY [] j = 0 := fun j => by unfold sumY; simp
        unfold comeT
        rw [e, e]
        unfold sumA
        omega
      by_cases h7 : o8 = 7
      · have h7b : ((o8 : Int) == 7) = true := by simp; omega
        have HTK := keepHid (fun wx (hx : Below w4.heap.size w4 wx) => both_tick HP.out HBr.out (hb4.trans (hx.mono hb4.size)) (by omega) (by omega))
        unfold CvAt at HTK
        generalize t.raw.length = rl at *
        generalize t.blk.bs.length = bl at *
        clear tr hBr hbr hc0 hten hF r1 r2 r3 b1 b2 b3 hb4 hb04 hlt HTR ho8 h7 HBr hop
        go_upto_region 13 with fail
        clear k0 k1 k2 k3 k4 k5 k6 k7 k8 k9 hw4 q0 q1 q2 q3 q4 q5 q6 q7 q8 q9
        go_region_with (first
          | (go_at_call 13; (with_reducible refine (HTK.out _ (by first | exact Below.refl _ _ | exact (Below.refl _ _).drew | exact below_drewN (Below.refl _ _) _)).mono ?_); rintro e w5 ⟨A5, n5, c5, S5, L, rfl, cv5, cv5d, hL5, hL9, HMT⟩)
          | (go_at_call 14; (with_reducible refine (HMT.out _ (by first | exact Below.refl _ _ | exact (Below.refl _ _).drew | exact below_drewN (Below.refl _ _) _)).mono ?_); rintro e w6 ⟨rfl, cv6, cv6d, HBO⟩))
        all_goals
          obtain ⟨m3, hm3⟩ : ∃ m3, L % 3 = m3 := ⟨_, rfl⟩
          have hm32 : m3 < 3 := by omega
          have tm3 : Int.tmod (L : Int) 3 = (m3 : Int) := by rw [Int.tmod_eq_emod_of_nonneg (by omega)]; omega
          have hm3I : (m3 : Int) < 3 := by omega
          have HN8 : Hid ((((UInt8.ofNat (m3 + 1)).toNat : Nat) : Int) = (m3 : Int) + 1) := keepHid (by simp; omega)
          have hss : (S5.toList == S5.toList) = true := by simp
          obtain ⟨s6, hB6⟩ := HBO.out
          have HB6 := keepHid hB6
          have HAG := keepHid (both_agrees hB6 (by omega))
          clear hB6 HBO hm3
          go_wp2_with fail
          with_reducible refine HAG.out.mono ?_
          rintro e w7 ⟨rfl, hb7⟩
          have HB7 : Hid (∃ s, Both w w7 Gt Gm p y0 (1 + (r : Int)) (k + 1) (comeT t1s [] (k + 1)) s) := keepHid ⟨s6, (HB6.out.below hb7).mono (by omega) (by omega)⟩
          clear hb7 HAG
          go_wp2_with fail
          go_roundw
          case rel => exact ⟨k + 1, UInt8.ofNat (m3 + 1), by omega, by go_num, by rw [HN8.out], HB7⟩
          case measure => simp [intOf]; omega
      · have h7b : ((o8 : Int) == 7) = false := by simp; omega
        have h7c : ¬ (o8 : Int) = 7 := by omega
        have hbl := bytes_len t nx
        have HBY : Hid (∀ wx, Below w4.heap.size w4 wx → Calls Tryz.prog 15 #[.agg #[.int .u8 (t.op : Int), .int .u8 (t.way : Int), .int .u16 (t.ad : Int), .int .u16 (t.sz : Int), .slice RA t.raw.length rc, .int .u8 (t.blk.op : Int), .int .u8 (t.blk.nb : Int), .slice BA t.blk.bs.length bc, .int .u16 (t.blk.pl : Int), .int .u8 (t.blk.xr : Int)], .int .u8 (nx.toNat : Int)] wx fun e w5 => ∃ A5 n5 c5, e = .returned (.slice A5 n5 c5) ∧ n5 ≤ 1100 + szTac t ∧
            Hid (∀ wy, Below w5.heap.size w5 wy → Calls Tryz.prog 16 #[.pointer (some ⟨Gt, 0, none⟩), .slice A5 n5 c5] wy fun e w6 => ∃ A n c S L, e = .returned (.slice A n c) ∧ CvAt A n c S w6 ∧ CvAt A n c S w6.drew ∧ S.size = L ∧ L ≤ 100000000000 ∧
              Hid (∀ wz, Below w6.heap.size w6 wz → Calls Tryz.prog 17 #[.pointer (some ⟨Gm, 0, none⟩), .slice A5 n5 c5] wz fun e w7 => e = .returned (.string S) ∧ CvAt A n c S w7 ∧ CvAt A n c S w7.drew ∧ Hid (∃ s', Both w w7 Gt Gm p y0 (1 + (r : Int)) (k + 1) (comeT t1s [] k + n5) s')))) := keepHid (fun wx hx => by
          have hb0x := hb04.trans (hx.mono hb04.size)
          refine (show Calls Tryz.prog 15 #[.agg (tacL t (.slice RA t.raw.length rc) (.slice BA t.blk.bs.length bc)), .int .u8 (nx.toNat : Int)] wx _ from bytes_any20 t hF nx RA BA t.raw.length rc t.blk.bs.length bc w.heap.size wx (HBr.out.below (hb4.trans (hx.mono hb4.size))).supw (r1.below hb0x) (b1.below hb0x) hb0x.size r2 r3 b2 b3).mono ?_
          rintro e w5 ⟨A5, n5, c5, rfl, u1, u2, u3, u4, u5⟩
          have hb45 := hx.trans (u4.mono hx.size)
          have hln := u1.len
          refine ⟨A5, n5, c5, rfl, by omega, keepHid (fun wy hy => ?_)⟩
          refine both_put HP.out HBr.out ((hb4.trans (hb45.mono hb4.size)).trans (hy.mono (Nat.le_trans hb4.size hb45.size))) (by omega) (by omega) A5 n5 c5 _ ((u1.below hy).more hy.size) u2 u3 (by omega) (fun ad e h0 => ?_)
          rcases u5 ad e h0 with h | h
          · exact .inl h
          · exact .inr (Nat.le_trans (Nat.le_trans hb4.size hx.size) h))
        unfold CvAt at HBY
        generalize t.raw.length = rl at *
        generalize t.blk.bs.length = bl at *
        clear tr hBr hbr hc0 hten hF r1 r2 r3 b1 b2 b3 hb4 hb04 hlt HTR ho8 h7 HBr hop hbl
        go_wp2_with fail
        with_reducible refine (HBY.out _ (Below.refl _ _)).mono ?_
        rintro e w5 ⟨AB, nB, cB, rfl, hnB, HPU⟩
        clear k0 k1 k2 k3 k4 k5 k6 k7 k8 k9 hw4 q0 q1 q2 q3 q4 q5 q6 q7 q8 q9 HBY
        go_upto_region 15 with fail
        go_region_with (first
          | (go_at_call 16; (with_reducible refine (HPU.out _ (by first | exact Below.refl _ _ | exact (Below.refl _ _).drew | exact below_drewN (Below.refl _ _) _)).mono ?_); rintro e w5 ⟨A5, n5, c5, S5, L, rfl, cv5, cv5d, hL5, hL9, HMT⟩)
          | (go_at_call 17; (with_reducible refine (HMT.out _ (by first | exact Below.refl _ _ | exact (Below.refl _ _).drew | exact below_drewN (Below.refl _ _) _)).mono ?_); rintro e w6 ⟨rfl, cv6, cv6d, HBO⟩))
        all_goals
          obtain ⟨m3, hm3⟩ : ∃ m3, L % 3 = m3 := ⟨_, rfl⟩
          have hm32 : m3 < 3 := by omega
          have tm3 : Int.tmod (L : Int) 3 = (m3 : Int) := by rw [Int.tmod_eq_emod_of_nonneg (by omega)]; omega
          have hm3I : (m3 : Int) < 3 := by omega
          have HN8 : Hid ((((UInt8.ofNat (m3 + 1)).toNat : Nat) : Int) = (m3 : Int) + 1) := keepHid (by simp; omega)
          have hss : (S5.toList == S5.toList) = true := by simp
          obtain ⟨s6, hB6⟩ := HBO.out
          have HB6 := keepHid hB6
          have HAG := keepHid (both_agrees hB6 (by omega))
          clear hB6 HBO hm3
          go_wp2_with fail
          with_reducible refine HAG.out.mono ?_
          rintro e w7 ⟨rfl, hb7⟩
          have HB7 : Hid (∃ s, Both w w7 Gt Gm p y0 (1 + (r : Int)) (k + 1) (comeT t1s [] (k + 1)) s) := keepHid ⟨s6, (HB6.out.below hb7).mono (by omega) (by omega)⟩
          clear hb7 HAG
          go_wp2_with fail
          go_roundw
          case rel => exact ⟨k + 1, UInt8.ofNat (m3 + 1), by omega, by go_num, by rw [HN8.out], HB7⟩
          case measure => simp [intOf]; omega
    · obtain rfl : k = n1 := by omega
      obtain ⟨sr, hBr⟩ := HTR.out
      have HBL := keepHid hBr.bel
      clear hBr HTR
      go_wp2
      go_ret
      exact ⟨rfl, HBL.out⟩

set_option maxRecDepth 100000 in
theorem lifted (os : Os) (started : os.Started) (H : Type) (enc : TypeId × Value → H) (F : Stop.Interp) :
    ReturnsInHanded {} Tryz.checked os 3 .any ((Rows.OpenSpec.upto Rows.targetScriptSpec).preRow enc Tryz.prog Tryz.f3 Rows.targetScriptUptoRow.domain false laid7) (((Rows.OpenSpec.upto Rows.targetScriptSpec).at F).post enc Tryz.prog Tryz.f3 false true false false) := by
  refine returnsInHanded_of_row (C := Tryz.checked) (s := Rows.OpenSpec.upto Rows.targetScriptSpec) own started (by kernel_rfl) Tryz.func3
    (witness_row_atRef (enc := enc) (C := Tryz.checked) false (worldF os) #[.agg #[.int .i64 0, .int .i64 0], .slice none 0 0] (worldF_os os) (by kernel_rfl) (by kernel_rfl) (by kernel_rfl)
      (OpenSpec.preRow_of_cond 8 (x := ([.agg [.lit (.int .i64 0), .lit (.int .i64 0)], .nil], [], [])) (by kernel_rfl) rfl (fun k hk => by cases hk; rfl) (by kernel_rfl) (door7 os _))) ?_
  intro W base args ds gs before hval0 hW hcnd hsmall0 hsz0 hL _ _
  have hsz : (DataW.weightsEach Tryz.prog (Tryz.f3.params.toList ++ Rows.targetScriptSpec.plain.varTypes Tryz.prog) (ds ++ gs)).all (· ≤ reachBytes) = true := hsz0
  clear hsz0
  have hsmall : Rows.uptoBulkAll (ds ++ gs) ≤ 1048576 := of_decide_eq_true (hsmall0 _ rfl)
  clear hsmall0
  have hval : ∀ (j : Nat) t v, Tryz.f3.params[j]? = some t → args[j]? = some v → Value.okWide Tryz.prog W .any base t v := hval0
  have hW' := hW
  obtain ⟨p, q, hA0, hV, rfl, hfz, hnd⟩ := hW
  have hA : DataW.TrodAll enc Tryz.prog W 0 (fun _ => true) true Tryz.f3.params.toList args.toList ds p := hA0
  rw [Tryz.params3] at hA hval hsz
  obtain ⟨v0, vs0, d0, ds0, p0, q0, hargs, rfl, rfl, h0, r0⟩ := trodAll_cons hA
  obtain ⟨v1, vs1, d1, ds1, p1, q1, rfl, rfl, rfl, h1, r1⟩ := trodAll_cons r0
  obtain ⟨rfl, rfl, rfl⟩ := trodAll_nil r1
  obtain rfl : args = #[v0, v1] := by cases args; simp_all
  obtain ⟨rfl, rfl⟩ := trodVars_none hV
  have k0 := h0
  have lt0 : ∀ x ∈ p0, x.block < W.heap.size := by obtain ⟨m, hm⟩ := k0; exact DataW.trod_lt m _ _ _ hm
  have k1 := h1
  have lt1 : ∀ x ∈ p1, x.block < W.heap.size := by obtain ⟨m, hm⟩ := k1; exact DataW.trod_lt m _ _ _ hm
  obtain ⟨y0, z0, rfl, w0, u0⟩ := open_two Tryz.underlying23 ⟨rfl, rfl⟩ ⟨rfl, rfl⟩ Tryz.underlying3 (by kernel_rfl) (by kernel_rfl) (hval 0 23 v0 rfl rfl) h0
  obtain ⟨a1, n1, c1, t1s, rfl, w1, l1, s1, b1⟩ := open_tacz Tryz.underlying24 Tryz.underlying42 Tryz.underlying40 ⟨rfl, rfl⟩ ⟨rfl, rfl⟩ ⟨rfl, rfl⟩ ⟨rfl, rfl⟩ ⟨rfl, rfl⟩ ⟨rfl, rfl⟩ ⟨rfl, rfl⟩ ⟨rfl, rfl⟩ ⟨rfl, rfl⟩ ⟨rfl, rfl⟩ ⟨rfl, rfl⟩ Tryz.underlying31 Tryz.underlying5 Tryz.underlying38 (by kernel_rfl) (by kernel_rfl) (by kernel_rfl) (by kernel_rfl) (by kernel_rfl) (hval 1 24 v1 rfl rfl) h1
  clear hA0 hval0
  have z1 : (t1s.map szTac).sum ≤ 1048576 := by simp only [List.append_nil, Rows.uptoBulkAll] at hsmall; omega
  refine (walk y0 z0 a1 n1 c1 t1s W (sup7 hL) w0 u0 w1 l1 s1 z1).mono fun e W' ⟨he, bel⟩ => ?_
  subst he
  exact ⟨_, rfl, _, _, _, [], _, [], hW', trodAll_mk1 (shut_bool Tryz.underlying4 _), (trodAll_cons_mk (Below.trod laidOut (by kernel_rfl) (of_decide_eq_true (by kernel_rfl)) k0 bel lt0) (trodAll_cons_mk (Below.trod laidOut (by kernel_rfl) (of_decide_eq_true (by kernel_rfl)) k1 bel lt1) trodAll_mk0)), rfl, bel.frame _, fun h => by cases h⟩

theorem over : Rows.targetScriptUptoRow.holds Tryz.pinned (Rows.OpenSpec.upto Rows.targetScriptSpec) :=
  OpenClaim.holds_of_cond 3 Tryz.f3 rfl rfl rfl rfl rfl rfl rfl ⟨rfl, rfl, rfl, rfl, rfl⟩ rfl rfl rfl rfl rfl (by kernel_rfl) Tryz.func3 (by kernel_rfl)
    (of_decide_eq_true (by kernel_rfl)) (by unfold Func.isWrapper; first | (rw [if_pos (by decide +kernel)]; kernel_rfl) | (rw [if_neg (by decide +kernel)]; exact ⟨rfl, rfl⟩))
    (fun os started H enc _ F => by rw [OpenClaim.pre_eq_preRow]; exact lifted os started H enc F)

/-- The card: what the row lists is tied to the program's own text. -/
theorem proved : Rows.TargetScriptUptoCardSaid :=
  Claim7.holds_tied_plain_at .later [] [.data, .data, .data, .data, .sentinel, .sentinel, .pinned] true Rows.targetScriptUptoCard.stood.harness true
    over (fun _ h => by cases h) (by kernel_rfl) (fun _ h => by cases h) targetScriptUpto_row_tie rfl ⟨rfl, rfl⟩ (by kernel_rfl) rfl
    (fun f fn hf hfn => by
      obtain rfl : f = 3 := Option.some.inj ((show Tryz.prog.funcNamed "lifeline/lifelinelaw20.TargetScript" = some 3 by kernel_rfl).symm.trans hf) |>.symm
      obtain rfl : fn = Tryz.f3 := (Option.some.inj (Tryz.func3.symm.trans hfn)).symm
      exact ⟨by kernel_rfl, fun j t ht => by
        rw [Tryz.params3] at ht
        have hm : t ∈ [23, 24] := by simpa using Array.mem_of_getElem? ht
        have hall : ([23, 24].all fun u => !Tryz.prog.wantsStandIn u) = true := by kernel_rfl
        exact (show Tryz.prog.wantsStandIn t = false by simpa using List.all_eq_true.1 hall t hm)⟩)
    (by kernel_rfl)
end Go.Proofs.YtonloefjhofeeaaGreatDoor.targetScript
