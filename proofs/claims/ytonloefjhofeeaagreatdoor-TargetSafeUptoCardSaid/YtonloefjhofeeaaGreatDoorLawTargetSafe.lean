/-
  'lifelinelaw20.TargetSafe' answers true for every input of the row, and leaves its arguments as they were.
  Conditions: the arguments hold together at most 1048576 values and bytes, each counted each time that it is reached; the package-level variables that the row lists lie as the program's own text lays them (the card ties them to it; what is pinned is a constant of the library's).
-/
import Derived.Test.YtonloefjhofeeaaGreatDoorRows
import Derived.Test.YtonloefjhofeeaaGreatDoorTac
import Derived.Test.YtonloefjhofeeaaGreatDoorFrameTwo
import Derived.Test.YtonloefjhofeeaaGreatDoorFrameRows
import Derived.Test.YtonloefjhofeeaaGreatDoorFrame
import Derived.Test.YtonloefjhofeeaaGreatDoorFrameBoard
import Derived.Test.YtonloefjhofeeaaGreatDoorCards
import Derived.Test.YtonloefjhofeeaaGreatDoorFrameRows
import Derived.WalkKit
import Derived.ProofKit
import Derived.OpenShut
import Derived.ShutString
import Derived.ChangeOld
import Derived.Below
import Derived.Deep.DeepHandedRow
import Derived.Deep.DeepWitnessRowRef
namespace Go.Proofs.YtonloefjhofeeaaGreatDoor.targetSafe
open Go.ChangeShapes Go.WideShapes Go.ChangeAt Go.RowKit
open Go.ChangeMaps (open_string shut_string)
set_option linter.unusedVariables false

theorem own : ownKnob Tryz.prog.godebug = none := by kernel_rfl
theorem laidOut : laidOutB Tryz.prog = true := by kernel_rfl

set_option maxRecDepth 100000 in
set_option maxHeartbeats 8000000 in
theorem walk (y0 z0 : Int) (a1 : Option Addr) (n1 c1 : Nat) (t1s : List Tac) (a2 : Option Addr) (n2 c2 : Nat) (y2 : List (List UInt8)) (w : World) (hS : Sup w) (h0 : -9223372036854775808 ≤ y0 ∧ y0 ≤ 9223372036854775807) (g0 : -9223372036854775808 ≤ z0 ∧ z0 ≤ 9223372036854775807) (h1 : TacS w a1 n1 t1s) (l1 : n1 ≤ c1) (s1 : c1 ≤ 9223372036854775807) (z1 : (t1s.map szTac).sum ≤ 1048576) (h2 : RowsB w a2 n2 y2) (l2 : n2 ≤ c2) (s2 : c2 ≤ 9223372036854775807) (z2 : (y2.map fun b => 1 + b.length).sum ≤ 1048576) :
    Calls Tryz.prog 6 #[.agg #[.int .i64 y0, .int .i64 z0], .slice a1 n1 c1, .slice a2 n2 c2] w fun e w' => e = .returned (.bool true) ∧ Below w.heap.size w w' := by
  obtain ⟨p, hp, hT, hW⟩ := bp_ex y0 z0
  have HP := keepHid hp
  obtain ⟨w1, hw1⟩ : ∃ w1, w.alloc (.cells #[.int .i64 y0, .int .i64 z0] 23) = w1 := ⟨_, rfl⟩
  have hb1 : Below w.heap.size w w1 := by rw [← hw1]; exact (Below.refl _ _).alloc (Nat.le_refl _) _
  have hk1 : Blk w1 w.heap.size 23 #[.int .i64 y0, .int .i64 z0] := by rw [← hw1]; exact Blk.new w _ _
  have HAW := keepHid (awake_any20 w1 (hS.below hb1 (Nat.le_refl _)))
  have HST : Hid (∀ wx, Below w.heap.size w wx → Stan w wx p y0 z0) := keepHid (fun wx hx => ⟨hx, hS, hT, hW⟩)
  have HB1 := keepHid hb1
  have HK1 := keepHid hk1
  have HAC := keepHid h1
  have HRW := keepHid h2
  have HZ1 := keepHid z1
  have HZ2 := keepHid z2
  have hnl := h1.len
  have hn0 : n1 ≤ 100000 := by have := acts_few t1s z1; omega
  clear hT hW hS hp hb1 hk1 h0 g0 h1 h2 z1 z2
  go_enter Tryz.func6, Tryz.ntmps6
  go_wp2_with fail
  try rw [hw1]
  clear hw1
  with_reducible refine HAW.out.mono ?_
  rintro e w2 ⟨rfl, hb2⟩
  have hk2 := HK1.out.below hb2 HK1.out.lt
  have d0 : w2.cell? ⟨w.heap.size, 0, none⟩ = some (.int .i64 y0) := hk2.cell 0
  have d1 : w2.cell? ⟨w.heap.size, 1, none⟩ = some (.int .i64 z0) := hk2.cell 1
  have HOF := keepHid (of_any20 (HST.out w2 (HB1.out.trans (hb2.mono HB1.out.size))))
  clear hb2 hk2 HAW HK1 HB1
  go_wp2_with fail
  with_reducible refine HOF.out.mono ?_
  rintro e w3 ⟨G, κ3, rfl, hT3, hb3, _⟩
  have HT3 : Hid (∃ κ s, Tgt w w3 G κ p y0 z0 s ∧ FedI s [] (2 * 0) (comeT t1s y2 0) (24 * 0)) := keepHid ⟨κ3, new20, hT3, FedI.new.mono (Nat.zero_le _) (Nat.zero_le _) (Nat.zero_le _)⟩
  have HQ0 : Hid (ByteArray.mk #[] = strB []) := keepHid rfl
  clear hT3 hb3 HOF d0 d1
  unfold ptV
  go_wp2_with fail
  go_loopw [20, 8] (fun i v wr => ∃ (k : Nat) (told : List UInt8), k ≤ n1 ∧ i = .int .i64 (k : Int) ∧ v = .string (strB told) ∧ Hid (∃ κ s, Tgt w wr G κ p y0 z0 s ∧ FedI s told (2 * k) (comeT t1s y2 k) (24 * k))) (fun i _ _ => n1 - (intOf i).toNat)
  case atStart => exact ⟨0, [], Nat.zero_le _, rfl, by rw [← HQ0.out], HT3⟩
  case round =>
    clear HT3 HQ0
    obtain ⟨k, told, hk, rfl, rfl, HTR⟩ := hrel
    by_cases hk3 : k < n1
    · have hkI : (k : Int) < (n1 : Int) := by omega
      obtain ⟨κr, sr, hTr, hFr⟩ := HTR.out
      have hbr := hTr.base.bel
      obtain ⟨t, ht⟩ : ∃ t, t1s[k]? = some t := ⟨_, List.getElem?_eq_getElem (by omega)⟩
      obtain ⟨ad, RA, rc, BA, bc, had, hlt, hc0, hten, hF, r1, r2, r3, b1, b2, b3⟩ := HAC.out.at_ ht
      subst had
      have tr : ∀ a : Addr, a.block = ad.block → wr.cell? a = w.cell? a := fun a h => hbr.cell (by rw [h]; exact hlt)
      have k0 := (tr (ad.add (k * 10)) (ad_block _ _)).trans hc0
      have k1 := (tr ⟨(ad.add (k * 10)).block, _, none⟩ (ad_block ad (k * 10))).trans hten.c1
      have k2 := (tr ⟨(ad.add (k * 10)).block, _, none⟩ (ad_block ad (k * 10))).trans hten.c2
      have k3 := (tr ⟨(ad.add (k * 10)).block, _, none⟩ (ad_block ad (k * 10))).trans hten.c3
      have k4 := (tr ⟨(ad.add (k * 10)).block, _, none⟩ (ad_block ad (k * 10))).trans hten.c4
      have k5 := (tr ⟨(ad.add (k * 10)).block, _, none⟩ (ad_block ad (k * 10))).trans hten.c5
      have k6 := (tr ⟨(ad.add (k * 10)).block, _, none⟩ (ad_block ad (k * 10))).trans hten.c6
      have k7 := (tr ⟨(ad.add (k * 10)).block, _, none⟩ (ad_block ad (k * 10))).trans hten.c7
      have k8 := (tr ⟨(ad.add (k * 10)).block, _, none⟩ (ad_block ad (k * 10))).trans hten.c8
      have k9 := (tr ⟨(ad.add (k * 10)).block, _, none⟩ (ad_block ad (k * 10))).trans hten.c9
      obtain ⟨w4, hw4⟩ : ∃ w4, wr.alloc (.cells #[.int .u8 (t.op : Int), .int .u8 (t.way : Int), .int .u16 (t.ad : Int), .int .u16 (t.sz : Int), .slice RA t.raw.length rc, .int .u8 (t.blk.op : Int), .int .u8 (t.blk.nb : Int), .slice BA t.blk.bs.length bc, .int .u16 (t.blk.pl : Int), .int .u8 (t.blk.xr : Int)] 42) = w4 := ⟨_, rfl⟩
      have hb4 : Below wr.heap.size wr w4 := by rw [← hw4]; exact (Below.refl _ _).alloc (Nat.le_refl _) _
      have hb04 := hbr.trans (hb4.mono hbr.size)
      have hbk4 : Blk w4 wr.heap.size 42 (tacL t (.slice RA t.raw.length rc) (.slice BA t.blk.bs.length bc)) := by rw [← hw4]; exact Blk.new wr _ _
      have q0 : w4.cell? ⟨wr.heap.size, 0, none⟩ = some (.int .u8 (t.op : Int)) := hbk4.cell 0
      have q1 : w4.cell? ⟨wr.heap.size, 1, none⟩ = some (.int .u8 (t.way : Int)) := hbk4.cell 1
      have q2 : w4.cell? ⟨wr.heap.size, 2, none⟩ = some (.int .u16 (t.ad : Int)) := hbk4.cell 2
      have q3 : w4.cell? ⟨wr.heap.size, 3, none⟩ = some (.int .u16 (t.sz : Int)) := hbk4.cell 3
      have q4 : w4.cell? ⟨wr.heap.size, 4, none⟩ = some (.slice RA t.raw.length rc) := hbk4.cell 4
      have q5 : w4.cell? ⟨wr.heap.size, 5, none⟩ = some (.int .u8 (t.blk.op : Int)) := hbk4.cell 5
      have q6 : w4.cell? ⟨wr.heap.size, 6, none⟩ = some (.int .u8 (t.blk.nb : Int)) := hbk4.cell 6
      have q7 : w4.cell? ⟨wr.heap.size, 7, none⟩ = some (.slice BA t.blk.bs.length bc) := hbk4.cell 7
      have q8 : w4.cell? ⟨wr.heap.size, 8, none⟩ = some (.int .u16 (t.blk.pl : Int)) := hbk4.cell 8
      have q9 : w4.cell? ⟨wr.heap.size, 9, none⟩ = some (.int .u8 (t.blk.xr : Int)) := hbk4.cell 9
      clear hbk4
      have HBL : Hid ((bytesT t 1).length ≤ 1100 + szTac t) := keepHid (bytes_len t 1)
      have hcl := come_le HZ1.out HZ2.out (show k ≤ t1s.length by omega)
      have hsz : szTac t ≤ 1048576 := by
        have q := sum_next szTac t1s k t ht
        have q2 := sum_take szTac t1s (k + 1)
        have q3 := HZ1.out
        omega
      have HBY : Hid (∀ wx, Below w4.heap.size w4 wx → Calls Tryz.prog 15 #[.agg #[.int .u8 (t.op : Int), .int .u8 (t.way : Int), .int .u16 (t.ad : Int), .int .u16 (t.sz : Int), .slice RA t.raw.length rc, .int .u8 (t.blk.op : Int), .int .u8 (t.blk.nb : Int), .slice BA t.blk.bs.length bc, .int .u16 (t.blk.pl : Int), .int .u8 (t.blk.xr : Int)], .int .u8 1] wx fun e w5 => ∃ A5 n5 c5, e = .returned (.slice A5 n5 c5) ∧ Below w4.heap.size w4 w5 ∧ Hid (∀ wy, Below w5.heap.size w5 wy → Calls Tryz.prog 16 #[.pointer (some ⟨G, 0, none⟩), .slice A5 n5 c5] wy fun e w6 => ∃ A6 n6 c6 S6 T6, e = .returned (.slice A6 n6 c6) ∧ (convert 31 9 (.slice A6 n6 c6)).run Tryz.prog w6 = .ok (.string S6) w6 ∧ (convert 31 9 (.slice A6 n6 c6)).run Tryz.prog w6.drew = .ok (.string S6) w6.drew ∧ (∀ w, (Op.stringOp .add (strB told) S6).run Tryz.prog w = .ok (.string T6) w) ∧ Hid (∀ wz, Below w6.heap.size w6 wz → Calls Tryz.prog 13 #[.pointer (some ⟨G, 0, none⟩)] wz fun e w7 => ∃ A7 n7 c7 S7 told7, e = .returned (.slice A7 n7 c7) ∧ (convert 31 9 (.slice A6 n6 c6)).run Tryz.prog w7 = .ok (.string S6) w7 ∧ (convert 31 9 (.slice A6 n6 c6)).run Tryz.prog w7.drew = .ok (.string S6) w7.drew ∧ (convert 31 9 (.slice A7 n7 c7)).run Tryz.prog w7 = .ok (.string S7) w7 ∧ (convert 31 9 (.slice A7 n7 c7)).run Tryz.prog w7.drew = .ok (.string S7) w7.drew ∧ (∀ w, (Op.stringOp .add T6 S7).run Tryz.prog w = .ok (.string (strB told7)) w) ∧ Hid (∃ κ s, Tgt w w7 G κ p y0 z0 s ∧ FedI s told7 (2 * k + 1) (comeT t1s y2 k + (1100 + szTac t)) (24 * k + 16))))) := keepHid (fun wx hx => by
        have hb0x := hb04.trans (hx.mono hb04.size)
        refine (show Calls Tryz.prog 15 #[.agg (tacL t (.slice RA t.raw.length rc) (.slice BA t.blk.bs.length bc)), .int .u8 ((1 : UInt8).toNat : Int)] wx _ from bytes_any20 t hF 1 RA BA t.raw.length rc t.blk.bs.length bc w.heap.size wx (hTr.below (hb4.trans (hx.mono hb4.size))).base.supw (r1.below hb0x) (b1.below hb0x) hb0x.size r2 r3 b2 b3).mono ?_
        rintro e w5 ⟨A5, n5, c5, rfl, u1, u2, u3, u4, u5⟩
        have hb45 := hx.trans (u4.mono hx.size)
        refine ⟨A5, n5, c5, rfl, hb45, keepHid (fun wy hy => ?_)⟩
        have hln := u1.len
        have hbl := HBL.out
        refine (safe_put HP.out hTr ((hb4.trans (hb45.mono hb4.size)).trans (hy.mono (Nat.le_trans hb4.size hb45.size))) hFr (by omega) (by omega) A5 n5 c5 _ ((u1.below hy).more hy.size) u2 u3 (by omega) (fun ad e h0 => ?_)).mono ?_
        · rcases u5 ad e h0 with h | h
          · exact .inl h
          · exact .inr (Nat.le_trans (Nat.le_trans hb4.size hx.size) h)
        · rintro e w6 ⟨A6, n6, c6, κ6, out6, s6, rfl, v1, v2, v3, v4, v5⟩
          have hF6 := v3.mono (Nat.le_refl _) (show comeT t1s y2 k + n5 ≤ comeT t1s y2 k + (1100 + szTac t) by omega) (Nat.le_refl _)
          have hl6 := hF6.len
          rw [List.length_append] at hl6
          refine ⟨A6, n6, c6, strB out6, strB (told ++ out6), rfl, v1.str c6, (v1.below (Below.refl _ _).drew).str c6, fun w => run_strAdd _ _ (by omega) w, keepHid (fun wz hz => ?_)⟩
          refine (safe_tick HP.out v2 hz hF6 (by omega) (by omega)).mono ?_
          rintro e w7 ⟨A7, n7, c7, κ7, out7, s7, rfl, x1, x2, x3, x4, x5⟩
          have hv1 := x5 _ _ _ (v1.below hz)
          have hl7 := x3.len
          rw [List.length_append, List.length_append] at hl7
          exact ⟨A7, n7, c7, strB out7, (told ++ out6) ++ out7, rfl, hv1.str c6, (hv1.below (Below.refl _ _).drew).str c6, x1.str c7, (x1.below (Below.refl _ _).drew).str c7, fun w => run_strAdd _ _ (by rw [List.length_append]; omega) w, keepHid ⟨κ7, s7, x2, x3⟩⟩)
      generalize t.raw.length = rl at *
      generalize t.blk.bs.length = bl at *
      clear tr hTr hFr hbr hc0 hten hF r1 r2 r3 b1 b2 b3 hb4 hb04 hlt HTR
      generalize strB told = ST at *
      go_upto_region 8 with fail
      clear k0 k1 k2 k3 k4 k5 k6 k7 k8 k9 hw4
      go_cut [8] (fun v wx => ∃ told7, v = .string (strB told7) ∧ Hid (∃ κ s, Tgt w wx G κ p y0 z0 s ∧ FedI s told7 (2 * k + 1) (comeT t1s y2 k + (1100 + szTac t)) (24 * k + 16)))
      case first =>
        go_region_with (first
          | (go_at_call 15; (with_reducible refine (HBY.out _ (by first | exact Below.refl _ _ | exact (Below.refl _ _).drew | exact below_drewN (Below.refl _ _) _)).mono ?_); rintro e w5 ⟨A5, n5, c5, rfl, hb5, HPU⟩)
          | (go_at_call 16; (with_reducible refine (HPU.out _ (by first | exact Below.refl _ _ | exact (Below.refl _ _).drew | exact below_drewN (Below.refl _ _) _)).mono ?_); rintro e w6 ⟨A6, n6, c6, S6, T6, rfl, cv6, cv6d, ad6, HTK⟩)
          | (go_at_call 13; (with_reducible refine (HTK.out _ (by first | exact Below.refl _ _ | exact (Below.refl _ _).drew | exact below_drewN (Below.refl _ _) _)).mono ?_); rintro e w7 ⟨A7, n7, c7, S7, told7, rfl, cv67, cv67d, cv7, cv7d, ad7, HF7⟩))
        all_goals
          go_wp2_with fail
          go_meet
          case rel => exact ⟨_, rfl, HF7⟩
      case rest =>
        obtain ⟨told7, rfl, HF7⟩ := hcut
        clear HBY HBL
        generalize wc = w8 at *
        have hsumA := sum_next szTac t1s k t ht
        by_cases hky : k < n2
        · have hkyI : (k : Int) < (n2 : Int) := by omega
          obtain ⟨κ7, s7, hT7, hF7⟩ := HF7.out
          have hb7 := hT7.base.bel
          obtain ⟨bs, hbs⟩ : ∃ bs, y2[k]? = some bs := ⟨_, List.getElem?_eq_getElem (by have := HRW.out.1; omega)⟩
          obtain ⟨ad2, Ak, ck, e2, hl2, hc2, hle2, hck, hby2⟩ := HRW.out.2 k bs hbs
          subst e2
          have k20 : w8.cell? (ad2.add k) = some (.slice Ak bs.length ck) := (hb7.cell (by rw [ad_block]; exact hl2)).trans hc2
          have hsumY := sum_next (fun b : List UInt8 => 1 + b.length) y2 k bs hbs
          have hbz : bs.length ≤ 1048576 := by
            have q2 := sum_take (fun b : List UInt8 => 1 + b.length) y2 (k + 1)
            have q3 := HZ2.out
            omega
          have HPU : Hid (∀ wx, Below w8.heap.size w8 wx → Calls Tryz.prog 16 #[.pointer (some ⟨G, 0, none⟩), .slice Ak bs.length ck] wx fun e w9 => ∃ A9 n9 c9 S9 told9, e = .returned (.slice A9 n9 c9) ∧ (convert 31 9 (.slice A9 n9 c9)).run Tryz.prog w9 = .ok (.string S9) w9 ∧ (∀ w, (Op.stringOp .add (strB told7) S9).run Tryz.prog w = .ok (.string (strB told9)) w) ∧ Hid (∃ κ s, Tgt w w9 G κ p y0 z0 s ∧ FedI s told9 (2 * (k + 1)) (comeT t1s y2 (k + 1)) (24 * (k + 1)))) := keepHid (fun wx hx => by
            have hb7x := hb7.trans (hx.mono hb7.size)
            refine (safe_put HP.out hT7 hx hF7 (by omega) (by omega) Ak bs.length ck bs ((hby2.below hb7x).more hb7x.size) hle2 hck (by omega) (fun ad e h0 => ?_)).mono ?_
            · obtain ⟨ad3, _, e3, hlt3, _⟩ := hby2.at_ h0
              obtain rfl : ad = ad3 := by rw [e] at e3; exact Option.some.inj e3
              exact .inl hlt3
            · rintro e w9 ⟨A9, n9, c9, κ9, out9, s9, rfl, v1, v2, v3, v4, v5⟩
              have hF9 := v3.mono (show 2 * k + 1 + 1 ≤ 2 * (k + 1) by omega) (show comeT t1s y2 k + (1100 + szTac t) + bs.length ≤ comeT t1s y2 (k + 1) by unfold comeT sumA sumY at *; omega) (show 24 * k + 16 + 8 ≤ 24 * (k + 1) by omega)
              have hl9 := v3.len
              rw [List.length_append] at hl9
              exact ⟨A9, n9, c9, strB out9, told7 ++ out9, rfl, v1.str c9, fun w => run_strAdd _ _ (by omega) w, keepHid ⟨κ9, s9, v2, hF9⟩⟩)
          generalize strB told7 = ST7 at *
          clear hT7 hF7 hb7 hbs hl2 hc2 hle2 hck hby2 hsumY hbz HF7
          generalize bs.length = bl9 at *
          go_wp2_with fail
          with_reducible refine (HPU.out _ (Below.refl _ _)).mono ?_
          rintro e w9 ⟨A9, n9, c9, S9, told9, rfl, cv9, ad9, HF9⟩
          clear HPU k20
          go_wp2_with fail
          go_roundw
          case rel => exact ⟨k + 1, told9, by omega, by go_num, rfl, HF9⟩
          case measure => simp [intOf]; omega
        · have hkyI : ¬ (k : Int) < (n2 : Int) := by omega
          have hsumY := sum_past (fun b : List UInt8 => 1 + b.length) y2 k (by have := HRW.out.1; omega)
          have HF9 : Hid (∃ κ s, Tgt w w8 G κ p y0 z0 s ∧ FedI s told7 (2 * (k + 1)) (comeT t1s y2 (k + 1)) (24 * (k + 1))) := keepHid (by
            obtain ⟨κ7, s7, hT7, hF7⟩ := HF7.out
            exact ⟨κ7, s7, hT7, hF7.mono (show 2 * k + 1 ≤ 2 * (k + 1) by omega) (show comeT t1s y2 k + (1100 + szTac t) ≤ comeT t1s y2 (k + 1) by unfold comeT sumA sumY at *; omega) (show 24 * k + 16 ≤ 24 * (k + 1) by omega)⟩)
          clear HF7 hsumY hsumA
          generalize hST7 : strB told7 = ST7 at *
          have HST7 := keepHid hST7
          clear hST7
          go_wp2_with fail
          go_roundw
          case rel => exact ⟨k + 1, told7, by omega, by go_num, by rw [HST7.out], HF9⟩
          case measure => simp [intOf]; omega
    · obtain rfl : k = n1 := by omega
      obtain ⟨κr, sr, hTr, hFr⟩ := HTR.out
      have hcl := come_le HZ1.out HZ2.out (show k ≤ t1s.length by omega)
      have htl := hFr.len
      have hrp := hFr.rp
      have HTOL : Hid (Tol20 (told.drop 0) (sr.rp.drop 0)) := keepHid hFr.tol
      have HNUM := keepHid hFr.num
      obtain ⟨L, hL⟩ : ∃ L, told.length = L := ⟨_, rfl⟩
      obtain ⟨N, hN⟩ : ∃ N, sr.rp.length = N := ⟨_, rfl⟩
      have hL2 : L ≤ 7000000000 := by omega
      have hN2 : N ≤ 100000000 := by omega
      have hsz : (strB told).size = L := by rw [strB_size]; exact hL
      have HL := keepHid hL
      have HN := keepHid hN
      have HRP : Hid (∀ wx, Tgt w wx G κr p y0 z0 sr → Calls Tryz.prog 24 #[.pointer (some ⟨G, 0, none⟩)] wx fun e w' => ∃ A c, e = .returned (.slice A N c) ∧ Tgt w w' G κr p y0 z0 sr ∧ ∀ (j : Nat) (r : Rp), sr.rp[j]? = some r → ∃ ad, A = some ad ∧ w'.cell? (ad.add (j * 3)) = some (.int .i64 (r.1 : Int)) ∧ w'.cell? ⟨(ad.add (j * 3)).block, (ad.add (j * 3)).off + 1, none⟩ = some (.int .i64 (r.2.1 : Int)) ∧ w'.cell? ⟨(ad.add (j * 3)).block, (ad.add (j * 3)).off + 2, none⟩ = some (.int .u32 (r.2.2 : Int))) := keepHid (fun wx hx => by
        refine (show Calls Tryz.prog 24 #[ptV G] wx _ from replies_any hx (by rw [HN.out]; omega)).mono ?_
        rintro e w' ⟨A, c, rfl, ho, hb⟩
        exact ⟨A, c, by rw [HN.out], hx.below hb, fun j r hr => ho.at_ hr⟩)
      have HLI : Hid (∀ (r : Rp), r ∈ sr.rp → ∀ wx, Tgt w wx G κr p y0 z0 sr → Calls Tryz.prog 19 #[.agg #[.int .i64 (r.1 : Int), .int .i64 (r.2.1 : Int), .int .u32 (r.2.2 : Int)]] wx fun e w' => e = .returned (.string (strB (linR r))) ∧ Tgt w w' G κr p y0 z0 sr) := keepHid (fun r hr wx hx => by
        obtain ⟨m1, m2, m3⟩ := HNUM.out r hr
        refine (line_any20 r.1 r.2.1 r.2.2 (by omega) (by omega) m3 wx hx.base.supw.four).mono ?_
        rintro e w' ⟨rfl, hb⟩
        exact ⟨rfl, hx.below hb⟩)
      have HTG := keepHid hTr
      have HTOLD : Hid (∃ t, t = told) := keepHid ⟨_, rfl⟩
      clear hTr hFr hcl htl hrp HTR HNUM hL hN hk3 hk hnl hn0 HZ1 HZ2 HAC HRW
      go_wp2_with fail
      go_loopw [11, 12] (fun vn vk wx => ∃ (n j : Nat), vn = .int .i64 (n : Int) ∧ vk = .int .i64 (j : Int) ∧ j ≤ L ∧ n ≤ N ∧ Hid (Tol20 (told.drop j) (sr.rp.drop n)) ∧ Hid (Tgt w wx G κr p y0 z0 sr)) (fun _ vk _ => L + 1 - (intOf vk).toNat)
      case atStart => exact ⟨0, 0, rfl, rfl, Nat.zero_le _, Nat.zero_le _, HTOL, HTG⟩
      case round =>
        clear HTG HTOL
        obtain ⟨n, j, rfl, rfl, hj, hn, HTOL, HTG⟩ := hrel
        by_cases hj4 : j + 4 ≤ L
        · have hj4I : (j : Int) + 4 ≤ (L : Int) := by omega
          have hsl := fun W => run_mid (l := told) (i := j) (j := j + 4) (by omega) (by rw [HL.out]; exact hj4) .i64 .i64 (j : Int) ((j : Int) + 4) rfl (by omega) W
          rw [show j + 4 - j = 4 by omega] at hsl
          rcases tol_next HTOL.out (by rw [HL.out]; exact hj4) with ⟨hne, hnx⟩ | ⟨r, hr, heq, hle, htk, hnx⟩
          · have hq : ((strB ((told.drop j).take 4)).toList == [115, 117, 109, 32]) = false := by rw [strB_toList]; simpa using hne
            have HNX := keepHid hnx
            generalize strB ((told.drop j).take 4) = S4 at *
            generalize hST : strB told = ST at *
            clear hne hnx
            go_wp2_with fail
            go_roundw
            case rel => exact ⟨n, j + 1, rfl, by go_num, by omega, hn, HNX, HTG⟩
            case measure => simp [intOf]; omega
          · have hq : ((strB ((told.drop j).take 4)).toList == [115, 117, 109, 32]) = true := by rw [strB_toList, heq]; rfl
            have HNX := keepHid hnx
            obtain ⟨M, hM⟩ : ∃ M, (linR r).length = M := ⟨_, rfl⟩
            rw [hM] at hle htk
            rw [HL.out] at hle
            have hszl : (strB (linR r)).size = M := by rw [strB_size]; exact hM
            have hnN : n < N := by have := (List.getElem?_eq_some_iff.1 hr).1; rw [HN.out] at this; exact this
            have hsl2 := fun W => run_mid (l := told) (i := j) (j := j + M) (by omega) (by rw [HL.out]; exact hle) .i64 .i64 (j : Int) ((j : Int) + (M : Int)) rfl (by omega) W
            rw [show j + M - j = M by omega, htk] at hsl2
            have hq2 : ((strB (linR r)).toList == (strB (linR r)).toList) = true := by simp
            have hge : ¬ (N : Int) ≤ (n : Int) := by omega
            have hnI : (n : Int) < (N : Int) := by omega
            have hleI : ¬ (L : Int) < (j : Int) + (M : Int) := by omega
            have HR := keepHid hr
            have HRM := keepHid (List.mem_of_getElem? hr)
            have HR1 := keepHid (HRP.out _ HTG.out)
            generalize strB ((told.drop j).take 4) = S4 at *
            generalize hST : strB told = ST at *
            clear heq hnx htk hr hM
            go_wp2_with fail
            with_reducible refine HR1.out.mono ?_
            rintro e w5 ⟨A5, c5, rfl, hT5, _⟩
            have HR2 := keepHid (HRP.out _ hT5)
            clear hT5 HR1
            go_wp2_with fail
            with_reducible refine HR2.out.mono ?_
            rintro e w6 ⟨A6, c6, rfl, hT6, hat⟩
            obtain ⟨ad6, rfl, q0, q1, q2⟩ := hat n r HR.out
            have HLN := keepHid (HLI.out r HRM.out _ hT6)
            clear hT6 HR2 hat
            generalize strB (linR r) = SL at *
            go_wp2_with fail
            with_reducible refine HLN.out.mono ?_
            rintro e w7 ⟨rfl, hT7⟩
            have HT7 := keepHid hT7
            clear hT7 HLN q0 q1 q2
            go_wp2_with fail
            go_roundw
            case rel => exact ⟨n + 1, j + 1, by go_num, by go_num, by omega, by omega, HNX, HT7⟩
            case measure => simp [intOf]; omega
        · have hj4I : ¬ (j : Int) + 4 ≤ (L : Int) := by omega
          have hnN : n = N := by
            have := tol_end HTOL.out (by rw [HL.out]; omega) (by rw [HN.out]; exact hn)
            rw [HN.out] at this
            exact this
          subst hnN
          have HR1 := keepHid (HRP.out _ HTG.out)
          generalize hST : strB told = ST at *
          clear HTOL
          go_wp2_with fail
          with_reducible refine HR1.out.mono ?_
          rintro e w5 ⟨A5, c5, rfl, hT5, _⟩
          have HB5 := keepHid hT5.base.bel
          clear hT5 HR1
          go_wp2_with fail
          go_ret
          exact ⟨rfl, HB5.out⟩

set_option maxRecDepth 100000 in
theorem lifted (os : Os) (started : os.Started) (H : Type) (enc : TypeId × Value → H) (F : Stop.Interp) :
    ReturnsInHanded {} Tryz.checked os 6 .any ((Rows.OpenSpec.upto Rows.targetSafeSpec).preRow enc Tryz.prog Tryz.f6 Rows.targetSafeUptoRow.domain false laid7) (((Rows.OpenSpec.upto Rows.targetSafeSpec).at F).post enc Tryz.prog Tryz.f6 false true false false) := by
  refine returnsInHanded_of_row (C := Tryz.checked) (s := Rows.OpenSpec.upto Rows.targetSafeSpec) own started (by kernel_rfl) Tryz.func6
    (witness_row_atRef (enc := enc) (C := Tryz.checked) false (worldF os) #[.agg #[.int .i64 0, .int .i64 0], .slice none 0 0, .slice none 0 0] (worldF_os os) (by kernel_rfl) (by kernel_rfl) (by kernel_rfl)
      (OpenSpec.preRow_of_cond 8 (x := ([.agg [.lit (.int .i64 0), .lit (.int .i64 0)], .nil, .nil], [], [])) (by kernel_rfl) rfl (fun k hk => by cases hk; rfl) (by kernel_rfl) (door7 os _))) ?_
  intro W base args ds gs before hval0 hW hcnd hsmall0 hsz0 hL _ _
  have hsz : (DataW.weightsEach Tryz.prog (Tryz.f6.params.toList ++ Rows.targetSafeSpec.plain.varTypes Tryz.prog) (ds ++ gs)).all (· ≤ reachBytes) = true := hsz0
  clear hsz0
  have hsmall : Rows.uptoBulkAll (ds ++ gs) ≤ 1048576 := of_decide_eq_true (hsmall0 _ rfl)
  clear hsmall0
  have hval : ∀ (j : Nat) t v, Tryz.f6.params[j]? = some t → args[j]? = some v → Value.okWide Tryz.prog W .any base t v := hval0
  have hW' := hW
  obtain ⟨p, q, hA0, hV, rfl, hfz, hnd⟩ := hW
  have hA : DataW.TrodAll enc Tryz.prog W 0 (fun _ => true) true Tryz.f6.params.toList args.toList ds p := hA0
  rw [Tryz.params6] at hA hval hsz
  obtain ⟨v0, vs0, d0, ds0, p0, q0, hargs, rfl, rfl, h0, r0⟩ := trodAll_cons hA
  obtain ⟨v1, vs1, d1, ds1, p1, q1, rfl, rfl, rfl, h1, r1⟩ := trodAll_cons r0
  obtain ⟨v2, vs2, d2, ds2, p2, q2, rfl, rfl, rfl, h2, r2⟩ := trodAll_cons r1
  obtain ⟨rfl, rfl, rfl⟩ := trodAll_nil r2
  obtain rfl : args = #[v0, v1, v2] := by cases args; simp_all
  obtain ⟨rfl, rfl⟩ := trodVars_none hV
  have k0 := h0
  have lt0 : ∀ x ∈ p0, x.block < W.heap.size := by obtain ⟨m, hm⟩ := k0; exact DataW.trod_lt m _ _ _ hm
  have k1 := h1
  have lt1 : ∀ x ∈ p1, x.block < W.heap.size := by obtain ⟨m, hm⟩ := k1; exact DataW.trod_lt m _ _ _ hm
  have k2 := h2
  have lt2 : ∀ x ∈ p2, x.block < W.heap.size := by obtain ⟨m, hm⟩ := k2; exact DataW.trod_lt m _ _ _ hm
  obtain ⟨y0, z0, rfl, w0, u0⟩ := open_two Tryz.underlying23 ⟨rfl, rfl⟩ ⟨rfl, rfl⟩ Tryz.underlying3 (by kernel_rfl) (by kernel_rfl) (hval 0 23 v0 rfl rfl) h0
  obtain ⟨a1, n1, c1, t1s, rfl, w1, l1, s1, b1⟩ := open_tacz Tryz.underlying24 Tryz.underlying42 Tryz.underlying40 ⟨rfl, rfl⟩ ⟨rfl, rfl⟩ ⟨rfl, rfl⟩ ⟨rfl, rfl⟩ ⟨rfl, rfl⟩ ⟨rfl, rfl⟩ ⟨rfl, rfl⟩ ⟨rfl, rfl⟩ ⟨rfl, rfl⟩ ⟨rfl, rfl⟩ ⟨rfl, rfl⟩ Tryz.underlying31 Tryz.underlying5 Tryz.underlying38 (by kernel_rfl) (by kernel_rfl) (by kernel_rfl) (by kernel_rfl) (by kernel_rfl) (hval 1 24 v1 rfl rfl) h1
  obtain ⟨a2, n2, c2, y2, rfl, w2, l2, s2, b2⟩ := open_rows Tryz.underlying65 Tryz.underlying31 Tryz.underlying5 (by kernel_rfl) (by kernel_rfl) (hval 2 65 v2 rfl rfl) h2
  clear hA0 hval0
  have z1 : (t1s.map szTac).sum ≤ 1048576 := by simp only [List.append_nil, Rows.uptoBulkAll] at hsmall; omega
  have z2 : (y2.map fun b => 1 + b.length).sum ≤ 1048576 := by have q2 := rows_bulk w2.1 b2; simp only [List.append_nil, Rows.uptoBulkAll] at hsmall; omega
  refine (walk y0 z0 a1 n1 c1 t1s a2 n2 c2 y2 W (sup7 hL) w0 u0 w1 l1 s1 z1 w2 l2 s2 z2).mono fun e W' ⟨he, bel⟩ => ?_
  subst he
  exact ⟨_, rfl, _, _, _, [], _, [], hW', trodAll_mk1 (shut_bool Tryz.underlying4 _), (trodAll_cons_mk (Below.trod laidOut (by kernel_rfl) (of_decide_eq_true (by kernel_rfl)) k0 bel lt0) (trodAll_cons_mk (Below.trod laidOut (by kernel_rfl) (of_decide_eq_true (by kernel_rfl)) k1 bel lt1) (trodAll_cons_mk (Below.trod laidOut (by kernel_rfl) (of_decide_eq_true (by kernel_rfl)) k2 bel lt2) trodAll_mk0))), rfl, bel.frame _, fun h => by cases h⟩

theorem over : Rows.targetSafeUptoRow.holds Tryz.pinned (Rows.OpenSpec.upto Rows.targetSafeSpec) :=
  OpenClaim.holds_of_cond 6 Tryz.f6 rfl rfl rfl rfl rfl rfl rfl ⟨rfl, rfl, rfl, rfl, rfl⟩ rfl rfl rfl rfl rfl (by kernel_rfl) Tryz.func6 (by kernel_rfl)
    (of_decide_eq_true (by kernel_rfl)) (by unfold Func.isWrapper; first | (rw [if_pos (by decide +kernel)]; kernel_rfl) | (rw [if_neg (by decide +kernel)]; exact ⟨rfl, rfl⟩))
    (fun os started H enc _ F => by rw [OpenClaim.pre_eq_preRow]; exact lifted os started H enc F)

/-- The card: what the row lists is tied to the program's own text. -/
theorem proved : Rows.TargetSafeUptoCardSaid :=
  Claim7.holds_tied_plain_at .later [] [.data, .data, .data, .data, .sentinel, .sentinel, .pinned] true Rows.targetSafeUptoCard.stood.harness true
    over (fun _ h => by cases h) (by kernel_rfl) (fun _ h => by cases h) targetSafeUpto_row_tie rfl ⟨rfl, rfl⟩ (by kernel_rfl) rfl
    (fun f fn hf hfn => by
      obtain rfl : f = 6 := Option.some.inj ((show Tryz.prog.funcNamed "lifeline/lifelinelaw20.TargetSafe" = some 6 by kernel_rfl).symm.trans hf) |>.symm
      obtain rfl : fn = Tryz.f6 := (Option.some.inj (Tryz.func6.symm.trans hfn)).symm
      exact ⟨by kernel_rfl, fun j t ht => by
        rw [Tryz.params6] at ht
        have hm : t ∈ [23, 24, 65] := by simpa using Array.mem_of_getElem? ht
        have hall : ([23, 24, 65].all fun u => !Tryz.prog.wantsStandIn u) = true := by kernel_rfl
        exact (show Tryz.prog.wantsStandIn t = false by simpa using List.all_eq_true.1 hall t hm)⟩)
    (by kernel_rfl)
end Go.Proofs.YtonloefjhofeeaaGreatDoor.targetSafe
