/-
  'lifelinelaw10.SenderEnds' answers true for every input of the row, and leaves its arguments as they were.
  Conditions: the package-level variables that the row lists lie as the program's own text lays them (the card ties them to it; what is pinned is a constant of the library's).
-/
import Derived.Test.YtdhipkfiigiicaaDoorRows
import Derived.Test.YtdhipkfiigiicaaDoorSenderLaw
import Derived.Test.YtdhipkfiigiicaaDoorSenderAwake
import Derived.Test.YtdhipkfiigiicaaDoorSenderEnd
import Derived.Test.YtdhipkfiigiicaaDoorFrameTwo
import Derived.LoopTactic
import Derived.Deep.DeepCutAuto
import Derived.Deep.RegionWith
import Derived.Deep.DrawnRows
import Derived.Test.YtdhipkfiigiicaaDoorFrame
import Derived.Test.YtdhipkfiigiicaaDoorFrameRegex
import Derived.Test.YtdhipkfiigiicaaDoorCards
import Derived.WalkKit
import Derived.ProofKit
import Derived.OpenShut
import Derived.ShutString
import Derived.ChangeOld
import Derived.Below
namespace Go.Proofs.YtdhipkfiigiicaaDoor.senderEnds
open Go.ChangeShapes Go.WideShapes Go.ChangeAt Go.RowKit
open Go.ChangeMaps (open_string shut_string)
set_option linter.unusedVariables false

theorem own : ownKnob Tryd.prog.godebug = none := by kernel_rfl
theorem laidOut : laidOutB Tryd.prog = true := by kernel_rfl

theorem errT_turn {w w' : World} {G : Nat} (h : ErrT w) (ht : Turn (fun b => b = G) w w') (hG : 0 < G) : ErrT w' := (World.cell?_of_block (a := ⟨0, 0, none⟩) (ht.block 0 h.pos (by omega))).trans h
/-- The sender in G, behind k ticks. -/
def EndAt (w2 : World) (bl : Bks) (crc : Bool) (T W G : Nat) (k : Nat) (w' : World) : Prop := Snd w' G bl T W true (endS T W crc k) ∧ w2.heap.size ≤ G ∧ Below w2.heap.size w2 w' ∧ ErrT w'
def outV (N k : Nat) : ByteArray := if k < N then ⟨#[]⟩ else ⟨#[24, 24]⟩
theorem str0 : strB [] = ⟨#[]⟩ := rfl
theorem str2 : strB [24, 24] = ⟨#[24, 24]⟩ := rfl
set_option maxRecDepth 100000 in
set_option maxHeartbeats 4000000 in
theorem walk (y0 z0 : Int) (a1 : Option Addr) (n1 c1 : Nat) (b1 : List UInt8) (x2 : Int) (x3 : Bool) (w : World) (hT : ErrT w) (h0 : -9223372036854775808 ≤ y0 ∧ y0 ≤ 9223372036854775807) (g0 : -9223372036854775808 ≤ z0 ∧ z0 ≤ 9223372036854775807) (h1 : Bys w w.heap.size a1 n1 b1) (l1 : n1 ≤ c1) (s1 : c1 ≤ 140737488351232) (h2 : 0 ≤ x2 ∧ x2 ≤ 255) :
    Calls Tryd.prog 3 #[.agg #[.int .i64 y0, .int .i64 z0], .slice a1 n1 c1, .int .u8 x2, .bool x3] w fun e w' => e = .returned (.bool true) ∧ Below w.heap.size w w' := by
  have hET := hT
  clear hT
  obtain ⟨m, hm⟩ : ∃ m : Nat, x2 % 5 = (m : Int) := ⟨(x2 % 5).toNat, by omega⟩
  have hm4 : m ≤ 4 := by omega
  obtain ⟨T, hT⟩ : ∃ T, capZ y0 9 = T := ⟨_, rfl⟩
  obtain ⟨W, hW⟩ : ∃ W, capZ z0 99 = W := ⟨_, rfl⟩
  obtain ⟨hT0, hT1, hT9⟩ := capZ_is y0 9 (by omega)
  obtain ⟨hW0, hW1, hW9⟩ := capZ_is z0 99 (by omega)
  have HAW := keepHid (awake10_any w)
  have HY := keepHid h1
  have HBL : Hid (∀ w', Below w.heap.size w w' → Calls Tryd.prog 7 #[.slice a1 n1 c1, .int .u8 x2, .bool false] w' (Blocks10 w' m (blk10 b1 false m))) := keepHid (fun w' hb => blocks10_any a1 n1 c1 b1 x2 m false h2 hm w' ((HY.out.below hb).more hb.size))
  obtain ⟨bl, hbl⟩ : ∃ bl, blk10 b1 false m = bl := ⟨_, rfl⟩
  have hsz : ∀ p ∈ bl, p.2.length ≤ 140737488355328 := fun p hp => by
    have := blk10_sized p (by rw [hbl]; exact hp)
    omega
  rw [hbl] at HBL
  have HSZ := keepHid hsz
  have HT := keepHid hT
  have HOF : Hid (∀ g w', BlkS w' (some ⟨g, 0, none⟩) m bl → Calls Tryd.prog 6 #[.agg #[.int .i64 y0, .int .i64 z0], .slice (some ⟨g, 0, none⟩) m m, .bool x3, .bool true] w' (OfSPost w' bl T W true x3)) := keepHid (fun g w' hb => by
    have := of_snd y0 z0 (some ⟨g, 0, none⟩) m m bl x3 true w' hb (by omega) HSZ.out
    rwa [hT, hW] at this)
  rw [hT] at hT0 hT1 hT9
  rw [hW] at hW0 hW1 hW9
  obtain ⟨m1, hm1⟩ : ∃ m1, min y0 9 = m1 := ⟨_, rfl⟩
  obtain ⟨m2, hm2⟩ : ∃ m2, min z0 99 = m2 := ⟨_, rfl⟩
  have q1 := fun ts t W => min_z ts t y0 9 m1 hm1 W
  have q2 := fun ts t W => min_z ts t z0 99 m2 hm2 W
  have q3 := fun ts t W => max_z ts t 1 m1 (T : Int) (by omega) W
  have q4 := fun ts t w => max_z ts t 1 m2 (W : Int) (by omega) w
  obtain ⟨N, hN⟩ : ∃ N, T * W = N := ⟨_, rfl⟩
  have hTW : (T : Int) * (W : Int) = (N : Int) := by rw [← hN]; simp
  have hN9 : N ≤ 891 := by rw [← hN]; exact Nat.mul_le_mul hT9 hW9
  have hN1 : 1 ≤ N := by rw [← hN]; exact Nat.mul_pos hT1 hW1
  have HN := keepHid hN
  have HET : Hid (∀ w', Below w.heap.size w w' → ErrT w') := keepHid (fun w' hb => hET.below hb hET.pos)
  have HPOS := keepHid hET.pos
  obtain ⟨wc, hwc⟩ : ∃ wc, w.alloc (.cells #[.int .i64 y0, .int .i64 z0] 23) = wc := ⟨_, rfl⟩
  have hbc : Below w.heap.size w wc := by rw [← hwc]; exact (Below.refl _ _).alloc (Nat.le_refl _) _
  have hkc : Blk wc w.heap.size 23 #[.int .i64 y0, .int .i64 z0] := by rw [← hwc]; exact Blk.new w _ _
  have HAW : Hid (Calls Tryd.prog 5 #[] wc fun e w' => e = .returned (.bool true) ∧ Below wc.heap.size wc w') := keepHid (awake10_any wc)
  have HBC := keepHid hbc
  have HKC := keepHid hkc
  clear h1 h2 hbl hsz l1 s1 hm hT hW hm1 hm2 hT0 hW0 hN hET hbc hkc h0 g0
  go_enter Tryd.func3, Tryd.ntmps3
  go_wp2_with fail
  with_reducible refine HAW.out.mono ?_
  rintro e w1 ⟨rfl, hb1⟩
  have hk1 := HKC.out.below hb1 HKC.out.lt
  have d0 : w1.cell? ⟨w.heap.size, 0, none⟩ = some (.int .i64 y0) := hk1.cell 0
  have d1 : w1.cell? ⟨w.heap.size, 1, none⟩ = some (.int .i64 z0) := hk1.cell 1
  have HK1 := keepHid hk1
  have HB1 := keepHid (HBC.out.trans (hb1.mono HBC.out.size))
  have HD : Hid (Below w1.heap.size w1 w1.drew) := keepHid (Below.drew (Below.refl _ _))
  have HBL2 : Hid (∀ w', Below w1.heap.size w1 w' → Calls Tryd.prog 7 #[.slice a1 n1 c1, .int .u8 x2, .bool false] w' fun e w2 => ∃ g, e = .returned (.slice (some ⟨g, 0, none⟩) m m) ∧ w2.cell? ⟨w.heap.size, 0, none⟩ = some (.int .i64 y0) ∧ w2.cell? ⟨w.heap.size, 1, none⟩ = some (.int .i64 z0) ∧
      Calls Tryd.prog 6 #[.agg #[.int .i64 y0, .int .i64 z0], .slice (some ⟨g, 0, none⟩) m m, .bool x3, .bool true] w2 fun e w3 => ∃ G, e = .returned (.pointer (some ⟨G, 0, none⟩)) ∧ w3.cell? ⟨w.heap.size, 0, none⟩ = some (.int .i64 y0) ∧ w3.cell? ⟨w.heap.size, 1, none⟩ = some (.int .i64 z0) ∧ EndAt w1 bl x3 T W G 0 w3) := keepHid (fun w' hb => by
    refine (HBL.out w' (HB1.out.trans (hb.mono HB1.out.size))).mono ?_
    rintro e w2 ⟨g, rfl, hbs, hb2⟩
    have b2 : Below w1.heap.size w1 w2 := hb.trans (hb2.mono hb.size)
    have k2 := HK1.out.below b2 HK1.out.lt
    refine ⟨g, rfl, k2.cell 0, k2.cell 1, (HOF.out g w2 hbs).mono ?_⟩
    rintro e w3 ⟨G, rfl, hg, hs, hb3⟩
    have b3 : Below w1.heap.size w1 w3 := b2.trans (hb3.mono b2.size)
    have k3 := HK1.out.below b3 HK1.out.lt
    refine ⟨G, rfl, k3.cell 0, k3.cell 1, ?_, Nat.le_trans b2.size hg, b3, HET.out _ (HB1.out.trans (b3.mono HB1.out.size))⟩
    rw [endS_new hT1 hW1]
    exact hs)
  clear hk1 hb1 hwc HBL HOF HAW
  go_upto_region 3 with fail
  go_cut [9] (fun sv wx => ∃ G, sv = .pointer (some ⟨G, 0, none⟩) ∧ wx.cell? ⟨w.heap.size, 0, none⟩ = some (.int .i64 y0) ∧ wx.cell? ⟨w.heap.size, 1, none⟩ = some (.int .i64 z0) ∧ EndAt w1 bl x3 T W G 0 wx)
  case first =>
    go_region_with (first | (go_at_call 7; (with_reducible refine (HBL2.out _ HD.out).mono ?_); rintro e w2 ⟨g, rfl, e0, e1, hof⟩; have HOF2 := keepHid hof; clear hof) | (go_at_call 6; (with_reducible refine HOF2.out.mono ?_); rintro e w3 ⟨G, rfl, f0, f1, hend⟩; have HEN := keepHid hend; clear hend))
    all_goals
      go_wp2_with fail
      go_meet
      case rel => exact ⟨G, rfl, f0, f1, HEN.out⟩
  case rest =>
    clear HBL2 d0 d1
    obtain ⟨G, rfl, e0, e1, hend⟩ := hcut
    have HEN := keepHid hend
    clear hend
    have hN9' : (N : Int) ≤ 891 := by omega
    go_wp2_with fail
    clear e0 e1 q1 q2 q3 q4
    go_loopw [11, 12] (fun av kv wr => ∃ k : Nat, k ≤ N ∧ kv = .int .i64 k ∧ av = .string (outV N k) ∧ EndAt w1 bl x3 T W G k wr) (fun _ kv _ => N - (intOf kv).toNat)
    case atStart => exact ⟨0, Nat.zero_le _, rfl, by unfold outV; rw [if_pos (by omega)], HEN.out⟩
    case round =>
      obtain ⟨k, hk, rfl, rfl, hend⟩ := hrel
      obtain ⟨hs, hg, hb, ht⟩ := hend
      have hd := done_snd hs
      rcases Nat.lt_or_ge k N with hlt | hge
      · have hk2 : k < T * W := by rw [HN.out]; exact hlt
        rw [endS_on hk2] at hd
        have HDN : Hid (Calls Tryd.prog 8 #[.pointer (some ⟨G, 0, none⟩)] wr fun e w' => e = .returned (.tuple #[.bool false, .nilIface]) ∧ w' = wr.drew) := keepHid hd
        have hp := tick_snd hs.drew
        rw [tick_end hT1 hW1 x3 hk2, HN.out] at hp
        obtain ⟨r, hr⟩ : ∃ r, (if k + 1 < N then ([] : List UInt8) else [24, 24]) = r := ⟨_, rfl⟩
        rw [hr] at hp
        have hadd : ∀ w', (Op.stringOp .add (outV N k) (strB r)).run Tryd.prog w' = .ok (.string (outV N (k + 1))) w' := fun w' => by
          have e0 : outV N k = strB [] := if_pos hlt
          have e1 : outV N (k + 1) = strB r := by
            rw [← hr]
            unfold outV
            split <;> rfl
          have hrl : r.length ≤ 2 := by rw [← hr]; split <;> decide
          rw [e0, e1, run_strAdd [] r (by simp; omega)]
          rfl
        have HTK : Hid (Calls Tryd.prog 9 #[.pointer (some ⟨G, 0, none⟩)] wr.drew fun e w8 => ∃ A c L, e = .returned (.slice A L c) ∧ (convert 24 9 (.slice A L c)).run Tryd.prog w8 = .ok (.string (strB r)) w8 ∧ EndAt w1 bl x3 T W G (k + 1) w8) := keepHid (hp.mono fun e w8 h => by
          obtain ⟨A, c, rfl, ho8, h81, h82, ht8, hs8⟩ := h
          have hy := ho8.bys (Nat.le_trans h81 h82)
          refine ⟨A, c, _, rfl, run_str _ 5 _ Tryd.underlying24 Tryd.underlying5 Tryd.underlying9 hy, hs8, hg, (Below.drew hb).trans (ht8.below (fun i hi => by rw [hi]; exact hg) hb.size), ?_⟩
          exact errT_turn (w := wr.drew) ht ht8 (by have := HPOS.out; have := HB1.out.size; omega))
        have hlt' : (k : Int) < (N : Int) := by omega
        clear hs hd hp hb ht hr HEN
        generalize strB r = sr at *
        generalize outV N k = ov at *
        go_wp2_with fail
        with_reducible refine HDN.out.mono ?_
        rintro e w7 ⟨rfl, rfl⟩
        go_wp2_with fail
        with_reducible refine HTK.out.mono ?_
        rintro e w8 ⟨A8, c8, L8, rfl, cv8, hend⟩
        have HE8 := keepHid hend
        clear hend
        go_wp2
        go_roundw
        case rel => exact ⟨k + 1, by omega, by go_num, rfl, HE8.out⟩
        case measure => simp [intOf]; omega
      · obtain rfl : k = N := by omega
        have ho : outV k k = ⟨#[24, 24]⟩ := if_neg (Nat.lt_irrefl _)
        have hov : endS T W x3 k = ⟨3, 0, x3, 10, T, 0, false⟩ := endS_over (by rw [HN.out]; omega) x3
        rw [hov] at hd hs
        have HDN : Hid (Calls Tryd.prog 8 #[.pointer (some ⟨G, 0, none⟩)] wr fun e w' => e = .returned (.tuple #[.bool true, .iface 35 (.int .i64 10)]) ∧ w' = wr.drew) := keepHid hd
        have HNM : Hid (Calls Tryd.prog 10 #[.iface 35 (.int .i64 10)] wr.drew fun e w7 => e = .returned (.int .i64 10) ∧
            Calls Tryd.prog 9 #[.pointer (some ⟨G, 0, none⟩)] w7 fun e w8 => ∃ A c, e = .returned (.slice A 0 c) ∧
              Calls Tryd.prog 11 #[.pointer (some ⟨G, 0, none⟩), .int .u8 6] w8 fun e w9 => ∃ A c, e = .returned (.slice A 0 c) ∧ Below w.heap.size w w9) := keepHid (by
          refine (number_e 10 wr.drew ht).mono ?_
          rintro e w7 ⟨rfl, hb7⟩
          have hs7 := hs.drew.below hb7
          have b7 : Below w1.heap.size w1 w7 := (Below.drew hb).trans (hb7.mono hb.size)
          have hp := tick_snd hs7
          rw [tick_over] at hp
          refine ⟨rfl, hp.mono ?_⟩
          rintro e w8 ⟨A, c, rfl, _, _, _, ht8, hs8⟩
          have b8 : Below w1.heap.size w1 w8 := b7.trans (ht8.below (fun i hi => by rw [hi]; exact hg) b7.size)
          have hp := put_snd hs8 6
          simp only at hp
          rw [put_over6] at hp
          refine ⟨A, c, rfl, hp.mono ?_⟩
          rintro e w9 ⟨A, c, rfl, _, _, _, ht9, hs9⟩
          exact ⟨A, c, rfl, HB1.out.trans ((b8.trans (ht9.below (fun i hi => by rw [hi]; exact hg) b8.size)).mono HB1.out.size)⟩)
        clear hs hd hb ht hov HEN
        rw [ho]
        clear ho
        go_wp2_with fail
        with_reducible refine HDN.out.mono ?_
        rintro e w7 ⟨rfl, rfl⟩
        go_wp2_with fail
        with_reducible refine HNM.out.mono ?_
        rintro e w8 ⟨rfl, hq8⟩
        have HQ8 := keepHid hq8
        clear hq8
        go_wp2_with fail
        with_reducible refine HQ8.out.mono ?_
        rintro e w9 ⟨A9, c9, rfl, hq9⟩
        have HQ9 := keepHid hq9
        clear hq9
        go_wp2_with fail
        with_reducible refine HQ9.out.mono ?_
        rintro e w10 ⟨A10, c10, rfl, hb10⟩
        have HB10 := keepHid hb10
        clear hb10
        go_wp2
        go_ret
        exact ⟨rfl, HB10.out⟩

set_option maxRecDepth 100000 in
theorem lifted (os : Os) (started : os.Started) (H : Type) (enc : TypeId × Value → H) :
    ReturnsInHanded {} Tryd.checked os 3 .any (fun w args => (Rows.senderEndsSpec.pre enc Tryd.prog Tryd.f3 [] false w args ∧ laidMetH Tryd.prog laidR w) ∧ sizedMet enc Tryd.prog Tryd.f3 (OpenSpec.ofChange Rows.senderEndsSpec) false w args) (Rows.senderEndsSpec.post enc Tryd.prog Tryd.f3 false true false false) := by
  refine returnsInHanded_of_change_and (C := Tryd.checked) (X := fun w _ => laidMetH Tryd.prog laidR w) (fun _ _ _ hh h => h.of_heap hh) own started (by kernel_rfl) Tryd.func3
    (ChangeSpec.witness_shaped (enc := enc) (C := Tryd.checked) (os := os) (X := fun w _ => laidMetH Tryd.prog laidR w) false (World.doorLaid Tryd.prog 400 os) #[.agg #[.int .i64 0, .int .i64 0], .slice none 0 0, .int .u8 0, .bool false] 8 rfl (World.shaped_of_RefB (by kernel_rfl) (by kernel_rfl)) (by kernel_rfl) (by kernel_rfl) (by kernel_rfl) (doorR os _)) ?_
  intro W base args ds gs before hval0 hW hcnd hsz0 hL _
  have hsz : (DataW.weightsEach Tryd.prog (Tryd.f3.params.toList ++ Rows.senderEndsSpec.plain.varTypes Tryd.prog) (ds ++ gs)).all (· ≤ reachBytes) = true := hsz0
  clear hsz0
  have hval : ∀ (j : Nat) t v, Tryd.f3.params[j]? = some t → args[j]? = some v → Value.okWide Tryd.prog W .any base t v := hval0
  have hW' := hW
  obtain ⟨p, q, hA0, hV, rfl, hfz, hnd⟩ := hW
  have hA : DataW.TrodAll enc Tryd.prog W 0 (fun _ => true) true Tryd.f3.params.toList args.toList ds p := hA0
  rw [Tryd.params3] at hA hval hsz
  obtain ⟨v0, vs0, d0, ds0, p0, q0, hargs, rfl, rfl, h0, r0⟩ := trodAll_cons hA
  obtain ⟨v1, vs1, d1, ds1, p1, q1, rfl, rfl, rfl, h1, r1⟩ := trodAll_cons r0
  obtain ⟨v2, vs2, d2, ds2, p2, q2, rfl, rfl, rfl, h2, r2⟩ := trodAll_cons r1
  obtain ⟨v3, vs3, d3, ds3, p3, q3, rfl, rfl, rfl, h3, r3⟩ := trodAll_cons r2
  obtain ⟨rfl, rfl, rfl⟩ := trodAll_nil r3
  obtain rfl : args = #[v0, v1, v2, v3] := by cases args; simp_all
  obtain ⟨rfl, rfl⟩ := trodVars_none hV
  have k0 := h0
  have lt0 : ∀ x ∈ p0, x.block < W.heap.size := by obtain ⟨m, hm⟩ := k0; exact DataW.trod_lt m _ _ _ hm
  have k1 := h1
  have lt1 : ∀ x ∈ p1, x.block < W.heap.size := by obtain ⟨m, hm⟩ := k1; exact DataW.trod_lt m _ _ _ hm
  have k2 := h2
  have lt2 : ∀ x ∈ p2, x.block < W.heap.size := by obtain ⟨m, hm⟩ := k2; exact DataW.trod_lt m _ _ _ hm
  have k3 := h3
  have lt3 : ∀ x ∈ p3, x.block < W.heap.size := by obtain ⟨m, hm⟩ := k3; exact DataW.trod_lt m _ _ _ hm
  obtain ⟨y0, z0, rfl, w0, u0⟩ := open_two Tryd.underlying23 ⟨rfl, rfl⟩ ⟨rfl, rfl⟩ Tryd.underlying3 (by kernel_rfl) (by kernel_rfl) (hval 0 23 v0 rfl rfl) h0
  obtain ⟨a1, n1, c1, b1, rfl, w1, l1, s1⟩ := open_bys Tryd.underlying24 Tryd.underlying5 (by kernel_rfl) (by kernel_rfl) (hval 1 24 v1 rfl rfl) (fun _ => rfl) h1 (fun el sp hd => sized_slice hsz (j := 1) (t := 24) (e := 5) rfl (by rw [hd]; rfl) Tryd.underlying24)
  obtain ⟨x2, rfl, rfl, rfl, w2⟩ := open_int Tryd.underlying5 (hval 2 5 v2 rfl rfl) h2
  obtain ⟨x3, rfl, rfl, rfl⟩ := open_bool Tryd.underlying4 (hval 3 4 v3 rfl rfl) h3
  clear hA0 hval0
  refine (walk y0 z0 a1 n1 c1 b1 x2 x3 W (tabsR hL) w0 u0 w1 l1 s1 (wf_u8 w2)).mono fun e W' ⟨he, bel⟩ => ?_
  subst he
  exact ⟨_, rfl, _, _, _, [], _, [], hW', trodAll_mk1 (shut_bool Tryd.underlying4 _), (trodAll_cons_mk (Below.trod laidOut (by kernel_rfl) (of_decide_eq_true (by kernel_rfl)) k0 bel lt0) (trodAll_cons_mk (Below.trod laidOut (by kernel_rfl) (of_decide_eq_true (by kernel_rfl)) k1 bel lt1) (trodAll_cons_mk (Below.trod laidOut (by kernel_rfl) (of_decide_eq_true (by kernel_rfl)) k2 bel lt2) (trodAll_cons_mk (Below.trod laidOut (by kernel_rfl) (of_decide_eq_true (by kernel_rfl)) k3 bel lt3) trodAll_mk0)))), rfl, bel.frame _, fun h => by cases h⟩

theorem over : Rows.senderEndsRow.holds Tryd.pinned (OpenSpec.ofChange Rows.senderEndsSpec) :=
  OpenClaim.holds_of_wide 3 Tryd.f3 rfl rfl rfl rfl rfl rfl rfl ⟨rfl, rfl, rfl, rfl, rfl⟩ rfl rfl rfl rfl rfl (by kernel_rfl) Tryd.func3 (by kernel_rfl)
    (of_decide_eq_true (by kernel_rfl)) (by unfold Func.isWrapper; first | (rw [if_pos (by decide +kernel)]; kernel_rfl) | (rw [if_neg (by decide +kernel)]; exact ⟨rfl, rfl⟩))
    (fun os started H enc _ => lifted os started H enc)

/-- The card: what the row lists is tied to the program's own text. -/
theorem proved : Rows.SenderEndsCardSaid :=
  Claim7.holds_tied_plain_at .later [] [.handle] true Rows.senderEndsCard.stood.harness true
    over (fun _ h => by cases h) (by kernel_rfl) (fun _ h => by cases h) senderEnds_row_tie rfl ⟨rfl, rfl⟩ (by kernel_rfl) rfl
    (fun f fn hf hfn => by
      obtain rfl : f = 3 := Option.some.inj ((show Tryd.prog.funcNamed "lifeline/lifelinelaw10.SenderEnds" = some 3 by kernel_rfl).symm.trans hf) |>.symm
      obtain rfl : fn = Tryd.f3 := (Option.some.inj (Tryd.func3.symm.trans hfn)).symm
      exact ⟨by kernel_rfl, fun j t ht => by
        rw [Tryd.params3] at ht
        have hm : t ∈ [23, 24, 5, 4] := by simpa using Array.mem_of_getElem? ht
        have hall : ([23, 24, 5, 4].all fun u => !Tryd.prog.wantsStandIn u) = true := by kernel_rfl
        exact (show Tryd.prog.wantsStandIn t = false by simpa using List.all_eq_true.1 hall t hm)⟩)
    (by kernel_rfl)
end Go.Proofs.YtdhipkfiigiicaaDoor.senderEnds
