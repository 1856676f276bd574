/-
  'lifelinelaw11.ReceiverAsks' answers true for every input of the row, and leaves its arguments as they were.
  Conditions: the package-level variables that the row lists lie as the program's own text lays them (the card ties them to it; what is pinned is a constant of the library's).
-/
import Derived.Test.YtjdjbdedfohfbaaDoorRows
import Derived.Test.YtjdjbdedfohfbaaDoorReceiverLaw
import Derived.Test.YtjdjbdedfohfbaaDoorFrameTwo
import Derived.LoopTactic
import Derived.Deep.DeepCutAuto
import Derived.Deep.RegionWith
import Derived.Deep.DrawnRows
import Derived.Test.YtjdjbdedfohfbaaDoorFrame
import Derived.Test.YtjdjbdedfohfbaaDoorFrameRegex
import Derived.Test.YtjdjbdedfohfbaaDoorCards
import Derived.WalkKit
import Derived.ProofKit
import Derived.OpenShut
import Derived.ShutString
import Derived.ChangeOld
import Derived.Below
namespace Go.Proofs.YtjdjbdedfohfbaaDoor.receiverAsks
open Go.ChangeShapes Go.WideShapes Go.ChangeAt Go.RowKit
open Go.ChangeMaps (open_string shut_string)
set_option linter.unusedVariables false

theorem own : ownKnob Tryd.prog.godebug = none := by kernel_rfl
theorem laidOut : laidOutB Tryd.prog = true := by kernel_rfl

/-- The receiver behind k ticks without anything. -/
structure Ask (T W k : Nat) (s : Rd) : Prop where
  bu : s.bu = []
  da : s.da = []
  ov : s.ov = false
  er : s.er = 0
  at_ : ∃ q, k + s.tk = q * W + 1 ∧ s.tr + q = T ∧ 1 ≤ s.tk ∧ s.tk ≤ W
theorem ask_wait {crc : Bool} {T W k : Nat} {s : Rd} (h : Ask T W k s) (ht : 1 < s.tk) : tickR crc W s = ([], { s with tk := s.tk - 1 }) ∧ Ask T W (k + 1) { s with tk := s.tk - 1 } ∧ k % W ≠ 0 := by
  obtain ⟨q, h1, h2, h3, h4⟩ := h.at_
  have hW : 0 < W := by omega
  have hov := h.ov
  refine ⟨?_, ⟨h.bu, h.da, h.ov, h.er, q, ?_, h2, ?_, ?_⟩, ?_⟩
  · unfold tickR
    rw [if_neg (by rw [hov]; simp), if_pos ht]
  · show k + 1 + (s.tk - 1) = _; omega
  · show 1 ≤ s.tk - 1; omega
  · show s.tk - 1 ≤ W; omega
  · rcases q with _ | q
    · omega
    · rw [Nat.succ_mul] at h1
      have e : k = W * q + (W + 1 - s.tk) := by rw [Nat.mul_comm W q]; omega
      rw [e, Nat.mul_add_mod]
      rw [Nat.mod_eq_of_lt (by omega)]
      omega
theorem ask_on {crc : Bool} {T W k : Nat} {s : Rd} (h : Ask T W k s) (ht : s.tk = 1) (htr : s.tr ≠ 0) : tickR crc W s = ([if crc then 67 else 21], { s with tk := W, tr := s.tr - 1 }) ∧ Ask T W (k + 1) { s with tk := W, tr := s.tr - 1 } ∧ k % W = 0 ∧ k < T * W := by
  obtain ⟨q, h1, h2, h3, h4⟩ := h.at_
  have hW : 0 < W := by omega
  have hov := h.ov
  have hda := h.da
  have hbu := h.bu
  refine ⟨?_, ⟨h.bu, h.da, h.ov, h.er, q + 1, ?_, ?_, hW, Nat.le_refl _⟩, ?_, ?_⟩
  · unfold tickR askR
    rw [if_neg (by rw [hov]; simp), if_neg (by omega), if_neg (by show ¬ s.da ≠ []; rw [hda]; simp), if_neg (by exact htr)]
    obtain ⟨ex, bl, tr, tk, bu, da, ov, er⟩ := s
    simp only at hbu
    subst hbu
    rfl
  · show k + 1 + W = (q + 1) * W + 1; rw [Nat.succ_mul]; omega
  · show s.tr - 1 + (q + 1) = T; omega
  · have e : k = W * q := by rw [Nat.mul_comm]; omega
    rw [e, Nat.mul_mod_right]
  · have e : k = q * W := by omega
    rw [e]
    exact Nat.mul_lt_mul_of_pos_right (by omega) hW
theorem ask_off {crc : Bool} {T W k : Nat} {s : Rd} (h : Ask T W k s) (ht : s.tk = 1) (htr : s.tr = 0) : tickR crc W s = ([24, 24], stopR { s with tk := W, bu := [] } 10) ∧ k % W = 0 ∧ k = T * W := by
  obtain ⟨q, h1, h2, h3, h4⟩ := h.at_
  have hov := h.ov
  have hda := h.da
  refine ⟨?_, ?_, ?_⟩
  · unfold tickR askR
    rw [if_neg (by rw [hov]; simp), if_neg (by omega), if_neg (by show ¬ s.da ≠ []; rw [hda]; simp), if_pos (by exact htr)]
  · have e : k = W * q := by rw [Nat.mul_comm]; omega
    rw [e, Nat.mul_mod_right]
  · have e : k = q * W := by omega
    rw [e, show q = T by omega]
theorem RAt.errT {w0 w : World} {G W : Nat} {O : Nat → Prop} {crc cl : Bool} {s : Rd} (h : RAt w0 G O crc cl W s w) (ht : ErrT w0) : ErrT w := ht.below h.bel ht.pos
/-- Where it is behind k ticks: it asks, or it is over. -/
def AskAt (T W N k : Nat) (s : Rd) : Prop := (k ≤ N ∧ Ask T W k s) ∨ (k = N + 1 ∧ s.ov = true ∧ s.er = 10 ∧ s.da = [])
set_option maxRecDepth 100000 in
set_option maxHeartbeats 4000000 in
theorem walk (y0 z0 : Int) (x1 : Bool) (x2 : Bool) (w : World) (hT : ErrT w) (h0 : -9223372036854775808 ≤ y0 ∧ y0 ≤ 9223372036854775807) (g0 : -9223372036854775808 ≤ z0 ∧ z0 ≤ 9223372036854775807) :
    Calls Tryd.prog 3 #[.agg #[.int .i64 y0, .int .i64 z0], .bool x1, .bool x2] w fun e w' => e = .returned (.bool true) ∧ Below w.heap.size w w' := by
  have hET := hT
  clear hT
  obtain ⟨T, hT⟩ : ∃ T, capZ y0 9 = T := ⟨_, rfl⟩
  obtain ⟨W, hW⟩ : ∃ W, capZ z0 99 = W := ⟨_, rfl⟩
  obtain ⟨hT0, hT1, hT9⟩ := capZ_is y0 9 (by omega)
  obtain ⟨hW0, hW1, hW9⟩ := capZ_is z0 99 (by omega)
  have HOF : Hid (∀ w', Below w.heap.size w w' → Calls Tryd.prog 6 #[.agg #[.int .i64 y0, .int .i64 z0], .int .u8 1, .bool x1, .bool x2, .int .i64 1] w' fun e w'' => ∃ G O s, e = .returned (.pointer (some ⟨G, 0, none⟩)) ∧ RAt w G O x1 x2 W s w'' ∧ Ask T W 0 s ∧ Below w'.heap.size w' w'') := keepHid (fun w' hb => by
    refine (of_at y0 z0 1 x1 x2 1 w w' (by omega) hb).mono ?_
    rintro e w'' ⟨G, O, rfl, k1, k2⟩
    rw [hT, hW] at k1
    exact ⟨G, O, _, rfl, k1, ⟨rfl, rfl, rfl, rfl, 0, by simp [newR], by simp [newR], Nat.le_refl _, by rw [← hW]; exact hW1⟩, k2⟩)
  rw [hT] at hT0 hT1 hT9
  rw [hW] at hW0 hW1 hW9
  obtain ⟨m1, hm1⟩ : ∃ m1, min y0 9 = m1 := ⟨_, rfl⟩
  obtain ⟨m2, hm2⟩ : ∃ m2, min z0 99 = m2 := ⟨_, rfl⟩
  have q1 := fun ts t W => min_z ts t y0 9 m1 hm1 W
  have q2 := fun ts t W => min_z ts t z0 99 m2 hm2 W
  have q3 := fun ts t W => max_z ts t 1 m1 (T : Int) (by omega) W
  have q4 := fun ts t w => max_z ts t 1 m2 (W : Int) (by omega) w
  obtain ⟨N, hN⟩ : ∃ N, T * W = N := ⟨_, rfl⟩
  have hTW : (T : Int) * (W : Int) = (N : Int) := by rw [← hN]; simp
  have hN9 : N ≤ 891 := by rw [← hN]; exact Nat.mul_le_mul hT9 hW9
  have HN := keepHid hN
  have HET := keepHid hET
  obtain ⟨ab, hab⟩ : ∃ ab : UInt8, (if x1 then 67 else 21) = ab := ⟨_, rfl⟩
  have HAB := keepHid hab
  have hse := strB_same (xs := [ab]) (bs := [ab]) rfl
  have hWz : ((W : Int) == 0) = false := by simp; omega
  obtain ⟨wc, hwc⟩ : ∃ wc, w.alloc (.cells #[.int .i64 y0, .int .i64 z0] 23) = wc := ⟨_, rfl⟩
  have hbc : Below w.heap.size w wc := by rw [← hwc]; exact (Below.refl _ _).alloc (Nat.le_refl _) _
  have hkc : Blk wc w.heap.size 23 #[.int .i64 y0, .int .i64 z0] := by rw [← hwc]; exact Blk.new w _ _
  have HAW : Hid (Calls Tryd.prog 5 #[] wc fun e w' => e = .returned (.bool true) ∧ Below wc.heap.size wc w') := keepHid (awake11_any wc)
  have HBC := keepHid hbc
  have HKC := keepHid hkc
  clear hT hW hm1 hm2 hT0 hW0 hN hET hbc hkc h0 g0 hab
  go_enter Tryd.func3, Tryd.ntmps3
  go_wp2_with fail
  with_reducible refine HAW.out.mono ?_
  rintro e w1 ⟨rfl, hb1⟩
  have hk1 := HKC.out.below hb1 HKC.out.lt
  have d0 : w1.cell? ⟨w.heap.size, 0, none⟩ = some (.int .i64 y0) := hk1.cell 0
  have d1 : w1.cell? ⟨w.heap.size, 1, none⟩ = some (.int .i64 z0) := hk1.cell 1
  have HK1 := keepHid hk1
  have HB1 := keepHid (HBC.out.trans (hb1.mono HBC.out.size))
  clear hk1 hb1 hwc
  go_wp2_with fail
  with_reducible refine (HOF.out _ HB1.out).mono ?_
  rintro e w3 ⟨G, O3, s3, rfl, hs3, ha3, hb3⟩
  have hk3 := HK1.out.below hb3 HK1.out.lt
  have e0 : w3.cell? ⟨w.heap.size, 0, none⟩ = some (.int .i64 y0) := hk3.cell 0
  have e1 : w3.cell? ⟨w.heap.size, 1, none⟩ = some (.int .i64 z0) := hk3.cell 1
  have HS3 := keepHid hs3
  have HA3 := keepHid ha3
  clear hk3 hs3 ha3 hb3 d0 d1 HOF HAW
  go_upto_region 4 with fail
  go_region
  go_upto_if 30 with fail
  obtain ⟨w4, hw4⟩ : ∃ w4, w3.drew = w4 := ⟨_, rfl⟩
  have HS4 : Hid (RAt w G O3 x1 x2 W s3 w4) := keepHid (by rw [← hw4]; exact HS3.out.drew)
  rw [hw4]
  clear hw4 e0 e1 q1 q2 q3 q4 HS3
  go_cut [10] (fun av wx => av = .string (strB [ab]) ∧ wx = w4)
  case first =>
    have hab := HAB.out
    cases x1
    all_goals
      subst hab
      go_wp2_with fail
      go_meet
      case rel => exact ⟨rfl, rfl⟩
  case rest =>
    obtain ⟨rfl, rfl⟩ := hcut
    go_wp2_with fail
    go_loopw [11] (fun kv wr => ∃ (k : Nat) (O : Nat → Prop) (s : Rd), k ≤ N + 1 ∧ kv = .int .i64 k ∧ RAt w G O x1 x2 W s wr ∧ AskAt T W N k s) (fun kv _ => N + 1 - (intOf kv).toNat)
    case atStart => exact ⟨0, O3, s3, Nat.zero_le _, rfl, HS4.out, .inl ⟨Nat.zero_le _, HA3.out⟩⟩
    case round =>
      obtain ⟨k, O, s, hk, rfl, hs, hat⟩ := hrel
      have hTN := HN.out
      rcases hat with ⟨hkN, hat⟩ | ⟨rfl, hov, her, hda⟩
      · have hp := tick_at hs
        obtain ⟨r, hr⟩ : ∃ r, k % W = r := ⟨_, rfl⟩
        have hm1 : (k : Int).tmod (W : Int) = (r : Int) := by rw [← hr]; rfl
        have hm2 : (k : Int) % (W : Int) = (r : Int) := by rw [← hr]; rfl
        have i1 : (k : Int) ≤ (N : Int) := by omega
        have i9 : (N : Int) ≤ 891 := by omega
        have ht1 : 1 ≤ s.tk := by obtain ⟨_, _, _, h, _⟩ := hat.at_; exact h
        by_cases ht : 1 < s.tk
        · obtain ⟨e, ha, hne⟩ := ask_wait (crc := x1) hat ht
          rw [e] at hp
          have HTK : Hid (Calls Tryd.prog 7 #[.pointer (some ⟨G, 0, none⟩)] wr fun e w8 => ∃ A c, e = .returned (.slice A 0 c) ∧ (convert 27 9 (.slice A 0 c)).run Tryd.prog w8 = .ok (.string ⟨#[]⟩) w8 ∧ ∃ O' s', RAt w G O' x1 x2 W s' w8 ∧ AskAt T W N (k + 1) s') := keepHid (hp.mono fun e w8 h => by
            obtain ⟨A, c, O', rfl, j1, j2, _⟩ := h
            refine ⟨A, c, rfl, j2.str c, O', _, j1, .inl ⟨?_, ha⟩⟩
            rcases Nat.lt_or_ge k N with h | h
            · exact h
            · exact absurd (show k % W = 0 by rw [show k = T * W by omega]; exact Nat.mul_mod_left _ _) hne)
          have hz : ((r : Int) == 0) = false := by simp; omega
          have hz2 : ((k : Int) == (N : Int)) = false := by
            have : k ≠ N := fun e => hne (by rw [e, ← hTN]; exact Nat.mul_mod_left _ _)
            simp; omega
          clear hp hat e ha hne hs ht ht1
          go_wp2_with fail
          with_reducible refine HTK.out.mono ?_
          rintro e w8 ⟨A8, c8, rfl, cv8, O8, s8, hs8, ha8⟩
          have HS8 := keepHid hs8
          have HA8 := keepHid ha8
          clear hs8 ha8
          go_wp2
          go_roundw
          case rel => exact ⟨k + 1, O8, s8, by omega, by go_num, HS8.out, HA8.out⟩
          case measure => simp [intOf]; omega
        · have htk : s.tk = 1 := by omega
          by_cases htr : s.tr = 0
          · obtain ⟨e, hz0, hkk⟩ := ask_off (crc := x1) hat htk htr
            have hda := hat.da
            rw [e] at hp
            have HTK : Hid (Calls Tryd.prog 7 #[.pointer (some ⟨G, 0, none⟩)] wr fun e w8 => ∃ A c, e = .returned (.slice A 2 c) ∧ (convert 27 9 (.slice A 2 c)).run Tryd.prog w8 = .ok (.string ⟨#[24, 24]⟩) w8 ∧ ∃ O' s', RAt w G O' x1 x2 W s' w8 ∧ AskAt T W N (k + 1) s') := keepHid (hp.mono fun e w8 h => by
              obtain ⟨A, c, O', rfl, j1, j2, _⟩ := h
              exact ⟨A, c, rfl, j2.str c, O', _, j1, .inr ⟨by omega, rfl, rfl, hda⟩⟩)
            have hz : ((r : Int) == 0) = true := by simp; omega
            obtain rfl : k = N := by omega
            clear hp hat e hs ht ht1 htk htr hda hkk hTN
            go_wp2_with fail
            with_reducible refine HTK.out.mono ?_
            rintro e w8 ⟨A8, c8, rfl, cv8, O8, s8, hs8, ha8⟩
            have HS8 := keepHid hs8
            have HA8 := keepHid ha8
            clear hs8 ha8
            go_wp2
            go_roundw
            case rel => exact ⟨k + 1, O8, s8, by omega, by go_num, HS8.out, HA8.out⟩
            case measure => first | (simp [intOf]; done) | (simp [intOf]; omega)
          · obtain ⟨e, ha, hz0, hkk⟩ := ask_on (crc := x1) hat htk htr
            rw [e, HAB.out] at hp
            have HTK : Hid (Calls Tryd.prog 7 #[.pointer (some ⟨G, 0, none⟩)] wr fun e w8 => ∃ A c, e = .returned (.slice A 1 c) ∧ (convert 27 9 (.slice A 1 c)).run Tryd.prog w8 = .ok (.string (strB [ab])) w8 ∧ ∃ O' s', RAt w G O' x1 x2 W s' w8 ∧ AskAt T W N (k + 1) s') := keepHid (hp.mono fun e w8 h => by
              obtain ⟨A, c, O', rfl, j1, j2, _⟩ := h
              exact ⟨A, c, rfl, j2.str c, O', _, j1, .inl ⟨by omega, ha⟩⟩)
            have hz : ((r : Int) == 0) = true := by simp; omega
            have hz2 : ((k : Int) == (N : Int)) = false := by simp; omega
            have hkN2 : k < N := by omega
            clear hp hat e ha hs ht ht1 htk htr hkk
            go_wp2_with fail
            with_reducible refine HTK.out.mono ?_
            rintro e w8 ⟨A8, c8, rfl, cv8, O8, s8, hs8, ha8⟩
            have HS8 := keepHid hs8
            have HA8 := keepHid ha8
            clear hs8 ha8
            go_wp2
            go_roundw
            case rel => exact ⟨k + 1, O8, s8, by omega, by go_num, HS8.out, HA8.out⟩
            case measure => simp [intOf]; omega
      · have hd := done_at hs
        rw [hov, her] at hd
        have HDN : Hid (Calls Tryd.prog 8 #[.pointer (some ⟨G, 0, none⟩)] wr fun e w' => e = .returned (.tuple #[.bool true, .iface 33 (.int .i64 10)]) ∧ w' = wr.drew) := keepHid hd
        have HNM : Hid (Calls Tryd.prog 9 #[.iface 33 (.int .i64 10)] wr.drew fun e w7 => e = .returned (.int .i64 10) ∧
            Calls Tryd.prog 10 #[.pointer (some ⟨G, 0, none⟩)] w7 fun e w8 => ∃ A c, e = .returned (.slice A 0 c) ∧ Below w.heap.size w w8) := keepHid (by
          refine (number_e 10 wr.drew (RAt.errT hs.drew HET.out)).mono ?_
          rintro e w7 ⟨rfl, hb7⟩
          refine ⟨rfl, (data_at (hs.drew.below hb7) (by rw [hda]; simp)).mono ?_⟩
          rintro e w8 ⟨A, c, rfl, j1, _⟩
          exact ⟨A, c, by rw [hda]; rfl, j1.bel⟩)
        have i1 : ¬ ((N + 1 : Nat) : Int) ≤ (N : Int) := by omega
        have i9 : ((N + 1 : Nat) : Int) ≤ 892 := by omega
        generalize (N + 1 : Nat) = k at *
        clear hs hd hov her hda
        go_wp2_with fail
        with_reducible refine HDN.out.mono ?_
        rintro e w7 ⟨rfl, rfl⟩
        go_wp2_with fail
        with_reducible refine HNM.out.mono ?_
        rintro e w8 ⟨rfl, hdt⟩
        have HDT := keepHid hdt
        clear hdt
        go_wp2_with fail
        with_reducible refine HDT.out.mono ?_
        rintro e w9 ⟨A9, c9, rfl, hb9⟩
        have HB9 := keepHid hb9
        clear hb9
        go_wp2
        go_ret
        exact ⟨rfl, HB9.out⟩

set_option maxRecDepth 100000 in
theorem lifted (os : Os) (started : os.Started) (H : Type) (enc : TypeId × Value → H) :
    ReturnsInHanded {} Tryd.checked os 3 .any (fun w args => (Rows.receiverAsksSpec.pre enc Tryd.prog Tryd.f3 [] false w args ∧ laidMetH Tryd.prog laidR w) ∧ sizedMet enc Tryd.prog Tryd.f3 (OpenSpec.ofChange Rows.receiverAsksSpec) false w args) (Rows.receiverAsksSpec.post enc Tryd.prog Tryd.f3 false true false false) := by
  refine returnsInHanded_of_change_and (C := Tryd.checked) (X := fun w _ => laidMetH Tryd.prog laidR w) (fun _ _ _ hh h => h.of_heap hh) own started (by kernel_rfl) Tryd.func3
    (ChangeSpec.witness_shaped (enc := enc) (C := Tryd.checked) (os := os) (X := fun w _ => laidMetH Tryd.prog laidR w) false (World.doorLaid Tryd.prog 400 os) #[.agg #[.int .i64 0, .int .i64 0], .bool false, .bool false] 8 rfl (World.shaped_of_RefB (by kernel_rfl) (by kernel_rfl)) (by kernel_rfl) (by kernel_rfl) (by kernel_rfl) (doorR os _)) ?_
  intro W base args ds gs before hval0 hW hcnd hsz0 hL _
  have hsz : (DataW.weightsEach Tryd.prog (Tryd.f3.params.toList ++ Rows.receiverAsksSpec.plain.varTypes Tryd.prog) (ds ++ gs)).all (· ≤ reachBytes) = true := hsz0
  clear hsz0
  have hval : ∀ (j : Nat) t v, Tryd.f3.params[j]? = some t → args[j]? = some v → Value.okWide Tryd.prog W .any base t v := hval0
  have hW' := hW
  obtain ⟨p, q, hA0, hV, rfl, hfz, hnd⟩ := hW
  have hA : DataW.TrodAll enc Tryd.prog W 0 (fun _ => true) true Tryd.f3.params.toList args.toList ds p := hA0
  rw [Tryd.params3] at hA hval hsz
  obtain ⟨v0, vs0, d0, ds0, p0, q0, hargs, rfl, rfl, h0, r0⟩ := trodAll_cons hA
  obtain ⟨v1, vs1, d1, ds1, p1, q1, rfl, rfl, rfl, h1, r1⟩ := trodAll_cons r0
  obtain ⟨v2, vs2, d2, ds2, p2, q2, rfl, rfl, rfl, h2, r2⟩ := trodAll_cons r1
  obtain ⟨rfl, rfl, rfl⟩ := trodAll_nil r2
  obtain rfl : args = #[v0, v1, v2] := by cases args; simp_all
  obtain ⟨rfl, rfl⟩ := trodVars_none hV
  have k0 := h0
  have lt0 : ∀ x ∈ p0, x.block < W.heap.size := by obtain ⟨m, hm⟩ := k0; exact DataW.trod_lt m _ _ _ hm
  have k1 := h1
  have lt1 : ∀ x ∈ p1, x.block < W.heap.size := by obtain ⟨m, hm⟩ := k1; exact DataW.trod_lt m _ _ _ hm
  have k2 := h2
  have lt2 : ∀ x ∈ p2, x.block < W.heap.size := by obtain ⟨m, hm⟩ := k2; exact DataW.trod_lt m _ _ _ hm
  obtain ⟨y0, z0, rfl, w0, u0⟩ := open_two Tryd.underlying23 ⟨rfl, rfl⟩ ⟨rfl, rfl⟩ Tryd.underlying3 (by kernel_rfl) (by kernel_rfl) (hval 0 23 v0 rfl rfl) h0
  obtain ⟨x1, rfl, rfl, rfl⟩ := open_bool Tryd.underlying4 (hval 1 4 v1 rfl rfl) h1
  obtain ⟨x2, rfl, rfl, rfl⟩ := open_bool Tryd.underlying4 (hval 2 4 v2 rfl rfl) h2
  clear hA0 hval0
  refine (walk y0 z0 x1 x2 W (tabsR hL) w0 u0).mono fun e W' ⟨he, bel⟩ => ?_
  subst he
  exact ⟨_, rfl, _, _, _, [], _, [], hW', trodAll_mk1 (shut_bool Tryd.underlying4 _), (trodAll_cons_mk (Below.trod laidOut (by kernel_rfl) (of_decide_eq_true (by kernel_rfl)) k0 bel lt0) (trodAll_cons_mk (Below.trod laidOut (by kernel_rfl) (of_decide_eq_true (by kernel_rfl)) k1 bel lt1) (trodAll_cons_mk (Below.trod laidOut (by kernel_rfl) (of_decide_eq_true (by kernel_rfl)) k2 bel lt2) trodAll_mk0))), rfl, bel.frame _, fun h => by cases h⟩

theorem over : Rows.receiverAsksRow.holds Tryd.pinned (OpenSpec.ofChange Rows.receiverAsksSpec) :=
  OpenClaim.holds_of_wide 3 Tryd.f3 rfl rfl rfl rfl rfl rfl rfl ⟨rfl, rfl, rfl, rfl, rfl⟩ rfl rfl rfl rfl rfl (by kernel_rfl) Tryd.func3 (by kernel_rfl)
    (of_decide_eq_true (by kernel_rfl)) (by unfold Func.isWrapper; first | (rw [if_pos (by decide +kernel)]; kernel_rfl) | (rw [if_neg (by decide +kernel)]; exact ⟨rfl, rfl⟩))
    (fun os started H enc _ => lifted os started H enc)

/-- The card: what the row lists is tied to the program's own text. -/
theorem proved : Rows.ReceiverAsksCardSaid :=
  Claim7.holds_tied_plain_at .later [] [.handle] true Rows.receiverAsksCard.stood.harness true
    over (fun _ h => by cases h) (by kernel_rfl) (fun _ h => by cases h) receiverAsks_row_tie rfl ⟨rfl, rfl⟩ (by kernel_rfl) rfl
    (fun f fn hf hfn => by
      obtain rfl : f = 3 := Option.some.inj ((show Tryd.prog.funcNamed "lifeline/lifelinelaw11.ReceiverAsks" = some 3 by kernel_rfl).symm.trans hf) |>.symm
      obtain rfl : fn = Tryd.f3 := (Option.some.inj (Tryd.func3.symm.trans hfn)).symm
      exact ⟨by kernel_rfl, fun j t ht => by
        rw [Tryd.params3] at ht
        have hm : t ∈ [23, 4, 4] := by simpa using Array.mem_of_getElem? ht
        have hall : ([23, 4, 4].all fun u => !Tryd.prog.wantsStandIn u) = true := by kernel_rfl
        exact (show Tryd.prog.wantsStandIn t = false by simpa using List.all_eq_true.1 hall t hm)⟩)
    (by kernel_rfl)
end Go.Proofs.YtjdjbdedfohfbaaDoor.receiverAsks
