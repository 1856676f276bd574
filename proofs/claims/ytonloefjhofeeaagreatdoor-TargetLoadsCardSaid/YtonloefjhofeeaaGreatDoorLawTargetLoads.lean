/-
  'lifelinelaw20.TargetLoads' answers true for every input of the row, and leaves its arguments as they were.
  Conditions: the package-level variables that the row lists lie as the program's own text lays them (the card ties them to it; what is pinned is a constant of the library's).
-/
import Derived.Test.YtonloefjhofeeaaGreatDoorRows
import Derived.Test.YtonloefjhofeeaaGreatDoorBoardHex
import Derived.Test.YtonloefjhofeeaaGreatDoorMac
import Derived.Test.YtonloefjhofeeaaGreatDoorBlockAct
import Derived.Test.YtonloefjhofeeaaGreatDoorFrame
import Derived.Test.YtonloefjhofeeaaGreatDoorFrameBoard
import Derived.Test.YtonloefjhofeeaaGreatDoorCards
import Derived.WalkKit
import Derived.ProofKit
import Derived.OpenShut
import Derived.ShutString
import Derived.ChangeOld
import Derived.Below
namespace Go.Proofs.YtonloefjhofeeaaGreatDoor.targetLoads
open Go.ChangeShapes Go.WideShapes Go.ChangeAt Go.RowKit
open Go.ChangeMaps (open_string shut_string)
set_option linter.unusedVariables false

theorem own : ownKnob Tryz.prog.godebug = none := by kernel_rfl
theorem laidOut : laidOutB Tryz.prog = true := by kernel_rfl


/-- A board that waits for a block, one that had it, one that has it in its memory. -/
def rdA (p : BP Fl) (d : List UInt8) : Rd := ⟨2, 0, p.T, p.W, [], d, false, 0⟩
def ld0 (p : BP Fl) (crc : Bool) (a : Nat) : Bd := { aw20 with ad := a, ld := .one crc (newR 1 1 p.T) }
def ld1 (p : BP Fl) (crc : Bool) (a : Nat) (d : List UInt8) : Bd := { aw20 with ad := a, ld := .one crc (rdA p d) }
def ldE (a : Nat) (d : List UInt8) : Bd := { aw20 with ad := a, st := splice (zeros 16384) a d }
theorem ld0_ok (p : BP Fl) (crc : Bool) (a : Nat) (ha : a < 16000) : Ok20 10 2000 (ld0 p crc a) := ⟨rfl, Nat.zero_le _, by show a < 4294967296; omega, zeros_len _, by show _ ∧ _; refine ⟨Nat.zero_le _, ?_, ?_, Nat.zero_le _⟩ <;> simp [newR], trivial⟩
theorem ld1_ok (p : BP Fl) (crc : Bool) (a : Nat) (d : List UInt8) (ha : a < 16000) (hd : d.length = 128) : Ok20 10 2000 (ld1 p crc a d) := ⟨rfl, Nat.zero_le _, by show a < 4294967296; omega, zeros_len _, by show _ ∧ _; refine ⟨by show d.length ≤ _; omega, ?_, ?_, Nat.zero_le _⟩ <;> simp [rdA], trivial⟩
theorem feed_begin (p : BP Fl) (crc : Bool) (a : Nat) (ha : a < 16000) : feed20 p aw20 (loadL (if crc then 1 else 0) a ++ [13]) = ([], ld0 p crc a) := by
  cases crc with
  | false => exact (feed_loadL (k := 0) (by omega) (by omega) rfl rfl rfl)
  | true => exact (feed_loadL (k := 1) (by omega) (by omega) rfl rfl rfl)
theorem feed_blk (p : BP Fl) (crc : Bool) (a : Nat) (d : List UInt8) (hd : d.length = 128) : feed20 p (ld0 p crc a) (enc 1 d crc) = ([6], ld1 p crc a d) := by
  have h := put_block crc true p.W (newR 1 1 p.T) 1 d (.inl hd) rfl rfl
  have h2 : takeR true { newR 1 1 p.T with tk := p.W, bu := [] } 1 d = ([6], rdA p d) := by
    unfold takeR
    refine (if_pos (show (1 : UInt8) = 1 from rfl)).trans ?_
    unfold finR
    exact if_neg (fun h => by cases h.1)
  rw [h2] at h
  have hp : (Lod.one crc (newR 1 1 p.T)).put p (enc 1 d crc) = ([6], .one crc (rdA p d)) := by
    show ((putR crc true p.W (newR 1 1 p.T) (enc 1 d crc)).1, Lod.one crc (putR crc true p.W (newR 1 1 p.T) (enc 1 d crc)).2) = _
    rw [h]
  rw [feed_load rfl]
  unfold lput20
  have he : (ld0 p crc a).ld.put p (enc 1 d crc) = ([6], .one crc (rdA p d)) := hp
  rw [he]
  rfl
theorem feed_eot (p : BP Fl) (crc : Bool) (a : Nat) (d : List UInt8) (ha : a < 16000) (hd : d.length = 128) : feed20 p (ld1 p crc a d) [4] = (6 :: readyL, ldE a d) := by
  have h : putR crc true p.W (rdA p d) [4] = ([6], stopR { rdA p d with tk := p.W, bu := [4] } 0) := by
    unfold putR
    rw [if_neg (by simp [rdA])]
    unfold seeR
    rw [if_pos ⟨rfl, rfl⟩]
    rfl
  have he : (ld1 p crc a d).ld.put p [4] = ([6], .one crc (stopR { rdA p d with tk := p.W, bu := [4] } 0)) := by
    show ((putR crc true p.W (rdA p d) [4]).1, Lod.one crc (putR crc true p.W (rdA p d) [4]).2) = _
    rw [h]
  rw [feed_load rfl]
  unfold lput20
  rw [he]
  unfold fin20
  rw [if_neg (by simp [Lod.ov, stopR]), if_pos ⟨rfl, by show a + d.length ≤ 16384; omega⟩]
  rfl
theorem enc_at3 (num : UInt8) (d : List UInt8) (crc : Bool) (j : Nat) (hj : j < d.length) : (enc num d crc)[3 + j]? = d[j]? := by
  unfold enc
  rw [show 3 + j = j + 1 + 1 + 1 by omega]
  simp only [List.getElem?_cons_succ]
  rw [List.getElem?_append_left (by omega)]
theorem zeros_at {n k : Nat} (h : k < n) : (zeros n)[k]? = some 0 := by unfold zeros; rw [List.getElem?_replicate, if_pos h]
theorem bk_blk (b : List UInt8) (crc : Bool) : bkB ⟨4, 0, b, 0, 0⟩ 1 crc = enc 1 (dat b 128) crc := by
  unfold bkB cutA xorA encA numA
  rfl
set_option maxRecDepth 100000 in
set_option maxHeartbeats 8000000 in
theorem walk (a0 : Option Addr) (n0 c0 : Nat) (m0 : List Mac) (a1 : Option Addr) (n1 c1 : Nat) (b1 : List UInt8) (x2 : Bool) (w : World) (hS : Sup w) (h0 : MacS w a0 n0 m0) (l0 : n0 ≤ c0) (s0 : c0 ≤ 9223372036854775807) (h1 : Bys w w.heap.size a1 n1 b1) (l1 : n1 ≤ c1) (s1 : c1 ≤ 140737488351232) :
    Calls Tryz.prog 7 #[.slice a0 n0 c0, .slice a1 n1 c1, .bool x2] w fun e w' => e = .returned (.bool true) ∧ Below w.heap.size w w' := by
  obtain ⟨p, hp, hT, hW⟩ := bp_ex 3 9
  have HP := keepHid hp
  obtain ⟨a, ha, hadr⟩ : ∃ a : Nat, a < 16000 ∧ ((n0 = 0 ∧ a = 0) ∨ (0 < n0 ∧ ∃ ad u, a0 = some ad ∧ ad.block < w.heap.size ∧ u ≤ 65535 ∧ w.cell? ⟨ad.block, ad.off + 1, none⟩ = some (.int .u16 ((u : Nat) : Int)) ∧ Int.tmod (u : Int) 16000 = (a : Int))) := by
    rcases Nat.eq_zero_or_pos n0 with h | h
    · exact ⟨0, by omega, .inl ⟨h, rfl⟩⟩
    · have hl := h0.len
      obtain ⟨m, hm⟩ : ∃ m, m0[0]? = some m := ⟨_, List.getElem?_eq_getElem (by omega)⟩
      obtain ⟨ad, Ak, ck, e, hb, _⟩ := h0.2 0 m hm
      obtain ⟨ad', Ak, ck, e', _, q1, _, _, _, hF, _⟩ := h0.at_ hm
      obtain rfl : ad = ad' := by rw [e] at e'; exact Option.some.inj e'
      have hz : ad.add (0 * 5) = ad := by obtain ⟨q1, q2, q3⟩ := ad; rw [Nat.zero_mul]; unfold Addr.add; cases q3 <;> simp
      rw [hz] at q1
      exact ⟨m.ad % 16000, Nat.mod_lt _ (by omega), .inr ⟨h, ad, m.ad, e, hb, hF.ad, q1, by rw [Int.tmod_eq_emod_of_nonneg (by omega)]; rfl⟩⟩
  obtain ⟨kw, hkw⟩ : ∃ kw : Int, (if x2 then (1 : Int) else 0) = kw := ⟨_, rfl⟩
  have hkw2 : way20 kw = kw ∧ kw ≤ 1 ∧ 0 ≤ kw := by rw [← hkw]; cases x2 <;> decide
  obtain ⟨E, hE⟩ : ∃ E, enc 1 (dat b1 128) x2 = E := ⟨_, rfl⟩
  have hd : (dat b1 128).length = 128 := dat_len _ _
  have hEl : 131 ≤ E.length ∧ E.length ≤ 133 := by
    rw [← hE, enc_len, hd]
    have := szT_pos x2
    have : szT x2 ≤ 2 := by unfold szT; split <;> omega
    omega
  have HAW := keepHid (awake_any20 w hS)
  have HST : Hid (∀ wx, Below w.heap.size w wx → Stan w wx p 3 9) := keepHid (fun wx hx => ⟨hx, hS, hT, hW⟩)
  have HB1 := keepHid h1
  have HA : Hid (a < 16000) := keepHid ha
  have HEL := keepHid hEl
  have HEE := keepHid hE
  have HKW := keepHid hkw
  have HKW2 := keepHid hkw2
  have hn0 : n0 ≤ 9223372036854775807 := by omega
  clear hT hW hS hp h0 h1 hE hEl hd hkw hkw2
  go_enter Tryz.func7, Tryz.ntmps7
  go_wp2_with fail
  with_reducible refine HAW.out.mono ?_
  rintro e w2 ⟨rfl, hb2⟩
  have HOF := keepHid (of_any20 (HST.out w2 hb2))
  clear hb2 HAW
  go_wp2_with fail
  with_reducible refine HOF.out.mono ?_
  rintro e w3 ⟨G, κ3, rfl, hT3, hb3, _⟩
  obtain ⟨GS, c0'⟩ : ∃ GS, w3.cell? ⟨G, 0, none⟩ = some (.pointer (some ⟨GS, 0, none⟩)) := by
    obtain ⟨GS, lv, iv, rv, hM⟩ := hT3
    exact ⟨GS, hM.blk.cell 0⟩
  obtain ⟨w4, hw4⟩ : ∃ w4, w3.alloc (.cells #[.int .u8 0] 5) = w4 := ⟨_, rfl⟩
  have hb4 : Below w3.heap.size w3 w4 := by rw [← hw4]; exact (Below.refl _ _).alloc (Nat.le_refl _) _
  have hf4 : Fre w4 κ3 (some ⟨w3.heap.size, 0, none⟩) 1 [0] := by rw [← hw4]; exact Fre.new hT3 [0] 1 rfl (by omega) _ rfl
  have HPX := keepHid (put_lit HP.out (hT3.below hb4) new_ok (by omega) (by omega) _ 1 1 [0] hf4 (by omega) (Nat.le_refl _) (by omega) (by show 0 + 1 ≤ 1000000000; omega) readyL aw20 (feed_wake 0 rfl rfl) 5 rfl (by omega))
  have HLD : Hid (∀ wr κ s, Tgt w wr G κ p 3 9 s → Calls Tryz.prog 26 #[.pointer (some ⟨G, 0, none⟩)] wr fun e w' => e = .returned (.bool (!s.ld.isNon)) ∧ wr = w') := keepHid (fun wr κ s h => (show Calls Tryz.prog 26 #[ptV G] wr _ from loads_any h))
  clear hT3 hb3 hb4 hf4 HOF
  unfold ptV
  go_wp2_with fail
  try rw [hw4]
  clear hw4 c0'
  with_reducible refine HPX.out.mono ?_
  rintro e w5 ⟨A5, c5, κ5, rfl, hf5, hT5, ht5, hk5, hc51, hc52⟩
  have HT5 := keepHid hT5
  have HB5 := keepHid hT5.base.bel
  clear hf5 hT5 ht5 hk5 hc51 hc52 HPX
  go_upto_if 33 with fail
  go_cut [8] (fun s wx => s = .int .i64 (a : Int) ∧ wx = w5)
  case first =>
    rcases hadr with ⟨rfl, rfl⟩ | ⟨hn, ad, u, rfl, hlt, hu, hc, hm⟩
    · go_wp2_with fail
      go_meet
      case rel => exact ⟨rfl, rfl⟩
    · have hcu := (HB5.out.cell (p := ⟨ad.block, ad.off + 1, none⟩) hlt).trans hc
      have hni : (0 : Int) < (n0 : Int) := by omega
      have hw1 : IntKind.i64.wrap (u : Int) = (u : Int) := by rw [IntKind.wrap_i64]; omega
      clear hc hlt HB5 HT5
      go_wp2_with fail
      go_meet
      case rel => exact ⟨rfl, rfl⟩
  case rest =>
  obtain ⟨rfl, hwc⟩ := hcut
  subst wc
  clear hadr
  go_upto_if 40 with fail
  go_cut [9] (fun s wx => s = .int .i64 kw ∧ wx = w5)
  case first =>
    have hk := HKW.out
    cases x2
    · have hk : kw = 0 := hk.symm
      subst hk
      go_wp2_with fail
      go_meet
      case rel => exact ⟨rfl, rfl⟩
    · have hk : kw = 1 := hk.symm
      subst hk
      go_wp2_with fail
      go_meet
      case rel => exact ⟨rfl, rfl⟩
  case rest =>
  obtain ⟨rfl, hwc⟩ := hcut
  subst wc
  have HLO := keepHid (load_any20 kw a (by have := HKW2.out; omega) (by omega) w5 HT5.out.base.supw.four)
  rw [HKW2.out.1] at HLO
  go_wp2_with fail
  with_reducible refine HLO.out.mono ?_
  rintro e w6 ⟨rfl, hb6⟩
  have hT6 := HT5.out.below hb6
  have hlen : (loadL kw a ++ [13]).length ≤ 100 := by
    have l1 := dig_sixteen (n := a) (by omega)
    have l2 := (way_noblank kw).2
    unfold loadL wLoad
    simp only [List.length_append, List.length_cons, List.length_nil]
    omega
  have hfb := feed_begin p x2 a ha
  rw [show loadL (if x2 then 1 else 0) a = loadL kw a by rw [← HKW.out]] at hfb
  generalize loadL kw a ++ [13] = LL at *
  obtain ⟨cp, w7, hcv, hrow⟩ := run_str_bytes (P := Tryz.prog) w6 9 31 5 LL Tryz.underlying9 Tryz.underlying31 Tryz.underlying5 (by omega)
  obtain ⟨N, hN⟩ : ∃ N, LL.length = N := ⟨_, rfl⟩
  have hcap := hrow.cap
  have hby := hrow.bys
  rw [hN] at hcv hcap hby hlen
  have hfr : Fre w7 κ5 (some ⟨w6.heap.size, 0, none⟩) N LL := ⟨hby.more hrow.lt, fun ad e _ => by
    obtain rfl := Option.some.inj e
    show κ5 w6.heap.size = 0
    rcases Nat.eq_zero_or_pos (κ5 w6.heap.size) with q | q
    · exact q
    · have := (hT6.lt w6.heap.size (by omega)).2; omega⟩
  have HPX := keepHid (put_lit HP.out (hT6.below hrow.below) aw_ok (by omega) (by omega) _ N cp LL hfr (by omega) hcap.1 hcap.2 (by show 0 + N ≤ 1000000000; omega) [] (ld0 p x2 a) hfb 0 rfl (by omega))
  clear hb6 hT6 hlen hfb hcap hby hN hfr hrow HLO HT5 HB5
  go_wp2_with fail
  with_reducible refine HPX.out.mono ?_
  rintro e w8 ⟨A8, c8, κ8, rfl, hf8, hT8, ht8, hk8, hc81, hc82⟩
  have HL8 := keepHid (HLD.out w8 κ8 (ld0 p x2 a) hT8)
  have HT8 := keepHid hT8
  have HB8 := keepHid (HB1.out.below hT8.base.bel)
  clear hf8 hT8 ht8 hk8 hc81 hc82 HPX hcv
  rw [show (ld0 p x2 a).ld.isNon = false from rfl] at HL8
  go_wp2_with fail
  with_reducible refine HL8.out.mono ?_
  rintro e w9 ⟨rfl, rfl⟩
  obtain ⟨w10, hw10⟩ : ∃ w10, w8.alloc (.cells #[.int .u8 4, .int .u8 0, .slice a1 n1 c1, .int .u16 0, .int .u8 0] 40) = w10 := ⟨_, rfl⟩
  have hb10 : Below w8.heap.size w8 w10 := by rw [← hw10]; exact (Below.refl _ _).alloc (Nat.le_refl _) _
  have hk10 : Blk w10 w8.heap.size 40 #[.int .u8 4, .int .u8 0, .slice a1 n1 c1, .int .u16 0, .int .u8 0] := by rw [← hw10]; exact Blk.new w8 _ _
  have HT10 := keepHid (HT8.out.below hb10)
  have hb010 : Below w.heap.size w w10 := HT10.out.base.bel
  have HBK : Hid (Calls Tryz.prog 27 #[.agg #[.int .u8 4, .int .u8 0, .slice a1 n1 c1, .int .u16 0, .int .u8 0], .int .u8 1, .bool x2] w10 fun e w' => ∃ A' n' c', e = .returned (.slice A' n' c') ∧ Fre w' κ8 A' n' E ∧ n' = E.length ∧ n' ≤ c' ∧ c' ≤ 9223372036854775807 ∧ Below w10.heap.size w10 w') := keepHid (by
    refine (show Calls Tryz.prog 27 #[.agg #[.int .u8 4, .int .u8 0, .slice a1 n1 c1, .int .u16 0, .int .u8 0], .int .u8 1, .bool x2] w10 _ from bk_any ⟨4, 0, b1, 0, 0⟩ ⟨by show 4 ≤ 255; omega, by show 0 ≤ 255; omega, by show 0 ≤ 65535; omega, by show 0 ≤ 255; omega⟩ 1 x2 a1 n1 c1 w10 ((HB1.out.below hb010).more hb010.size) l1 (by omega)).mono ?_
    rintro e w' ⟨A', n', c', rfl, h1, h2, h3, h4, h5⟩
    rw [bk_blk, HEE.out] at h1
    refine ⟨A', n', c', rfl, ⟨h1, fun ad e h0 => ?_⟩, h1.len.symm, h2, h3, h4⟩
    have hlt := HT10.out.lt
    rcases Nat.eq_zero_or_pos (κ8 ad.block) with q | q
    · exact q
    · have hq := hlt ad.block (by omega)
      rcases h5 with ⟨rfl, rfl⟩ | h5
      · obtain ⟨ad2, _, e2, hlt2, _⟩ := HB1.out.at_ h0
        obtain rfl : ad = ad2 := by rw [e] at e2; exact Option.some.inj e2
        omega
      · have := h5 ad e; omega)
  have HW10 := keepHid hw10
  clear hb10 hk10 hb010 HL8 HT8 HB8 hw10
  go_wp2_with fail
  rw [HW10.out]
  clear HW10
  with_reducible refine HBK.out.mono ?_
  rintro e w11 ⟨A11, n11, c11, rfl, hf11, hn11, hc11, hc12, hb11⟩
  have hE133 : n11 ≤ 133 ∧ 131 ≤ n11 := by rw [hn11]; exact ⟨HEL.out.2, HEL.out.1⟩
  have hT11 := HT10.out.below hb11
  have HPX := keepHid (put_lit HP.out hT11 (ld0_ok p x2 a ha) (by omega) (by omega) A11 n11 c11 E hf11 (by omega) hc11 hc12 (by show 0 + n11 ≤ 1000000000; omega) [6] (ld1 p x2 a (dat b1 128)) (by rw [← HEE.out]; exact feed_blk p x2 a _ (dat_len _ _)) 1 rfl (by omega))
  have HF11 := keepHid hf11
  clear hT11 hf11 hb11 HBK HT10 hn11
  go_wp2_with fail
  with_reducible refine HPX.out.mono ?_
  rintro e w12 ⟨A12, c12, κ12, rfl, hf12, hT12, ht12, hk12, hc121, hc122⟩
  have cv12 := hf12.str c12
  have hq12 : ((strB [6]).toList == [6]) = true := by rw [strB_toList]; rfl
  obtain ⟨w13, hw13⟩ : ∃ w13, w12.alloc (.cells #[.int .u8 4] 5) = w13 := ⟨_, rfl⟩
  have hb13 : Below w12.heap.size w12 w13 := by rw [← hw13]; exact (Below.refl _ _).alloc (Nat.le_refl _) _
  have HF13 := keepHid ((HF11.out.turn ht12 hk12).below hb13)
  have hf13 : Fre w13 κ12 (some ⟨w12.heap.size, 0, none⟩) 1 [4] := by rw [← hw13]; exact Fre.new hT12 [4] 1 rfl (by omega) _ rfl
  have HPY := keepHid (put_lit HP.out (hT12.below hb13) (ld1_ok p x2 a _ ha (dat_len b1 128)) (by omega) (by omega) _ 1 1 [4] hf13 (by omega) (Nat.le_refl _) (by omega) (by show 0 + 1 ≤ 1000000000; omega) (6 :: readyL) (ldE a (dat b1 128)) (feed_eot p x2 a _ ha (dat_len b1 128)) 6 rfl (by omega))
  generalize strB [6] = K6 at *
  clear hf12 hT12 ht12 hk12 hc121 hc122 hb13 hf13 HPX HF11
  go_wp2_with fail
  try rw [hw13]
  clear hw13
  with_reducible refine HPY.out.mono ?_
  rintro e w14 ⟨A14, c14, κ14, rfl, hf14, hT14, ht14, hk14, hc141, hc142⟩
  have cv14 := hf14.str c14
  have hq14 : ((strB (6 :: readyL)).toList == [6, 13, 10, 61, 62, 32]) = true := by rw [strB_toList]; rfl
  generalize strB (6 :: readyL) = K7 at *
  have HF14 := keepHid (HF13.out.turn ht14 hk14)
  have HT14 := keepHid hT14
  obtain ⟨GS2, c0', hsto⟩ : ∃ GS, w14.cell? ⟨G, 0, none⟩ = some (.pointer (some ⟨GS, 0, none⟩)) ∧ Sto w14 GS (splice (zeros 16384) a (dat b1 128)) := by
    obtain ⟨GS, lv, iv, rv, hM⟩ := hT14
    exact ⟨GS, hM.blk.cell 0, hM.sto⟩
  have HRD := keepHid (sread_z GS2 _ 0 16384 0 16384 rfl rfl w14 hsto (by omega))
  have hgl : getL (splice (zeros 16384) a (dat b1 128)) 0 16384 = splice (zeros 16384) a (dat b1 128) := by
    unfold getL
    rw [List.drop_zero, List.take_of_length_le (by rw [hsto.len]; omega)]
  rw [hgl] at HRD
  clear hf14 hT14 ht14 hk14 hc141 hc142 HPY HF13 hsto hgl
  go_wp2_with fail
  with_reducible refine HRD.out.mono ?_
  rintro e w15 ⟨rfl, hk15, hb15⟩
  have hT15 := HT14.out.below hb15
  have HL15 := keepHid (HLD.out w15 κ14 _ hT15)
  rw [show (ldE a (dat b1 128)).ld.isNon = true from rfl] at HL15
  have HB15 := keepHid hT15.base.bel
  have HF15 := keepHid (HF14.out.below hb15)
  have HK15 := keepHid hk15
  obtain ⟨g15, hg15⟩ : ∃ g, w14.heap.size = g := ⟨_, rfl⟩
  rw [hg15] at HK15 ⊢
  have HCELL : Hid (∀ k, k < 16384 → ∃ x : UInt8, w15.cell? ⟨g15, k, none⟩ = some (.int .u8 (x.toNat : Int)) ∧ ((a ≤ k ∧ k < a + 128 ∧ ∃ ad, A11 = some ad ∧ w15.cell? (ad.add (3 + k - a)) = some (.int .u8 (x.toNat : Int)) ∧ 3 + k - a < n11) ∨ ((k < a ∨ a + 128 ≤ k) ∧ x = 0))) := keepHid (fun k hk => by
    have hsp := splice_at (cs := zeros 16384) (bs := dat b1 128) (a := a) k (by rw [zeros_len, dat_len]; omega)
    rw [dat_len, zeros_at hk] at hsp
    by_cases hin : a ≤ k ∧ k < a + 128
    · rw [if_pos hin] at hsp
      have hj : k - a < (dat b1 128).length := by rw [dat_len]; omega
      have he3 := enc_at3 1 (dat b1 128) x2 (k - a) hj
      rw [HEE.out, ← hsp] at he3
      obtain ⟨x, hx⟩ : ∃ x, (dat b1 128)[k - a]? = some x := ⟨_, List.getElem?_eq_getElem hj⟩
      obtain ⟨ad, x', e1, _, e2, e3⟩ := HF15.out.bys.at_ (k := 3 + (k - a)) (by omega)
      rw [he3, hsp, hx] at e2
      obtain rfl := Option.some.inj e2
      refine ⟨x, ?_, .inl ⟨hin.1, hin.2, ad, e1, by rw [show 3 + k - a = 3 + (k - a) by omega]; exact e3, by omega⟩⟩
      rw [HK15.out.cell]
      unfold byteVals
      simp only [List.getElem?_toArray, List.getElem?_map, hsp, hx]
      rfl
    · rw [if_neg hin] at hsp
      refine ⟨0, ?_, .inr ⟨by omega, rfl⟩⟩
      rw [HK15.out.cell]
      unfold byteVals
      simp only [List.getElem?_toArray, List.getElem?_map, hsp]
      rfl)
  clear hk15 hb15 hT15 HRD HT14 HF14 HF15 HK15 c0' hg15
  go_wp2_with fail
  with_reducible refine HL15.out.mono ?_
  rintro e w16 ⟨rfl, rfl⟩
  clear HL15 cv12 cv14 hq12 hq14
  go_wp2_with fail
  go_loopw [87] (fun i wr => ∃ k : Nat, k ≤ 16384 ∧ i = .int .i64 (k : Int) ∧ wr = w15) (fun i _ => 16384 - (intOf i).toNat)
  case atStart => exact ⟨0, Nat.zero_le _, rfl, rfl⟩
  case round =>
    obtain ⟨k, hk, rfl, hwr⟩ := hrel
    subst wr
    by_cases hk3 : k < 16384
    · have hkI : (k : Int) < 16384 := by omega
      obtain ⟨x, hcx, hh⟩ := HCELL.out k hk3
      rcases hh with ⟨h1, h2, ad, rfl, hca, h3⟩ | ⟨h1, rfl⟩
      · have hge : (a : Int) ≤ (k : Int) := by omega
        have hlt : (k : Int) < (a : Int) + 128 := by omega
        obtain ⟨j, hj⟩ : ∃ j, 3 + k - a = j := ⟨_, rfl⟩
        have hji : 3 + (k : Int) - (a : Int) = (j : Int) := by omega
        have hw1 : IntKind.i64.wrap ((a : Int) + 128) = (a : Int) + 128 := by rw [IntKind.wrap_i64]; omega
        have hw2 : IntKind.i64.wrap (3 + (k : Int)) = 3 + (k : Int) := by rw [IntKind.wrap_i64]; omega
        have hw3 : IntKind.i64.wrap (3 + (k : Int) - (a : Int)) = (j : Int) := by rw [hji, IntKind.wrap_i64]; omega
        have hjn : (j : Int) < (n11 : Int) := by omega
        rw [hj] at hca
        have hqq : ((x.toNat : Int) == (x.toNat : Int)) = true := by simp
        generalize (x.toNat : Int) = xi at *
        go_wp2
        go_roundw
        case rel => exact ⟨k + 1, by omega, by go_num, trivial⟩
        case measure => simp [intOf]; omega
      · rw [show (((0 : UInt8).toNat : Nat) : Int) = 0 from rfl] at hcx
        rcases h1 with h1 | h1
        · have hge : ¬ (a : Int) ≤ (k : Int) := by omega
          go_wp2
          go_roundw
          case rel => exact ⟨k + 1, by omega, by go_num, trivial⟩
          case measure => simp [intOf]; omega
        · have hge : (a : Int) ≤ (k : Int) := by omega
          have hlt : ¬ (k : Int) < (a : Int) + 128 := by omega
          have hw1 : IntKind.i64.wrap ((a : Int) + 128) = (a : Int) + 128 := by rw [IntKind.wrap_i64]; omega
          go_wp2
          go_roundw
          case rel => exact ⟨k + 1, by omega, by go_num, trivial⟩
          case measure => simp [intOf]; omega
    · obtain rfl : k = 16384 := by omega
      go_wp2
      go_ret
      exact ⟨rfl, HB15.out⟩

set_option maxRecDepth 100000 in
theorem lifted (os : Os) (started : os.Started) (H : Type) (enc : TypeId × Value → H) :
    ReturnsInHanded {} Tryz.checked os 7 .any (fun w args => (Rows.targetLoadsSpec.pre enc Tryz.prog Tryz.f7 [] false w args ∧ laidMetH Tryz.prog laid7 w) ∧ sizedMet enc Tryz.prog Tryz.f7 (OpenSpec.ofChange Rows.targetLoadsSpec) false w args) (Rows.targetLoadsSpec.post enc Tryz.prog Tryz.f7 false true false false) := by
  refine returnsInHanded_of_change_and (C := Tryz.checked) (X := fun w _ => laidMetH Tryz.prog laid7 w) (fun _ _ _ hh h => h.of_heap hh) own started (by kernel_rfl) Tryz.func7
    (ChangeSpec.witness_shaped (enc := enc) (C := Tryz.checked) (os := os) (X := fun w _ => laidMetH Tryz.prog laid7 w) false (worldF os) #[.slice none 0 0, .slice none 0 0, .bool false] 8 (worldF_os os) (World.shaped_of_RefB (by kernel_rfl) (by kernel_rfl)) (by kernel_rfl) (by kernel_rfl) (by kernel_rfl) (door7 os _)) ?_
  intro W base args ds gs before hval0 hW hcnd hsz0 hL _
  have hsz : (DataW.weightsEach Tryz.prog (Tryz.f7.params.toList ++ Rows.targetLoadsSpec.plain.varTypes Tryz.prog) (ds ++ gs)).all (· ≤ reachBytes) = true := hsz0
  clear hsz0
  have hval : ∀ (j : Nat) t v, Tryz.f7.params[j]? = some t → args[j]? = some v → Value.okWide Tryz.prog W .any base t v := hval0
  have hW' := hW
  obtain ⟨p, q, hA0, hV, rfl, hfz, hnd⟩ := hW
  have hA : DataW.TrodAll enc Tryz.prog W 0 (fun _ => true) true Tryz.f7.params.toList args.toList ds p := hA0
  rw [Tryz.params7] at hA hval hsz
  obtain ⟨v0, vs0, d0, ds0, p0, q0, hargs, rfl, rfl, h0, r0⟩ := trodAll_cons hA
  obtain ⟨v1, vs1, d1, ds1, p1, q1, rfl, rfl, rfl, h1, r1⟩ := trodAll_cons r0
  obtain ⟨v2, vs2, d2, ds2, p2, q2, rfl, rfl, rfl, h2, r2⟩ := trodAll_cons r1
  obtain ⟨rfl, rfl, rfl⟩ := trodAll_nil r2
  obtain rfl : args = #[v0, v1, v2] := by cases args; simp_all
  obtain ⟨rfl, rfl⟩ := trodVars_none hV
  have k0 := h0
  have lt0 : ∀ x ∈ p0, x.block < W.heap.size := by obtain ⟨m, hm⟩ := k0; exact DataW.trod_lt m _ _ _ hm
  have k1 := h1
  have lt1 : ∀ x ∈ p1, x.block < W.heap.size := by obtain ⟨m, hm⟩ := k1; exact DataW.trod_lt m _ _ _ hm
  have k2 := h2
  have lt2 : ∀ x ∈ p2, x.block < W.heap.size := by obtain ⟨m, hm⟩ := k2; exact DataW.trod_lt m _ _ _ hm
  obtain ⟨a0, n0, c0, m0, rfl, w0, l0, s0⟩ := open_mac Tryz.underlying67 Tryz.underlying69 ⟨rfl, rfl⟩ ⟨rfl, rfl⟩ ⟨rfl, rfl⟩ ⟨rfl, rfl⟩ ⟨rfl, rfl⟩ Tryz.underlying31 Tryz.underlying5 Tryz.underlying38 Tryz.underlying49 (by kernel_rfl) (by kernel_rfl) (by kernel_rfl) (by kernel_rfl) (by kernel_rfl) (hval 0 67 v0 rfl rfl) h0
  obtain ⟨a1, n1, c1, b1, rfl, w1, l1, s1⟩ := open_bys Tryz.underlying31 Tryz.underlying5 (by kernel_rfl) (by kernel_rfl) (hval 1 31 v1 rfl rfl) (fun _ => rfl) h1 (fun el sp hd => sized_slice hsz (j := 1) (t := 31) (e := 5) rfl (by rw [hd]; rfl) Tryz.underlying31)
  obtain ⟨x2, rfl, rfl, rfl⟩ := open_bool Tryz.underlying4 (hval 2 4 v2 rfl rfl) h2
  clear hA0 hval0
  refine (walk a0 n0 c0 m0 a1 n1 c1 b1 x2 W (sup7 hL) w0 l0 s0 w1 l1 s1).mono fun e W' ⟨he, bel⟩ => ?_
  subst he
  exact ⟨_, rfl, _, _, _, [], _, [], hW', trodAll_mk1 (shut_bool Tryz.underlying4 _), (trodAll_cons_mk (Below.trod laidOut (by kernel_rfl) (of_decide_eq_true (by kernel_rfl)) k0 bel lt0) (trodAll_cons_mk (Below.trod laidOut (by kernel_rfl) (of_decide_eq_true (by kernel_rfl)) k1 bel lt1) (trodAll_cons_mk (Below.trod laidOut (by kernel_rfl) (of_decide_eq_true (by kernel_rfl)) k2 bel lt2) trodAll_mk0))), rfl, bel.frame _, fun h => by cases h⟩

theorem over : Rows.targetLoadsRow.holds Tryz.pinned (OpenSpec.ofChange Rows.targetLoadsSpec) :=
  OpenClaim.holds_of_wide 7 Tryz.f7 rfl rfl rfl rfl rfl rfl rfl ⟨rfl, rfl, rfl, rfl, rfl⟩ rfl rfl rfl rfl rfl (by kernel_rfl) Tryz.func7 (by kernel_rfl)
    (of_decide_eq_true (by kernel_rfl)) (by unfold Func.isWrapper; first | (rw [if_pos (by decide +kernel)]; kernel_rfl) | (rw [if_neg (by decide +kernel)]; exact ⟨rfl, rfl⟩))
    (fun os started H enc _ => lifted os started H enc)

/-- The card: what the row lists is tied to the program's own text. -/
theorem proved : Rows.TargetLoadsCardSaid :=
  Claim7.holds_tied_plain_at .later [] [.data, .data, .data, .data, .sentinel, .sentinel, .pinned] true Rows.targetLoadsCard.stood.harness true
    over (fun _ h => by cases h) (by kernel_rfl) (fun _ h => by cases h) targetLoads_row_tie rfl ⟨rfl, rfl⟩ (by kernel_rfl) rfl
    (fun f fn hf hfn => by
      obtain rfl : f = 7 := Option.some.inj ((show Tryz.prog.funcNamed "lifeline/lifelinelaw20.TargetLoads" = some 7 by kernel_rfl).symm.trans hf) |>.symm
      obtain rfl : fn = Tryz.f7 := (Option.some.inj (Tryz.func7.symm.trans hfn)).symm
      exact ⟨by kernel_rfl, fun j t ht => by
        rw [Tryz.params7] at ht
        have hm : t ∈ [67, 31, 4] := by simpa using Array.mem_of_getElem? ht
        have hall : ([67, 31, 4].all fun u => !Tryz.prog.wantsStandIn u) = true := by kernel_rfl
        exact (show Tryz.prog.wantsStandIn t = false by simpa using List.all_eq_true.1 hall t hm)⟩)
    (by kernel_rfl)
end Go.Proofs.YtonloefjhofeeaaGreatDoor.targetLoads
