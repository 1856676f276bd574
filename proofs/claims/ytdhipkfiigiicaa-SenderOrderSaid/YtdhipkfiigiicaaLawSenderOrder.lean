/-
  'lifelinelaw10.SenderOrder' answers true for every input, and leaves its arguments as they were.
  Conditions: none but what the row itself says of its arguments (how much memory each may take).
-/
import Derived.Test.YtdhipkfiigiicaaRows
import Derived.Test.YtdhipkfiigiicaaSenderLaw
import Derived.Test.YtdhipkfiigiicaaSenderAwake
import Derived.Test.YtdhipkfiigiicaaSenderSent
import Derived.Test.YtdhipkfiigiicaaSenderOrd
import Derived.Test.YtdhipkfiigiicaaCountM
import Derived.Test.YtdhipkfiigiicaaBlockUse
import Derived.Test.YtdhipkfiigiicaaFrameTwo
import Derived.LoopTactic
import Derived.Deep.DeepCutAuto
import Derived.Deep.RegionWith
import Derived.Deep.DrawnRows
import Derived.Lib.QuietBelow
import Derived.Test.YtdhipkfiigiicaaFrame
import Derived.WalkKit
import Derived.ProofKit
import Derived.OpenShut
import Derived.ShutString
import Derived.ChangeOld
import Derived.Below
namespace Go.Proofs.Ytdhipkfiigiicaa.senderOrder
open Go.ChangeShapes Go.WideShapes Go.ChangeAt Go.RowKit
open Go.ChangeMaps (open_string shut_string)
set_option linter.unusedVariables false

theorem own : ownKnob Try.prog.godebug = none := by kernel_rfl
theorem laidOut : laidOutB Try.prog = true := by kernel_rfl

/-- What a step of the sender's in G answers, and what holds then. -/
def OrdOut (w2 : World) (bl : Bks) (T W G M c : Nat) (f : Nat → Nat) (s : Sd) (ov : Value) (w' : World) : Prop :=
  ∃ A L cc r, ov = .slice A L cc ∧ r.1.length = L ∧ L ≤ cc ∧ cc ≤ 9223372036854775807 ∧ Bys w' w'.heap.size A L r.1 ∧ SndH w' M G bl T W true r.2 ∧ Stp bl T s r ∧ (r.2.ph = 2 → bl.length ≤ r.2.k) ∧ CountM w' M c f ∧ Below w2.heap.size w2 w'
theorem OrdOut.of {w2 w w' : World} {bl : Bks} {T W G M c : Nat} {f : Nat → Nat} {s : Sd} {r : List UInt8 × Sd} {e : Ending} (h : OutPostH M G bl T W true r w e w') (h1 : Stp bl T s r) (h2 : r.2.ph = 2 → bl.length ≤ r.2.k) (hM : CountM w M c f) (hne : M ≠ G) (hg : w2.heap.size ≤ G)
    (hb : Below w2.heap.size w2 w) : ∃ ov, e = .returned ov ∧ OrdOut w2 bl T W G M c f s ov w' := by
  obtain ⟨A4, c4, rfl, ho4, h41, h42, ht4, hs4⟩ := h
  exact ⟨_, rfl, A4, _, c4, r, rfl, rfl, h41, h42, ho4.bys (Nat.le_trans h41 h42), hs4, h1, h2, hM.keep (ht4.block M hM.lt hne), hb.trans (ht4.below (fun i hi => by rw [hi]; exact hg) hb.size)⟩
theorem long_no (b : List UInt8) (m j : Nat) (p : UInt8 × List UInt8) (h : (blk10 b false m)[j]? = some p) : p.2.length = 128 := by
  rw [(blk10_at h).2]
  simp [rowB_len, longN]
set_option maxRecDepth 100000 in
set_option maxHeartbeats 4000000 in
theorem walk (y0 z0 : Int) (a1 : Option Addr) (n1 c1 : Nat) (b1 : List UInt8) (x2 : Int) (a3 : Option Addr) (n3 c3 : Nat) (b3 : List UInt8) (w : World) (h0 : -9223372036854775808 ≤ y0 ∧ y0 ≤ 9223372036854775807) (g0 : -9223372036854775808 ≤ z0 ∧ z0 ≤ 9223372036854775807) (h1 : Bys w w.heap.size a1 n1 b1) (l1 : n1 ≤ c1) (s1 : c1 ≤ 140737488351232) (h2 : 0 ≤ x2 ∧ x2 ≤ 255) (h3 : Bys w w.heap.size a3 n3 b3) (l3 : n3 ≤ c3) (s3 : c3 ≤ 140737488351232) :
    Calls Try.prog 5 #[.agg #[.int .i64 y0, .int .i64 z0], .slice a1 n1 c1, .int .u8 x2, .slice a3 n3 c3] w fun e w' => e = .returned (.bool true) ∧ Below w.heap.size w w' := by
  obtain ⟨m, hm⟩ : ∃ m : Nat, x2 % 5 = (m : Int) := ⟨(x2 % 5).toNat, by omega⟩
  have hm4 : m ≤ 4 := by omega
  obtain ⟨T, hT⟩ : ∃ T, capZ y0 9 = T := ⟨_, rfl⟩
  obtain ⟨W, hW⟩ : ∃ W, capZ z0 99 = W := ⟨_, rfl⟩
  obtain ⟨hT0, hT1, hT9⟩ := capZ_is y0 9 (by omega)
  have HA := keepHid h3
  have HY := keepHid h1
  have HBL : Hid (∀ w', Below w.heap.size w w' → Calls Try.prog 8 #[.slice a1 n1 c1, .int .u8 x2, .bool false] w' (Blocks10 w' m (blk10 b1 false m))) := keepHid (fun w' hb => blocks10_any a1 n1 c1 b1 x2 m false h2 hm w' ((HY.out.below hb).more hb.size))
  have HLG := keepHid (long_no b1 m)
  obtain ⟨bl, hbl⟩ : ∃ bl, blk10 b1 false m = bl := ⟨_, rfl⟩
  have hsz : ∀ p ∈ bl, p.2.length ≤ 140737488355328 := fun p hp => by
    have := blk10_sized p (by rw [hbl]; exact hp)
    omega
  have hok : ∀ (j : Nat) (p : UInt8 × List UInt8), bl[j]? = some p → encOk p.2 = true := fun j p hp => blk10_ok (b := b1) (long := false) (m := m) (j := j) (by rw [hbl]; exact hp)
  have hlen : bl.length = m := by rw [← hbl]; exact blk10_len _ _ _
  rw [hbl] at HBL HLG
  have HSZ := keepHid hsz
  have HOK := keepHid hok
  have HLEN := keepHid hlen
  have HOF : Hid (∀ g w', BlkS w' (some ⟨g, 0, none⟩) m bl → Calls Try.prog 9 #[.agg #[.int .i64 y0, .int .i64 z0], .slice (some ⟨g, 0, none⟩) m m, .bool true, .bool true] w' (OfHPost w' bl T W true true)) := keepHid (fun g w' hb => by
    have := of_sndH y0 z0 (some ⟨g, 0, none⟩) m m bl true true w' hb (by omega) HSZ.out
    rwa [hT, hW] at this)
  rw [hT] at hT0 hT1 hT9
  obtain ⟨m1, hm1⟩ : ∃ m1, min y0 9 = m1 := ⟨_, rfl⟩
  have q1 := fun ts t W => min_z ts t y0 9 m1 hm1 W
  have q3 := fun ts t W => max_z ts t 1 m1 (T : Int) (by omega) W
  obtain ⟨wc, hwc⟩ : ∃ wc, w.alloc (.cells #[.int .i64 y0, .int .i64 z0] 23) = wc := ⟨_, rfl⟩
  have hbc : Below w.heap.size w wc := by rw [← hwc]; exact (Below.refl _ _).alloc (Nat.le_refl _) _
  have hkc : Blk wc w.heap.size 23 #[.int .i64 y0, .int .i64 z0] := by rw [← hwc]; exact Blk.new w _ _
  have HAW : Hid (Calls Try.prog 7 #[] wc fun e w' => e = .returned (.bool true) ∧ Below wc.heap.size wc w') := keepHid (awake10_any wc)
  have HBC := keepHid hbc
  have HKC := keepHid hkc
  clear h1 h2 h3 hbl hsz hok hlen l1 s1 hm hT hW hm1 hT0 hbc hkc h0 g0
  have hmm := @run_makeMap Try.prog
  go_enter Try.func5, Try.ntmps5
  go_wp2_with fail
  with_reducible refine HAW.out.mono ?_
  rintro e w1 ⟨rfl, hb1⟩
  have hk1 := HKC.out.below hb1 HKC.out.lt
  have HK1 := keepHid hk1
  have HB1 := keepHid (HBC.out.trans (hb1.mono HBC.out.size))
  clear hk1 hb1 hwc
  go_wp2_with fail
  with_reducible refine (HBL.out _ HB1.out).mono ?_
  rintro e w2 ⟨g, rfl, hbs2, hb2⟩
  have hk2 := HK1.out.below hb2 HK1.out.lt
  have d0 : w2.cell? ⟨w.heap.size, 0, none⟩ = some (.int .i64 y0) := hk2.cell 0
  have d1 : w2.cell? ⟨w.heap.size, 1, none⟩ = some (.int .i64 z0) := hk2.cell 1
  have HK2 := keepHid hk2
  have HBS2 := keepHid hbs2
  have HB2 := keepHid (HB1.out.trans (hb2.mono HB1.out.size))
  have HOF2 := keepHid (HOF.out g w2 hbs2)
  clear hk2 hbs2 hb2
  go_wp2_with fail
  with_reducible refine HOF2.out.mono ?_
  rintro e w3 ⟨G, rfl, hg3, hs3, hb3⟩
  have hk3 := HK2.out.below hb3 HK2.out.lt
  have e0 : w3.cell? ⟨w.heap.size, 0, none⟩ = some (.int .i64 y0) := hk3.cell 0
  have hst : SndH (w3.alloc (.map #[] 0)) w3.heap.size G bl T W true (newS W true) ∧ CountM (w3.alloc (.map #[] 0)) w3.heap.size 0 (fun _ => 0) ∧ Below w2.heap.size w2 (w3.alloc (.map #[] 0)) ∧ w3.heap.size ≠ G ∧ w2.heap.size ≤ G ∧ w2.heap.size ≤ w3.heap.size :=
    ⟨hs3.below ((Below.refl _ _).alloc (Nat.le_refl _) _), CountM.made w3 _ rfl, hb3.alloc hb3.size _, by have := hs3.lt; omega, hg3, hb3.size⟩
  have HST := keepHid hst
  clear hst hk3 hs3 hb3 hg3 d0 d1
  go_wp2_with fail
  clear e0 q1 q3
  clear hmm
  obtain ⟨wM, hwM⟩ : ∃ wM, w3.alloc (.map #[] 0) = wM := ⟨_, rfl⟩
  obtain ⟨hs0, hc0, hb0, hne, hgG, hgM⟩ := HST.out
  rw [hwM] at hs0 hc0 hb0
  rw [hwM]
  have HS0 := keepHid hs0
  have HC0 := keepHid hc0
  have HB0 := keepHid hb0
  have HNE := keepHid hne
  clear HST hwM hs0 hc0 hb0 hne HOF2 HOF HBL HAW
  generalize w3.heap.size = M at *
  go_loopw [35] (fun iv wr => ∃ (k : Nat) (s : Sd) (f : Nat → Nat) (c : Nat), k ≤ n3 ∧ iv = .int .i64 k ∧ c ≤ k ∧ SndH wr M G bl T W true s ∧ (s.ph = 2 → bl.length ≤ s.k) ∧ Cnt s f ∧ CountM wr M c f ∧ Below w2.heap.size w2 wr) (fun iv _ => n3 - (intOf iv).toNat)
  case atStart => exact ⟨0, newS W true, fun _ => 0, 0, Nat.zero_le _, rfl, Nat.le_refl _, HS0.out, fun h => absurd h (by simp [newS]), ⟨fun _ _ => rfl, fun h => absurd h (by simp [newS]), fun h => absurd h (by simp [newS])⟩, HC0.out, HB0.out⟩
  case round =>
    obtain ⟨k, s, f, c, hk, rfl, hck, hs, hend, hcnt, hcm, hb⟩ := hrel
    have HS := keepHid hs
    have HE := keepHid hend
    have HCN := keepHid hcnt
    have HCM := keepHid hcm
    have HB := keepHid hb
    clear hs hend hcnt hcm hb HS0 HC0 HB0
    rcases Nat.lt_or_ge k n3 with hlt | hge
    · have hya := HA.out.below (HB2.out.trans (HB.out.mono HB2.out.size))
      obtain ⟨ad, x, rfl, hadl, hx, hcx⟩ := hya.at_ hlt
      have hi : (k : Int) < (n3 : Int) := by omega
      have HSN : Hid (Calls Try.prog 17 #[.pointer (some ⟨G, 0, none⟩)] wr fun e w' => e = .returned (.int .i64 (s.k : Int)) ∧ wr = w') := keepHid (sent_sndH HS.out)
      have hlast : ∀ (r : List UInt8 × Sd) (hS : Stp bl T s r), True := fun _ _ => trivial
      have HTK : Hid (Calls Try.prog 12 #[.pointer (some ⟨G, 0, none⟩)] wr fun e w' => ∃ ov, e = .returned ov ∧ OrdOut w2 bl T W G M c f s ov w') := keepHid ((tick_sndH HS.out).mono fun e w' h => OrdOut.of h (stp_tick HOK.out HS.out.ok) (end_tick HE.out) HCM.out HNE.out hgG HB.out)
      have HAN : Hid (Calls Try.prog 15 #[.int .u8 (x.toNat : Int)] wr fun e w4 => ∃ y : Int, e = .returned (.int .u8 y) ∧ Calls Try.prog 14 #[.pointer (some ⟨G, 0, none⟩), .int .u8 y] w4 fun e w' => ∃ ov, e = .returned ov ∧ OrdOut w2 bl T W G M c f s ov w') := keepHid (by
        refine (answer_any x wr).mono ?_
        rintro e w4 ⟨rfl, hb4⟩
        exact ⟨_, rfl, (put_sndH (HS.out.below hb4) (ansB x)).mono fun e w' h => OrdOut.of h (stp_put HOK.out HS.out.ok HE.out _) (end_put HE.out _) (HCM.out.keep (hb4.block M HCM.out.lt)) HNE.out hgG (HB.out.trans (hb4.mono HB.out.size))⟩)
      obtain ⟨r4, hr4⟩ : ∃ r, x.toNat % 4 = r := ⟨_, rfl⟩
      have hx8 := u8lt x
      have ht4 : (x.toNat : Int).tmod 4 = (r4 : Int) := by rw [Int.tmod_eq_emod_of_nonneg (by omega)]; omega
      clear hya hlast hx hr4
      generalize x.toNat = xn at *
      go_wp2_with fail
      with_reducible refine HSN.out.mono ?_
      rintro e w4 ⟨rfl, rfl⟩
      go_upto_if 43 with fail
      go_cut [16] (fun ov wx => OrdOut w2 bl T W G M c f s ov wx)
      case first =>
        by_cases h3 : r4 = 3
        · subst h3
          go_wp2_with fail
          with_reducible refine HTK.out.mono ?_
          rintro e w5 ⟨ov, rfl, ho⟩
          have HO := keepHid ho
          clear ho
          go_wp2_with fail
          go_meet
          case rel => exact HO.out
        · have hq : ((r4 : Int) == 3) = false := by simp; omega
          go_wp2_with fail
          with_reducible refine HAN.out.mono ?_
          rintro e w5 ⟨y, rfl, hp⟩
          have HP := keepHid hp
          clear hp
          go_wp2_with fail
          with_reducible refine HP.out.mono ?_
          rintro e w6 ⟨ov, rfl, ho⟩
          have HO := keepHid ho
          clear ho
          go_wp2_with fail
          go_meet
          case rel => exact HO.out
      case rest =>
        clear HTK HAN HSN hcx ht4
        obtain ⟨A, L, cc, r, rfl, hL, hLc, hcm, hy, hs5, hstp, he5, hm5, hb5⟩ := hcut
        have HS5 := keepHid hs5
        have HE5 := keepHid he5
        have HM5 := keepHid hm5
        have HB5 := keepHid hb5
        have HY5 := keepHid hy
        rcases hstp with ⟨hf, h1, h0⟩ | ⟨num, d, hkd, hr1, hr2, hch⟩
        · have hL3 : (L : Int) < 3 := by omega
          have HCF := keepHid (cnt_few HCN.out h1 h0)
          clear h1 h0 hf hs5 he5 hm5 hb5 hy hL
          go_wp2_with fail
          go_roundw
          case rel => exact ⟨k + 1, r.2, f, c, by omega, by go_num, by omega, HS5.out, HE5.out, HCF.out, HM5.out, HB5.out⟩
          case measure => simp [intOf]; omega
        · obtain ⟨hcnt, hle, hat⟩ := cnt_more HCN.out hT1 hr2 hch
          have HCF := keepHid hcnt
          have hd := HLG.out _ _ hkd
          simp only at hd
          have hlen : (enc num d r.2.crc).length = 3 + 128 + szT r.2.crc := by rw [enc_len, hd]
          obtain ⟨crc, hcrc⟩ : ∃ crc, r.2.crc = crc := ⟨_, rfl⟩
          rw [hcrc] at hr1 hlen
          rw [hr1] at hy hL
          rw [hlen] at hL
          obtain ⟨k2, hk2⟩ : ∃ k2, r.2.k = k2 := ⟨_, rfl⟩
          rw [hk2] at hkd hle hat HCF
          have hkm : k2 < m := by
            rcases Nat.lt_or_ge k2 bl.length with hl | hl
            · have := HLEN.out; omega
            · rw [List.getElem?_eq_none hl] at hkd; cases hkd
          obtain ⟨ado, u0, rfl, _, hu0, hcell0⟩ := hy.at_ (k := 0) (by omega)
          rw [enc_at0, hd] at hu0
          obtain rfl := Option.some.inj hu0
          have ea0 : ado.add 0 = ado := rfl
          rw [ea0] at hcell0
          have hc00 : wc.cell? ado = some (.int .u8 1) := hcell0
          have hLq : ((L : Int) == 133) = crc := by
            rw [← hL]
            cases crc <;> rfl
          have hL3 : ¬ (L : Int) < 3 := by omega
          have hL0 : (0 : Int) < (L : Int) := by omega
          have hbs := HBS2.out.below hb5
          obtain ⟨ad0, Ak, ck, ea, hadg, hg0, hg1, hyk⟩ := hbs.2 k2 _ hkd
          obtain rfl := Option.some.inj ea
          have ea : ∀ i, (⟨g, 0, none⟩ : Addr).add i = ⟨g, i, none⟩ := fun i => by unfold Addr.add; split <;> simp_all
          rw [ea] at hg0 hg1
          simp only at hg0 hg1 hyk hadg
          rw [hd] at hg1 hyk
          have HSC : Hid (Calls Try.prog 18 #[.slice (some ado) L cc, .bool crc] wc fun e w6 => ∃ A6 c6, e = .returned (.tuple #[.agg #[.int .u8 (num.toNat : Int), .slice A6 128 c6], .int .i64 2]) ∧ ∀ w7, w6.alloc (.cells #[.int .u8 (num.toNat : Int), .slice A6 128 c6] 41) = w7 →
              Calls Try.prog 17 #[.pointer (some ⟨G, 0, none⟩)] w7 (fun e w' => e = .returned (.int .i64 (k2 : Int)) ∧ w7 = w') ∧
              w7.cell? ⟨w6.heap.size, 0, none⟩ = some (.int .u8 (num.toNat : Int)) ∧ w7.cell? ⟨w6.heap.size, 1, none⟩ = some (.slice A6 128 c6) ∧ w7.cell? ⟨g, k2 * 2, none⟩ = some (.int .u8 (num.toNat : Int)) ∧ w7.cell? ⟨g, k2 * 2 + 1, none⟩ = some (.slice Ak 128 ck) ∧
              (∀ q os, (convert 24 9 (.slice A6 128 c6)).run Try.prog (Sort.grow (redrawn w7 q) os) = .ok (.string (strB d)) (Sort.grow (redrawn w7 q) os)) ∧
              (∀ q os, (convert 24 9 (.slice Ak 128 ck)).run Try.prog (Sort.grow (redrawn w7 q) os) = .ok (.string (strB d)) (Sort.grow (redrawn w7 q) os)) ∧ Below wc.heap.size wc w7) := keepHid (by
            refine (scan_any (some ado) L cc wc.heap.size (enc num d crc) crc wc hy (Nat.le_refl _) hLc hcm).mono ?_
            intro e w6 hsp
            have hse := scan_enc num d crc (.inl hd) []
            rw [List.append_nil] at hse
            rw [hse] at hsp
            obtain ⟨A6, c6, rfl, ho6, h61, h62, hb6⟩ := hsp.is
            rw [hd] at ho6 h61 ⊢
            refine ⟨A6, c6, rfl, fun w7 hw7 => ?_⟩
            have b7 : Below wc.heap.size wc w7 := by rw [← hw7]; exact hb6.alloc hb6.size _
            have b67 : Below w6.heap.size w6 w7 := by rw [← hw7]; exact (Below.refl _ _).alloc (Nat.le_refl _) _
            have k7 : Blk w7 w6.heap.size 41 #[.int .u8 (num.toNat : Int), .slice A6 128 c6] := by rw [← hw7]; exact Blk.new w6 _ _
            have hsn := sent_sndH (hs5.below b7)
            rw [hk2] at hsn
            have y6 : Bys w7 w6.heap.size A6 128 d := (ho6.bys (by omega)).below b67
            have yk : Bys w7 wc.heap.size Ak 128 d := hyk.below b7
            exact ⟨hsn, k7.cell 0, k7.cell 1, (b7.cell (p := ⟨g, k2 * 2, none⟩) hadg).trans hg0, (b7.cell (p := ⟨g, k2 * 2 + 1, none⟩) hadg).trans hg1,
              fun q os => run_str _ 5 _ Try.underlying24 Try.underlying5 Try.underlying9 (y6.below ((below_regrown w7 q os).mono b67.size)),
              fun q os => run_str _ 5 _ Try.underlying24 Try.underlying5 Try.underlying9 (yk.below ((below_regrown w7 q os).mono b7.size)), b7⟩)
          clear hbs hg0 hg1 hyk hadg ea hcell0 hy hs5 he5 hm5 hb5 hcnt hlen hch hkd hd hL hr1 hcrc hk2 hLc hcm HY5
          have HB7' : Hid (∀ w7, Below wc.heap.size wc w7 → Below w2.heap.size w2 w7 ∧ CountM w7 M c f ∧ SndH w7 M G bl T W true r.2) := keepHid (fun w7 hb => ⟨HB5.out.trans (hb.mono HB5.out.size), HM5.out.keep (hb.block M HM5.out.lt), HS5.out.below hb⟩)
          have hnn : ((num.toNat : Int) != (num.toNat : Int)) = false := by simp
          have hsd : ((strB d).toList == (strB d).toList) = true := by simp
          have hkm1 : ¬ (m : Int) ≤ (k2 : Int) := by omega
          have hkm2 : (k2 : Int) < (m : Int) := by omega
          have hat1 : ¬ (k2 : Int) < (s.k : Int) := by omega
          have dk1 : decide ((m : Int) ≤ (k2 : Int)) = false := by simp; omega
          have dk2 : decide ((k2 : Int) < (s.k : Int)) = false := by simp; omega
          have dk3 : decide (m ≤ k2) = false := by simp; omega
          have dk4 : decide (k2 < s.k) = false := by simp; omega
          obtain ⟨fk, hfk⟩ : ∃ fk, f k2 = fk := ⟨_, rfl⟩
          have hfk9 : fk + 1 ≤ T := by rw [← hfk]; exact hle
          clear HB5 HM5 HS5 hu0 ea ea0
          cases crc
          all_goals
            go_wp2_with fail
            with_reducible refine HSC.out.mono ?_
            rintro e w6 ⟨A6, c6, rfl, hw⟩
            obtain ⟨w7, hw7⟩ : ∃ w7, w6.alloc (.cells #[.int .u8 (num.toNat : Int), .slice A6 128 c6] 41) = w7 := ⟨_, rfl⟩
            obtain ⟨hsn, x0, x1, g0, g1, cv1, cv2, b7⟩ := hw w7 hw7
            have HSN7 := keepHid hsn
            have HB7 := keepHid b7
            have y0 := fun d os => cell_regrown x0 d os
            have y1 := fun d os => cell_regrown x1 d os
            have y2 := fun d os => cell_regrown g0 d os
            have y3 := fun d os => cell_regrown g1 d os
            clear hw hsn b7 x0 x1 g0 g1 HSC
            generalize strB d = sd at *
            generalize num.toNat = nv at *
            go_wp2_with fail
            with_reducible refine HSN7.out.mono ?_
            rintro e w8 ⟨rfl, rfl⟩
            generalize w6.heap.size = g6 at *
            clear hw7 hc00 HSN7
            go_wp2_with fail
            refine wp_region_quiet_below (by kernel_rfl) (by kernel_rfl) ?_
            repeat (go_big_quiet_step (fail))
            refine wpQuiet_nil ?_
            intro _ hw'
            obtain ⟨⟨dq, osq⟩, hw''⟩ := hw'
            subst hw''
            obtain ⟨w8, hw8⟩ : ∃ w8, Sort.grow (redrawn w7 dq) osq = w8 := ⟨_, rfl⟩
            have b8 : Below wc.heap.size wc w8 := by rw [← hw8]; exact HB7.out.trans ((below_regrown w7 dq osq).mono HB7.out.size)
            obtain ⟨hb8, hc8, hs8⟩ := HB7'.out w8 b8
            rw [hw8]
            clear hw8 y0 y1 y2 y3 cv1 cv2 hsd hnn b8
            have lk8 := hc8.look k2 (by omega)
            rw [hfk] at lk8
            obtain ⟨w9, hrun, hc9, hgr⟩ := hc8.put k2 (fk + 1) (by omega) (by omega) (by omega)
            have efk : ((fk + 1 : Nat) : Int) = (fk : Int) + 1 := by omega
            rw [efk] at hrun
            have lk9 := hc9.look k2 (by omega)
            rw [if_pos rfl, efk] at lk9
            have tM : Turn (fun b => b = M) w8 w9 := ⟨hgr.os, hgr.tape, hgr.output, hgr.size, fun i hi hne => hgr.block i hi (fun e => hne (Option.some.inj e))⟩
            have efun : (fun j => if j = k2 then fk + 1 else f j) = upd f k2 := by unfold upd; rw [hfk]
            rw [efun] at hc9
            have HC9 := keepHid hc9
            have HS9 := keepHid (hs8.turns tM (fun i hi => by rw [hi]; exact Nat.le_refl _))
            have HB9 := keepHid (hb8.trans (tM.below (fun i hi => by rw [hi]; exact hgM) hb8.size))
            have iT : ¬ (T : Int) < (fk : Int) + 1 := by omega
            have ifk : (fk : Int) + 1 ≤ 9 := by omega
            clear hc8 hs8 hb8 hc9 hgr efk tM efun dk1 dk2 dk3 dk4 hkm1 hkm2 hat1 HB7
            go_wp2
            go_roundw
            case rel => exact ⟨k + 1, r.2, upd f k2, c + 1, by omega, by go_num, by omega, HS9.out, HE5.out, HCF.out, HC9.out, HB9.out⟩
            case measure => simp [intOf]; omega
    · obtain rfl : k = n3 := by omega
      go_wp2
      go_ret
      exact ⟨rfl, HB2.out.trans (HB.out.mono HB2.out.size)⟩

set_option maxRecDepth 100000 in
theorem lifted (os : Os) (started : os.Started) (H : Type) (enc : TypeId × Value → H) :
    ReturnsInHanded {} Try.checked os 5 .any (Rows.senderOrderSpec.pre6 enc Try.prog Try.f5 Rows.senderOrderRow.domain false) (Rows.senderOrderSpec.post enc Try.prog Try.f5 false true false false) := by
  refine returnsInHanded_of_change_sized (C := Try.checked) own started (by kernel_rfl) Try.func5
    (ChangeSpec.witness6 (enc := enc) (C := Try.checked) false ⟨#[], #[.agg #[.int .i64 0, .int .i64 0], .slice none 0 0, .int .u8 0, .slice none 0 0], []⟩ 8 (by kernel_rfl) (by kernel_rfl) (by kernel_rfl) (by kernel_rfl)) ?_
  intro W base args ds gs before hval0 hW hcnd hsz0 _
  have hsz : (DataW.weightsEach Try.prog (Try.f5.params.toList ++ Rows.senderOrderSpec.plain.varTypes Try.prog) (ds ++ gs)).all (· ≤ reachBytes) = true := hsz0
  clear hsz0
  have hval : ∀ (j : Nat) t v, Try.f5.params[j]? = some t → args[j]? = some v → Value.okWide Try.prog W .any base t v := hval0
  have hW' := hW
  obtain ⟨p, q, hA0, hV, rfl, hfz, hnd⟩ := hW
  have hA : DataW.TrodAll enc Try.prog W 0 (fun _ => true) true Try.f5.params.toList args.toList ds p := hA0
  rw [Try.params5] at hA hval hsz
  obtain ⟨v0, vs0, d0, ds0, p0, q0, hargs, rfl, rfl, h0, r0⟩ := trodAll_cons hA
  obtain ⟨v1, vs1, d1, ds1, p1, q1, rfl, rfl, rfl, h1, r1⟩ := trodAll_cons r0
  obtain ⟨v2, vs2, d2, ds2, p2, q2, rfl, rfl, rfl, h2, r2⟩ := trodAll_cons r1
  obtain ⟨v3, vs3, d3, ds3, p3, q3, rfl, rfl, rfl, h3, r3⟩ := trodAll_cons r2
  obtain ⟨rfl, rfl, rfl⟩ := trodAll_nil r3
  obtain rfl : args = #[v0, v1, v2, v3] := by cases args; simp_all
  obtain ⟨rfl, rfl⟩ := trodVars_none hV
  have k0 := h0
  have lt0 : ∀ x ∈ p0, x.block < W.heap.size := by obtain ⟨m, hm⟩ := k0; exact DataW.trod_lt m _ _ _ hm
  have k1 := h1
  have lt1 : ∀ x ∈ p1, x.block < W.heap.size := by obtain ⟨m, hm⟩ := k1; exact DataW.trod_lt m _ _ _ hm
  have k2 := h2
  have lt2 : ∀ x ∈ p2, x.block < W.heap.size := by obtain ⟨m, hm⟩ := k2; exact DataW.trod_lt m _ _ _ hm
  have k3 := h3
  have lt3 : ∀ x ∈ p3, x.block < W.heap.size := by obtain ⟨m, hm⟩ := k3; exact DataW.trod_lt m _ _ _ hm
  obtain ⟨y0, z0, rfl, w0, u0⟩ := open_two Try.underlying23 ⟨rfl, rfl⟩ ⟨rfl, rfl⟩ Try.underlying3 (by kernel_rfl) (by kernel_rfl) (hval 0 23 v0 rfl rfl) h0
  obtain ⟨a1, n1, c1, b1, rfl, w1, l1, s1⟩ := open_bys Try.underlying24 Try.underlying5 (by kernel_rfl) (by kernel_rfl) (hval 1 24 v1 rfl rfl) (fun _ => rfl) h1 (fun el sp hd => sized_slice hsz (j := 1) (t := 24) (e := 5) rfl (by rw [hd]; rfl) Try.underlying24)
  obtain ⟨x2, rfl, rfl, rfl, w2⟩ := open_int Try.underlying5 (hval 2 5 v2 rfl rfl) h2
  obtain ⟨a3, n3, c3, b3, rfl, w3, l3, s3⟩ := open_bys Try.underlying24 Try.underlying5 (by kernel_rfl) (by kernel_rfl) (hval 3 24 v3 rfl rfl) (fun _ => rfl) h3 (fun el sp hd => sized_slice hsz (j := 3) (t := 24) (e := 5) rfl (by rw [hd]; rfl) Try.underlying24)
  clear hA0 hval0
  refine (walk y0 z0 a1 n1 c1 b1 x2 a3 n3 c3 b3 W w0 u0 w1 l1 s1 (wf_u8 w2) w3 l3 s3).mono fun e W' ⟨he, bel⟩ => ?_
  subst he
  exact ⟨_, rfl, _, _, _, [], _, [], hW', trodAll_mk1 (shut_bool Try.underlying4 _), (trodAll_cons_mk (Below.trod laidOut (by kernel_rfl) (of_decide_eq_true (by kernel_rfl)) k0 bel lt0) (trodAll_cons_mk (Below.trod laidOut (by kernel_rfl) (of_decide_eq_true (by kernel_rfl)) k1 bel lt1) (trodAll_cons_mk (Below.trod laidOut (by kernel_rfl) (of_decide_eq_true (by kernel_rfl)) k2 bel lt2) (trodAll_cons_mk (Below.trod laidOut (by kernel_rfl) (of_decide_eq_true (by kernel_rfl)) k3 bel lt3) trodAll_mk0)))), rfl, bel.frame _, fun h => by cases h⟩

theorem over : Rows.senderOrderRow.holds Try.pinned (OpenSpec.ofChange Rows.senderOrderSpec) :=
  OpenClaim.holds_of_wide 5 Try.f5 rfl rfl rfl rfl rfl rfl rfl ⟨rfl, rfl, rfl, rfl, rfl⟩ rfl rfl rfl rfl rfl (by kernel_rfl) Try.func5 (by kernel_rfl)
    (of_decide_eq_true (by kernel_rfl)) (by unfold Func.isWrapper; first | (rw [if_pos (by decide +kernel)]; kernel_rfl) | (rw [if_neg (by decide +kernel)]; exact ⟨rfl, rfl⟩))
    (fun os started H enc _ => lifted os started H enc)

theorem proved : Rows.SenderOrderSaid := over
end Go.Proofs.Ytdhipkfiigiicaa.senderOrder
