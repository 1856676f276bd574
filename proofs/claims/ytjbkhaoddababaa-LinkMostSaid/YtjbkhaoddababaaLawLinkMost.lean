/-
  'lifelinelaw12.LinkMost' answers true for every input, and leaves its arguments as they were.
  Conditions: none but what the row itself says of its arguments (how much memory each may take).
-/
import Derived.Test.YtjbkhaoddababaaRows
import Derived.Test.YtjbkhaoddababaaRows
import Derived.Test.YtjbkhaoddababaaLinkAwake
import Derived.Test.YtjbkhaoddababaaLinkMore
import Derived.Test.YtjbkhaoddababaaFrameTwo
import Derived.Test.YtjbkhaoddababaaFrameNoise
import Derived.LoopTactic
import Derived.Deep.DeepCutAuto
import Derived.Deep.RegionWith
import Derived.Deep.RegionHeld3
import Derived.Deep.DrawnRows
import Derived.Lib.QuietBelow
import Derived.Test.YtjbkhaoddababaaFrame
import Derived.WalkKit
import Derived.ProofKit
import Derived.OpenShut
import Derived.ShutString
import Derived.ChangeOld
import Derived.Below
namespace Go.Proofs.Ytjbkhaoddababaa.linkMost
open Go.ChangeShapes Go.WideShapes Go.ChangeAt Go.RowKit
open Go.ChangeMaps (open_string shut_string)
set_option linter.unusedVariables false

theorem own : ownKnob Try.prog.godebug = none := by kernel_rfl
theorem laidOut : laidOutB Try.prog = true := by kernel_rfl

theorem head_any (A : Option Addr) (n c k : Nat) (hk : k ≤ c) (W : World) :
    (Instr.slice 24 (.slice A n c) none (some (.int .i64 (k : Int))) none).run Try.prog W = .ok (.slice A k c) W := by
  rw [run_slice_h W 24 A n c (by kernel_rfl) .i64 (k : Int) (by omega) (by omega)]
  have hs : ∀ W, (sizeOf (Try.prog.elem 24)).run Try.prog W = .ok 1 W := fun W => by kernel_rfl
  rw [hs]
  have ha : A.map (·.add (0 * 1)) = A := by
    cases A with
    | none => rfl
    | some ad =>
      have : ad.add 0 = ad := by unfold Addr.add; split <;> simp_all
      simp [this]
  show Result.ok (Value.slice (if c = 0 then A else A.map (·.add (0 * 1))) ((k : Int).toNat - 0) (c - 0)) W = _
  rw [ha]
  simp
theorem errV_nil {e : Nat} (h : errV e = .nilIface) : e = 0 := by
  unfold errV at h
  split at h
  · assumption
  · cases h
set_option maxRecDepth 100000 in
set_option maxHeartbeats 4000000 in
theorem walk (y0 z0 : Int) (a1 : Option Addr) (n1 c1 : Nat) (b1 : List UInt8) (x2 : Int) (a3 : Option Addr) (n3 c3 : Nat) (z3 : List Nz) (x4 : Int) (w : World) (h0 : -9223372036854775808 ≤ y0 ∧ y0 ≤ 9223372036854775807) (g0 : -9223372036854775808 ≤ z0 ∧ z0 ≤ 9223372036854775807) (h1 : Bys w w.heap.size a1 n1 b1) (l1 : n1 ≤ c1) (s1 : c1 ≤ 140737488351232) (h2 : 0 ≤ x2 ∧ x2 ≤ 255) (h3 : NzS w a3 n3 z3) (l3 : n3 ≤ c3) (s3 : c3 * 24 ≤ 140737488351232) (h4 : 0 ≤ x4 ∧ x4 ≤ 255) :
    Calls Try.prog 7 #[.agg #[.int .i64 y0, .int .i64 z0], .slice a1 n1 c1, .int .u8 x2, .slice a3 n3 c3, .int .u8 x4] w fun e w' => e = .returned (.bool true) ∧ Below w.heap.size w w' := by
  obtain ⟨m, hm⟩ : ∃ m : Nat, x2 % 5 = (m : Int) := ⟨(x2 % 5).toNat, by omega⟩
  have hm4 : m ≤ 4 := by omega
  obtain ⟨M, rfl⟩ : ∃ M : Nat, x4 = (M : Int) := ⟨x4.toNat, by omega⟩
  have hM : (M : Int) ≤ 255 := by omega
  obtain ⟨W, hW⟩ : ∃ W, capZ z0 99 = W := ⟨_, rfl⟩
  obtain ⟨T, hT⟩ : ∃ T, capZ y0 9 = T := ⟨_, rfl⟩
  obtain ⟨bl, hbl⟩ : ∃ bl, blk10 b1 false m = bl := ⟨_, rfl⟩
  obtain ⟨p, hp⟩ : ∃ p : LP, (⟨bl, T, W, true, W⟩ : LP) = p := ⟨_, rfl⟩
  have hsl : ∀ q ∈ bl, q.2.length ≤ 1024 := by rw [← hbl]; exact blk10_sized
  have hHY := keepHid h1
  have hHZ := keepHid h3
  obtain ⟨R1, hR1⟩ : ∃ R, runX p z3 M (startL p T) (false, 0, 0) = R := ⟨_, rfl⟩
  obtain ⟨R2, hR2⟩ : ∃ R, runX p z3 (M + 7) (startL p T) (false, 0, 0) = R := ⟨_, rfl⟩
  have hmore := run_more p z3 7 M (startL p T) (false, 0, 0) rfl
  rw [hR1, hR2] at hmore
  have HMR := keepHid hmore
  have HL1 : Hid (R1.2.1 ≤ M ∧ R2.2.1 ≤ M + 7) := keepHid ⟨by rw [← hR1]; exact runX_le _ _ _ _ _, by rw [← hR2]; exact runX_le _ _ _ _ _⟩
  have HSOF : Hid (∀ w' g, BlkS w' (some ⟨g, 0, none⟩) m bl → Calls Try.prog 11 #[.agg #[.int .i64 y0, .int .i64 z0], .slice (some ⟨g, 0, none⟩) m m, .bool true, .bool true] w' fun e w'' => ∃ G, e = .returned (.pointer (some ⟨G, 0, none⟩)) ∧ SndH w'' w''.heap.size G p.bl p.T p.W true (newS p.W p.crc) ∧ Made w' w'' G) := keepHid (fun w' g hb => by
    refine (sof_pair y0 z0 (some ⟨g, 0, none⟩) m m bl true w' hb (by omega) hsl).mono ?_
    rintro e w'' ⟨G, rfl, e3, e4⟩
    rw [hT, hW] at e3
    exact ⟨G, rfl, by rw [← hp]; exact e3, e4⟩)
  have HROF : Hid (∀ w3 w4 G1, SndH w4 w4.heap.size G1 p.bl p.T p.W true (newS p.W p.crc) → w3.heap.size ≤ G1 → Below w3.heap.size w3 w4 → ∀ w', Below w4.heap.size w4 w' → Calls Try.prog 12 #[.agg #[.int .i64 y0, .int .i64 z0], .int .u8 1, .bool true, .bool true, .int .i64 1] w' fun e w'' => ∃ G, e = .returned (.pointer (some ⟨G, 0, none⟩)) ∧ Pair p T w3 w4.heap.size G1 G w'' ∧ Made w' w'' G) := keepHid (fun w3 w4 G1 hs hg hbel w' hb => by
    have h := rof_pair p y0 z0 w3 w' (hs.below hb) hb.size hg (hbel.trans (hb.mono hbel.size)) (by rw [hW, ← hp])
    have hc : p.crc = true := by rw [← hp]
    rw [hT, hc] at h
    exact h)
  have HNR1 : Hid (∀ w3, NzS w3 a3 n3 z3 → (∀ ad, a3 = some ad → 0 < n3 → ad.block < w3.heap.size) → ∀ w5 Hb G1 G2, Pair p T w3 Hb G1 G2 w5 → ∀ w', Below w5.heap.size w5 w' → Calls Try.prog 10 #[.pointer (some ⟨G1, 0, none⟩), .pointer (some ⟨G2, 0, none⟩), .slice a3 n3 c3, .int .i64 (M : Int)] w' fun e w'' => ∃ A c, e = .returned (.agg #[.bool R1.2.2.1, errV R1.2.2.2.1, errV R1.2.2.2.2, .slice A R1.1.r.da.length c, .int .i64 (R1.2.1 : Int), .int .i64 (R1.1.sent : Int)]) ∧ Talked p w3 Hb G1 G2 R1 A c w' w'') := keepHid (fun w3 hz ha w5 Hb G1 G2 hpr w' hb => by
    have hb5 := hpr.hb
    have h := run_pair (hpr.below hb) a3 n3 c3 z3 ((hz.below hpr.bel).below hb) (fun hn ad e hh => by have := ha ad e hn; omega) M (by omega)
    rw [hR1] at h
    exact h)
  have HNR2 : Hid (∀ w3, NzS w3 a3 n3 z3 → (∀ ad, a3 = some ad → 0 < n3 → ad.block < w3.heap.size) → ∀ w5 Hb G1 G2, Pair p T w3 Hb G1 G2 w5 → ∀ w', Below w5.heap.size w5 w' → Calls Try.prog 10 #[.pointer (some ⟨G1, 0, none⟩), .pointer (some ⟨G2, 0, none⟩), .slice a3 n3 c3, .int .i64 ((M : Int) + 7)] w' fun e w'' => ∃ A c, e = .returned (.agg #[.bool R2.2.2.1, errV R2.2.2.2.1, errV R2.2.2.2.2, .slice A R2.1.r.da.length c, .int .i64 (R2.2.1 : Int), .int .i64 (R2.1.sent : Int)]) ∧ Talked p w3 Hb G1 G2 R2 A c w' w'') := keepHid (fun w3 hz ha w5 Hb G1 G2 hpr w' hb => by
    have hb5 := hpr.hb
    have h := run_pair (hpr.below hb) a3 n3 c3 z3 ((hz.below hpr.bel).below hb) (fun hn ad e hh => by have := ha ad e hn; omega) (M + 7) (by omega)
    rw [hR2] at h
    exact h)
  have HBK : Hid (∀ w', Below w.heap.size w w' → Calls Try.prog 9 #[.slice a1 n1 c1, .int .u8 x2, .bool false] w' (Blocks10 w' m bl)) := keepHid (fun w' hb => by
    rw [← hbl]; exact blocks10_any a1 n1 c1 b1 x2 m false h2 hm w' ((hHY.out.below hb).more hb.size))
  have HA3 : Hid (∀ w', Below w.heap.size w w' → ∀ ad, a3 = some ad → 0 < n3 → ad.block < w'.heap.size) := keepHid (fun w' hb ad e hn => by
    obtain ⟨z, hz⟩ : ∃ z, z3[0]? = some z := ⟨_, List.getElem?_eq_getElem (by rw [hHZ.out.len]; exact hn)⟩
    obtain ⟨ad', e', h1, _⟩ := hHZ.out.at_ 0 z hz
    rw [e] at e'
    obtain rfl := Option.some.inj e'
    exact Nat.lt_of_lt_of_le h1 hb.size)
  obtain ⟨wa, hwa⟩ : ∃ wa, w.alloc (.cells #[.int .i64 y0, .int .i64 z0] 23) = wa := ⟨_, rfl⟩
  have hba : Below w.heap.size w wa := by rw [← hwa]; exact (Below.refl _ _).alloc (Nat.le_refl _) _
  have hka : Blk wa w.heap.size 23 #[.int .i64 y0, .int .i64 z0] := by rw [← hwa]; exact Blk.new w _ _
  have hga : w.heap.size < wa.heap.size := hka.lt
  have HBA := keepHid hba
  have HKA := keepHid hka
  have HAW := keepHid (awake12_any wa)
  have HGA := keepHid hga
  have hl3 := l3
  have hn3 : n3 ≤ 9223372036854775807 := h3.max
  clear h1 h2 h3 l1 s1 l3 s3 h4 hm hbl hp hsl hHY hW hT hba hka hga hR1 hR2 hmore
  go_enter Try.func7, Try.ntmps7
  go_wp2_with fail
  with_reducible refine HAW.out.mono ?_
  rintro e w1 ⟨rfl, hb1⟩
  have hk1 := HKA.out.below hb1 HGA.out
  have HB1 := keepHid (HBA.out.trans (hb1.mono HBA.out.size))
  have HK1 := keepHid hk1
  have HBK2 := keepHid (HBK.out w1 HB1.out)
  clear hb1 hk1 hwa
  go_wp2_with fail
  with_reducible refine HBK2.out.mono ?_
  rintro e w3 ⟨g, rfl, hbs, hb3⟩
  have HBS := keepHid hbs
  have HB3 := keepHid (HB1.out.trans (hb3.mono HB1.out.size))
  have HK3 := keepHid (HK1.out.below hb3 HK1.out.lt)
  have HBB1 : Hid (Below w3.heap.size w3 w3) := keepHid (Below.refl _ _)
  have hwM : IntKind.i64.wrap (M : Int) = (M : Int) := by rw [IntKind.wrap_i64]; omega
  have hwM7 : IntKind.i64.wrap ((M : Int) + 7) = (M : Int) + 7 := by rw [IntKind.wrap_i64]; omega
  clear hbs hb3
  have hkr1 := HK3.out.below HBB1.out HK3.out.lt
  have HCF : Hid (∀ w', Below w3.heap.size w3 w' → w'.cell? ⟨w.heap.size, 0, none⟩ = some (.int .i64 y0) ∧ w'.cell? ⟨w.heap.size, 1, none⟩ = some (.int .i64 z0) ∧ w.heap.size < w'.heap.size) := keepHid (fun w' hb => by
    have := hkr1.below hb hkr1.lt
    exact ⟨this.cell 0, this.cell 1, this.lt⟩)
  have d0 : w3.cell? ⟨w.heap.size, 0, none⟩ = some (.int .i64 y0) := hkr1.cell 0
  have d1 : w3.cell? ⟨w.heap.size, 1, none⟩ = some (.int .i64 z0) := hkr1.cell 1
  have hlt3 : w.heap.size < w3.heap.size := hkr1.lt
  have HCS : Hid (∀ w', Below w3.heap.size w3 w' → w'.cell? ⟨w.heap.size, 0, none⟩ = some (.int .i64 y0) ∧ w'.cell? ⟨w.heap.size, 1, none⟩ = some (.int .i64 z0) ∧ Below w3.heap.size w3 w') := keepHid (fun w' hb => ⟨(HCF.out w' hb).1, (HCF.out w' hb).2.1, hb⟩)
  have HS : Hid (∀ w', Below w3.heap.size w3 w' → Calls Try.prog 11 #[.agg #[.int .i64 y0, .int .i64 z0], .slice (some ⟨g, 0, none⟩) m m, .bool true, .bool true] w' fun e w'' => ∃ G, e = .returned (.pointer (some ⟨G, 0, none⟩)) ∧ SndH w'' w''.heap.size G p.bl p.T p.W true (newS p.W p.crc) ∧ Made w' w'' G) := keepHid (fun w' hb => HSOF.out w' g ((HBS.out.below HBB1.out).below hb))
  have HR := keepHid (HROF.out w3)
  clear hkr1
  have HN1 := keepHid (HNR1.out w3 (hHZ.out.below HB3.out) (HA3.out w3 HB3.out))
  go_upto_region 4 with fail
  go_cut [12] (fun s wx => ∃ GB A6 c6 Hb G1, s = .pointer (some ⟨GB, 0, none⟩) ∧ ResAt w3 p Hb G1 R1 GB A6 c6 (errV R1.2.2.2.1) (errV R1.2.2.2.2) wx)
  case first =>
    rcases errV_or R1.2.2.2.1 with e1 | ⟨y1, x1, e1⟩ <;> rcases errV_or R1.2.2.2.2 with e2 | ⟨y2, x4', e2⟩
    all_goals
      have HN := HN1
      rw [e1, e2] at HN
      have HE := keepHid e1
      have HE' := keepHid e2
      clear e1 e2 HN1
      go_region_held3 (fun w' => w'.cell? ⟨w.heap.size, 0, none⟩ = some (.int .i64 y0) ∧ w'.cell? ⟨w.heap.size, 1, none⟩ = some (.int .i64 z0) ∧ Below w3.heap.size w3 w') (exact HCS.out _ (by (repeat (first | (with_reducible exact Below.refl _ _) | (with_reducible exact HB4.out) | (with_reducible exact HB5.out) | (with_reducible exact HB6.out) | (with_reducible refine Below.drew ?_) | (with_reducible refine bel_alloc ?_ _) | (with_reducible refine bel_set ?_ (by first | exact Nat.le_refl _ | exact HLE4.out | exact HLE5.out) _))))) (first | (go_at_call 11; (with_reducible refine (HS.out _ (by (first | exact Below.refl _ _ | exact Below.drew (Below.refl _ _) | exact (Below.refl _ _).alloc (Nat.le_refl _) _ | exact Below.drew ((Below.refl _ _).alloc (Nat.le_refl _) _) | exact (Below.drew (Below.refl _ _)).alloc (Nat.le_refl _) _))).mono ?_); rintro e w4 ⟨G1, rfl, hs4, hm4⟩; obtain ⟨hb4, hg4⟩ := Made.since (w3 := w3) (by (first | exact Below.refl _ _ | exact Below.drew (Below.refl _ _) | exact (Below.refl _ _).alloc (Nat.le_refl _) _ | exact Below.drew ((Below.refl _ _).alloc (Nat.le_refl _) _) | exact (Below.drew (Below.refl _ _)).alloc (Nat.le_refl _) _)) hm4; obtain ⟨d0', d1', hlt4⟩ := HCF.out w4 hb4; (try (have hz := ZeroB.made (by first | exact ZeroB.new w3 | exact (ZeroB.new w3).drew | exact ZeroB.new w3.drew) hm4; obtain ⟨zz0, zz1, zz2, zz3, zz4, zz5, zzf⟩ := hz.1.cells; have HZ4 := keepHid hz; clear hz)); have HB4 := keepHid hb4; have HLE4 := keepHid hb4.size; have HR4 := keepHid (HR.out w4 G1 hs4 hg4 hb4); have HM4 := keepHid hm4.lt; clear hs4 hm4 hb4 hg4) | (go_at_call 12; (with_reducible refine (HR4.out _ (by (first | exact Below.refl _ _ | exact Below.drew (Below.refl _ _) | exact (Below.refl _ _).alloc (Nat.le_refl _) _ | exact Below.drew ((Below.refl _ _).alloc (Nat.le_refl _) _) | exact (Below.drew (Below.refl _ _)).alloc (Nat.le_refl _) _))).mono ?_); rintro e w5 ⟨G2, rfl, hpr, hm5⟩; (first | (have hz := ZeroB.made (by first | exact HZ4.out.1 | exact ZeroB.drew HZ4.out.1) hm5; obtain ⟨zz0, zz1, zz2, zz3, zz4, zz5, zzf⟩ := hz.1.cells; have HZ5 := keepHid (And.intro hz.1 (And.intro HZ4.out.2 hz.2)); clear hz) | (have hz := ZeroB.made (by first | exact ZeroB.new w4 | exact (ZeroB.new w4).drew | exact ZeroB.new w4.drew) hm5; obtain ⟨zz0, zz1, zz2, zz3, zz4, zz5, zzf⟩ := hz.1.cells; have HZ5 := keepHid (And.intro hz.1 (And.intro (Nat.ne_of_gt HM4.out) hz.2)); clear hz) | skip); have HB5 := keepHid hpr.bel; have HLE5 := keepHid hpr.bel.size; have HN5 := keepHid (HN.out w5 _ G1 G2 hpr); have HM5 := keepHid (And.intro hpr.hb hm5.lt); clear hpr hm5) | (go_at_call 10; (with_reducible refine (HN5.out _ (by (first | exact Below.refl _ _ | exact Below.drew (Below.refl _ _) | exact (Below.refl _ _).alloc (Nat.le_refl _) _ | exact Below.drew ((Below.refl _ _).alloc (Nat.le_refl _) _) | exact (Below.drew (Below.refl _ _)).alloc (Nat.le_refl _) _))).mono ?_); rintro e w6 ⟨A6, c6, rfl, ht6⟩; (first | (have hz := ZeroB.talked (by first | exact HZ5.out.1 | exact ZeroB.drew HZ5.out.1) HZ5.out.2.1 HZ5.out.2.2 ht6; obtain ⟨zz0, zz1, zz2, zz3, zz4, zz5, zzf⟩ := hz.1.cells; have HZ6 := keepHid hz; clear hz) | (have hz := ZeroB.talked (by first | exact ZeroB.new w5 | exact (ZeroB.new w5).drew | exact ZeroB.new w5.drew) (by have := HM5.out; omega) (by have := HM5.out; omega) ht6; obtain ⟨zz0, zz1, zz2, zz3, zz4, zz5, zzf⟩ := hz.1.cells; have HZ6 := keepHid hz; clear hz) | skip); have HB6 := keepHid ht6.bel; have HT6 := keepHid ht6; clear ht6))
      all_goals
        go_wp2_with fail
        go_meet
        case rel =>
          refine ⟨_, A6, c6, w4.heap.size, G1, rfl, ?_⟩
          rw [HE.out, HE'.out]
          first
            | with_reducible exact ResAt.of_new HT6.out _ _ _ rfl
            | with_reducible exact ResAt.of_old HT6.out HZ6.out.1 HZ6.out.2 (Nat.le_refl _) _ _
            | with_reducible exact ResAt.of_old HT6.out HZ6.out.1 HZ6.out.2 HLE4.out _ _
            | with_reducible exact ResAt.of_old HT6.out HZ6.out.1 HZ6.out.2 HLE5.out _ _
  case rest =>
    clear HN1 HS HR HCS HCF d0 d1 hlt3 HNR1
    obtain ⟨GB1, A7, c7, Hb1, G7, rfl, hres1⟩ := hcut
    generalize wc = wd at *
    have HBB2 := keepHid hres1.bel
    have HRES1 := keepHid hres1
    clear hres1
    have hkr2 := HK3.out.below HBB2.out HK3.out.lt
    have HCF : Hid (∀ w', Below wd.heap.size wd w' → w'.cell? ⟨w.heap.size, 0, none⟩ = some (.int .i64 y0) ∧ w'.cell? ⟨w.heap.size, 1, none⟩ = some (.int .i64 z0) ∧ w.heap.size < w'.heap.size) := keepHid (fun w' hb => by
      have := hkr2.below hb hkr2.lt
      exact ⟨this.cell 0, this.cell 1, this.lt⟩)
    have d0 : wd.cell? ⟨w.heap.size, 0, none⟩ = some (.int .i64 y0) := hkr2.cell 0
    have d1 : wd.cell? ⟨w.heap.size, 1, none⟩ = some (.int .i64 z0) := hkr2.cell 1
    have hlt3 : w.heap.size < wd.heap.size := hkr2.lt
    have HCS : Hid (∀ w', Below wd.heap.size wd w' → w'.cell? ⟨w.heap.size, 0, none⟩ = some (.int .i64 y0) ∧ w'.cell? ⟨w.heap.size, 1, none⟩ = some (.int .i64 z0) ∧ Below wd.heap.size wd w') := keepHid (fun w' hb => ⟨(HCF.out w' hb).1, (HCF.out w' hb).2.1, hb⟩)
    have HS : Hid (∀ w', Below wd.heap.size wd w' → Calls Try.prog 11 #[.agg #[.int .i64 y0, .int .i64 z0], .slice (some ⟨g, 0, none⟩) m m, .bool true, .bool true] w' fun e w'' => ∃ G, e = .returned (.pointer (some ⟨G, 0, none⟩)) ∧ SndH w'' w''.heap.size G p.bl p.T p.W true (newS p.W p.crc) ∧ Made w' w'' G) := keepHid (fun w' hb => HSOF.out w' g ((HBS.out.below HBB2.out).below hb))
    have HR := keepHid (HROF.out wd)
    clear hkr2
    have HN2 := keepHid (HNR2.out wd (hHZ.out.below (HB3.out.trans (HBB2.out.mono HB3.out.size))) (HA3.out wd (HB3.out.trans (HBB2.out.mono HB3.out.size))))
    go_upto_region 5 with fail
    go_cut [13] (fun s wx => ∃ GB A6 c6 Hb G1, s = .pointer (some ⟨GB, 0, none⟩) ∧ ResAt wd p Hb G1 R2 GB A6 c6 (errV R2.2.2.2.1) (errV R2.2.2.2.2) wx)
    case first =>
      rcases errV_or R2.2.2.2.1 with e1 | ⟨y1, x1, e1⟩ <;> rcases errV_or R2.2.2.2.2 with e2 | ⟨y2, x4', e2⟩
      all_goals
        have HN := HN2
        rw [e1, e2] at HN
        have HE := keepHid e1
        have HE' := keepHid e2
        clear e1 e2 HN2
        go_region_held3 (fun w' => w'.cell? ⟨w.heap.size, 0, none⟩ = some (.int .i64 y0) ∧ w'.cell? ⟨w.heap.size, 1, none⟩ = some (.int .i64 z0) ∧ Below wd.heap.size wd w') (exact HCS.out _ (by (repeat (first | (with_reducible exact Below.refl _ _) | (with_reducible exact HB4.out) | (with_reducible exact HB5.out) | (with_reducible exact HB6.out) | (with_reducible refine Below.drew ?_) | (with_reducible refine bel_alloc ?_ _) | (with_reducible refine bel_set ?_ (by first | exact Nat.le_refl _ | exact HLE4.out | exact HLE5.out) _))))) (first | (go_at_call 11; (with_reducible refine (HS.out _ (by (first | exact Below.refl _ _ | exact Below.drew (Below.refl _ _) | exact (Below.refl _ _).alloc (Nat.le_refl _) _ | exact Below.drew ((Below.refl _ _).alloc (Nat.le_refl _) _) | exact (Below.drew (Below.refl _ _)).alloc (Nat.le_refl _) _))).mono ?_); rintro e w4 ⟨G1, rfl, hs4, hm4⟩; obtain ⟨hb4, hg4⟩ := Made.since (w3 := wd) (by (first | exact Below.refl _ _ | exact Below.drew (Below.refl _ _) | exact (Below.refl _ _).alloc (Nat.le_refl _) _ | exact Below.drew ((Below.refl _ _).alloc (Nat.le_refl _) _) | exact (Below.drew (Below.refl _ _)).alloc (Nat.le_refl _) _)) hm4; obtain ⟨d0', d1', hlt4⟩ := HCF.out w4 hb4; (try (have hz := ZeroB.made (by first | exact ZeroB.new wd | exact (ZeroB.new wd).drew | exact ZeroB.new wd.drew) hm4; obtain ⟨zz0, zz1, zz2, zz3, zz4, zz5, zzf⟩ := hz.1.cells; have HZ4 := keepHid hz; clear hz)); have HB4 := keepHid hb4; have HLE4 := keepHid hb4.size; have HR4 := keepHid (HR.out w4 G1 hs4 hg4 hb4); have HM4 := keepHid hm4.lt; clear hs4 hm4 hb4 hg4) | (go_at_call 12; (with_reducible refine (HR4.out _ (by (first | exact Below.refl _ _ | exact Below.drew (Below.refl _ _) | exact (Below.refl _ _).alloc (Nat.le_refl _) _ | exact Below.drew ((Below.refl _ _).alloc (Nat.le_refl _) _) | exact (Below.drew (Below.refl _ _)).alloc (Nat.le_refl _) _))).mono ?_); rintro e w5 ⟨G2, rfl, hpr, hm5⟩; (first | (have hz := ZeroB.made (by first | exact HZ4.out.1 | exact ZeroB.drew HZ4.out.1) hm5; obtain ⟨zz0, zz1, zz2, zz3, zz4, zz5, zzf⟩ := hz.1.cells; have HZ5 := keepHid (And.intro hz.1 (And.intro HZ4.out.2 hz.2)); clear hz) | (have hz := ZeroB.made (by first | exact ZeroB.new w4 | exact (ZeroB.new w4).drew | exact ZeroB.new w4.drew) hm5; obtain ⟨zz0, zz1, zz2, zz3, zz4, zz5, zzf⟩ := hz.1.cells; have HZ5 := keepHid (And.intro hz.1 (And.intro (Nat.ne_of_gt HM4.out) hz.2)); clear hz) | skip); have HB5 := keepHid hpr.bel; have HLE5 := keepHid hpr.bel.size; have HN5 := keepHid (HN.out w5 _ G1 G2 hpr); have HM5 := keepHid (And.intro hpr.hb hm5.lt); clear hpr hm5) | (go_at_call 10; (with_reducible refine (HN5.out _ (by (first | exact Below.refl _ _ | exact Below.drew (Below.refl _ _) | exact (Below.refl _ _).alloc (Nat.le_refl _) _ | exact Below.drew ((Below.refl _ _).alloc (Nat.le_refl _) _) | exact (Below.drew (Below.refl _ _)).alloc (Nat.le_refl _) _))).mono ?_); rintro e w6 ⟨A6, c6, rfl, ht6⟩; (first | (have hz := ZeroB.talked (by first | exact HZ5.out.1 | exact ZeroB.drew HZ5.out.1) HZ5.out.2.1 HZ5.out.2.2 ht6; obtain ⟨zz0, zz1, zz2, zz3, zz4, zz5, zzf⟩ := hz.1.cells; have HZ6 := keepHid hz; clear hz) | (have hz := ZeroB.talked (by first | exact ZeroB.new w5 | exact (ZeroB.new w5).drew | exact ZeroB.new w5.drew) (by have := HM5.out; omega) (by have := HM5.out; omega) ht6; obtain ⟨zz0, zz1, zz2, zz3, zz4, zz5, zzf⟩ := hz.1.cells; have HZ6 := keepHid hz; clear hz) | skip); have HB6 := keepHid ht6.bel; have HT6 := keepHid ht6; clear ht6))
        all_goals
          go_wp2_with fail
          go_meet
          case rel =>
            refine ⟨_, A6, c6, w4.heap.size, G1, rfl, ?_⟩
            rw [HE.out, HE'.out]
            first
              | with_reducible exact ResAt.of_new HT6.out _ _ _ rfl
              | with_reducible exact ResAt.of_old HT6.out HZ6.out.1 HZ6.out.2 (Nat.le_refl _) _ _
              | with_reducible exact ResAt.of_old HT6.out HZ6.out.1 HZ6.out.2 HLE4.out _ _
              | with_reducible exact ResAt.of_old HT6.out HZ6.out.1 HZ6.out.2 HLE5.out _ _
    case rest =>
      clear HN2 HS HR HCS HCF d0 d1 hlt3 HNR2 HSOF HROF HBK
      obtain ⟨GB2, A8, c8, Hb2, G8, rfl, hres2⟩ := hcut
      generalize wc = we at *
      have hk7 := HRES1.out.blk.below hres2.bel HRES1.out.blk.lt
      have hy7 := (HRES1.out.bys.below hres2.bel).more hres2.bel.size
      have hle7 := HRES1.out.le
      have hk8 := hres2.blk
      have hy8 := hres2.bys
      have hle8 := hres2.le
      have hmx8 := hres2.max
      obtain ⟨hm1, hm2, ⟨tl, htl⟩, hm4'⟩ := HMR.out
      obtain ⟨hl1, hl2⟩ := HL1.out
      have HBF := keepHid ((HB3.out.trans (HBB2.out.mono HB3.out.size)).trans (hres2.bel.mono (HB3.out.trans (HBB2.out.mono HB3.out.size)).size))
      obtain ⟨D1, hD1⟩ : ∃ D, R1.1.r.da.length = D := ⟨_, rfl⟩
      obtain ⟨D2, hD2⟩ : ∃ D, R2.1.r.da.length = D := ⟨_, rfl⟩
      have hD12 : D1 ≤ D2 := by rw [← hD1, ← hD2, ← htl, List.length_append]; omega
      have htake : R2.1.r.da.take D1 = R1.1.r.da := by rw [← htl, ← hD1]; simp
      rw [hD1] at hk7 hy7 hle7
      rw [hD2] at hk8 hy8 hle8
      have hy8h : Bys we we.heap.size A8 D1 R1.1.r.da := by rw [← htake]; exact hy8.head hD12
      obtain ⟨k1, hk1⟩ : ∃ k, R1.2.1 = k := ⟨_, rfl⟩
      obtain ⟨k2, hk2⟩ : ∃ k, R2.2.1 = k := ⟨_, rfl⟩
      obtain ⟨j1, hj1⟩ : ∃ k, R1.1.sent = k := ⟨_, rfl⟩
      obtain ⟨j2, hj2⟩ : ∃ k, R2.1.sent = k := ⟨_, rfl⟩
      rw [hk1, hj1] at hk7
      rw [hk2, hj2] at hk8
      rw [hk1, hk2] at hm1
      rw [hj1, hj2] at hm2
      rw [hk1] at hl1
      rw [hk2] at hl2
      have cv1 : ∀ q os, (convert 24 9 (.slice A7 D1 c7)).run Try.prog (Sort.grow (redrawn we q) os) = .ok (.string (strB R1.1.r.da)) (Sort.grow (redrawn we q) os) := fun q os =>
        run_str 24 5 9 Try.underlying24 Try.underlying5 Try.underlying9 (hy7.below (below_regrown we q os))
      have cv2 : ∀ q os, (convert 24 9 (.slice A8 D1 c8)).run Try.prog (Sort.grow (redrawn we q) os) = .ok (.string (strB R1.1.r.da)) (Sort.grow (redrawn we q) os) := fun q os =>
        run_str 24 5 9 Try.underlying24 Try.underlying5 Try.underlying9 (hy8h.below (below_regrown we q os))
      have CV1 := keepHid cv1
      have CV3 : Hid (∀ q os, (convert 24 9 (.slice A8 D2 c8)).run Try.prog (Sort.grow (redrawn we q) os) = .ok (.string (strB R2.1.r.da)) (Sort.grow (redrawn we q) os)) := keepHid (fun q os =>
        run_str 24 5 9 Try.underlying24 Try.underlying5 Try.underlying9 (hy8.below (below_regrown we q os)))
      have hcut : ∀ wx, (Instr.slice 24 (.slice A8 D2 c8) none (some (.int .i64 (D1 : Int))) none).run Try.prog wx = .ok (.slice A8 D1 c8) wx := fun wx => head_any A8 D2 c8 D1 (by omega) wx
      have p3 := cell_regrown (hk7.cell 3)
      have p4 := cell_regrown (hk7.cell 4)
      have p5 := cell_regrown (hk7.cell 5)
      have r3 := cell_regrown (hk8.cell 3)
      have r4 := cell_regrown (hk8.cell 4)
      have r5 := cell_regrown (hk8.cell 5)
      simp at p3 p4 p5 r3 r4 r5
      have HQ : Hid (∀ q os, (Sort.grow (redrawn we q) os).cell? ⟨GB1, 0, none⟩ = some (.bool R1.2.2.1) ∧ (Sort.grow (redrawn we q) os).cell? ⟨GB1, 3, none⟩ = some (.slice A7 D1 c7) ∧ (Sort.grow (redrawn we q) os).cell? ⟨GB1, 4, none⟩ = some (.int .i64 (k1 : Int)) ∧
          (Sort.grow (redrawn we q) os).cell? ⟨GB2, 0, none⟩ = some (.bool R2.2.2.1) ∧ (Sort.grow (redrawn we q) os).cell? ⟨GB2, 3, none⟩ = some (.slice A8 D2 c8) ∧ (Sort.grow (redrawn we q) os).cell? ⟨GB2, 4, none⟩ = some (.int .i64 (k2 : Int))) := keepHid (fun q os => by
        have h1 := hk7.below (below_regrown we q os) hk7.lt
        have h2 := hk8.below (below_regrown we q os) hk8.lt
        exact ⟨h1.cell 0, h1.cell 3, h1.cell 4, h2.cell 0, h2.cell 3, h2.cell 4⟩)
      have HOV : Hid (R1.2.2.1 = true → R2.2.2.1 = true ∧ k2 = k1 ∧ R2.1.r.da = R1.1.r.da) := keepHid (fun h => by
        have e := hm4' h
        refine ⟨by rw [e]; exact h, by rw [← hk1, ← hk2, e], by rw [e]⟩)
      have g1 : decide ((M : Int) < (k1 : Int)) = false := by simp; omega
      have g2 : decide ((M : Int) + 7 < (k2 : Int)) = false := by simp; omega
      have g3 : decide ((k2 : Int) < (k1 : Int)) = false := by simp; omega
      have g4 : decide ((j2 : Int) < (j1 : Int)) = false := by simp; omega
      have g5 : decide ((D2 : Int) < (D1 : Int)) = false := by simp; omega
      have n1 : decide (M < k1) = false := by simp; omega
      have n2 : decide (M + 7 < k2) = false := by simp; omega
      have n3' : decide (k2 < k1) = false := by simp; omega
      have n4 : decide (j2 < j1) = false := by simp; omega
      have n5 : decide (D2 < D1) = false := by simp; omega
      have hsame := strB_same (xs := R1.1.r.da) (bs := R1.1.r.da) rfl
      clear hres2 hk7 hy7 hle7 hk8 hy8 hle8 hmx8 hm1 hm2 htl hm4' hl1 hl2 hD1 hD2 hD12 htake hy8h hk1 hk2 hj1 hj2
      go_upto_region 6 with fail
      refine wp_region_quiet_below (by kernel_rfl) (by kernel_rfl) ?_
      repeat (go_big_quiet_step (fail))
      refine wpQuiet_nil ?_
      intro _ hw'
      obtain ⟨⟨dq, osq⟩, hw''⟩ := hw'
      subst hw''
      obtain ⟨q0, q3, q4, s0, s3, s4⟩ := HQ.out dq osq
      have cq1 := CV1.out dq osq
      have cq3 := CV3.out dq osq
      have hbr := below_regrown we dq osq
      have HBG := keepHid (HBF.out.trans (hbr.mono HBF.out.size))
      clear hbr p3 p4 p5 r3 r4 r5 cv1 cv2 hcut g1 g2 g3 g4 g5 n1 n2 n3' n4 n5 HQ
      obtain ⟨ob, hob⟩ : ∃ ob, R1.2.2.1 = ob := ⟨_, rfl⟩
      rw [hob] at q0
      cases ob
      · clear hob
        go_wp2_with fail
        go_ret
        exact ⟨rfl, HBG.out⟩
      · obtain ⟨o1, o2, o3⟩ := HOV.out hob
        rw [o1] at s0
        rw [o3] at cq3
        subst o2
        clear hob o1 o3
        go_wp2_with fail
        go_ret
        exact ⟨rfl, HBG.out⟩

set_option maxRecDepth 100000 in
theorem lifted (os : Os) (started : os.Started) (H : Type) (enc : TypeId × Value → H) :
    ReturnsInHanded {} Try.checked os 7 .any (Rows.linkMostSpec.pre6 enc Try.prog Try.f7 Rows.linkMostRow.domain false) (Rows.linkMostSpec.post enc Try.prog Try.f7 false true false false) := by
  refine returnsInHanded_of_change_sized (C := Try.checked) own started (by kernel_rfl) Try.func7
    (ChangeSpec.witness6 (enc := enc) (C := Try.checked) false ⟨#[], #[.agg #[.int .i64 0, .int .i64 0], .slice none 0 0, .int .u8 0, .slice none 0 0, .int .u8 0], []⟩ 8 (by kernel_rfl) (by kernel_rfl) (by kernel_rfl) (by kernel_rfl)) ?_
  intro W base args ds gs before hval0 hW hcnd hsz0 _
  have hsz : (DataW.weightsEach Try.prog (Try.f7.params.toList ++ Rows.linkMostSpec.plain.varTypes Try.prog) (ds ++ gs)).all (· ≤ reachBytes) = true := hsz0
  clear hsz0
  have hval : ∀ (j : Nat) t v, Try.f7.params[j]? = some t → args[j]? = some v → Value.okWide Try.prog W .any base t v := hval0
  have hW' := hW
  obtain ⟨p, q, hA0, hV, rfl, hfz, hnd⟩ := hW
  have hA : DataW.TrodAll enc Try.prog W 0 (fun _ => true) true Try.f7.params.toList args.toList ds p := hA0
  rw [Try.params7] at hA hval hsz
  obtain ⟨v0, vs0, d0, ds0, p0, q0, hargs, rfl, rfl, h0, r0⟩ := trodAll_cons hA
  obtain ⟨v1, vs1, d1, ds1, p1, q1, rfl, rfl, rfl, h1, r1⟩ := trodAll_cons r0
  obtain ⟨v2, vs2, d2, ds2, p2, q2, rfl, rfl, rfl, h2, r2⟩ := trodAll_cons r1
  obtain ⟨v3, vs3, d3, ds3, p3, q3, rfl, rfl, rfl, h3, r3⟩ := trodAll_cons r2
  obtain ⟨v4, vs4, d4, ds4, p4, q4, rfl, rfl, rfl, h4, r4⟩ := trodAll_cons r3
  obtain ⟨rfl, rfl, rfl⟩ := trodAll_nil r4
  obtain rfl : args = #[v0, v1, v2, v3, v4] := by cases args; simp_all
  obtain ⟨rfl, rfl⟩ := trodVars_none hV
  have k0 := h0
  have lt0 : ∀ x ∈ p0, x.block < W.heap.size := by obtain ⟨m, hm⟩ := k0; exact DataW.trod_lt m _ _ _ hm
  have k1 := h1
  have lt1 : ∀ x ∈ p1, x.block < W.heap.size := by obtain ⟨m, hm⟩ := k1; exact DataW.trod_lt m _ _ _ hm
  have k2 := h2
  have lt2 : ∀ x ∈ p2, x.block < W.heap.size := by obtain ⟨m, hm⟩ := k2; exact DataW.trod_lt m _ _ _ hm
  have k3 := h3
  have lt3 : ∀ x ∈ p3, x.block < W.heap.size := by obtain ⟨m, hm⟩ := k3; exact DataW.trod_lt m _ _ _ hm
  have k4 := h4
  have lt4 : ∀ x ∈ p4, x.block < W.heap.size := by obtain ⟨m, hm⟩ := k4; exact DataW.trod_lt m _ _ _ hm
  obtain ⟨y0, z0, rfl, w0, u0⟩ := open_two Try.underlying23 ⟨rfl, rfl⟩ ⟨rfl, rfl⟩ Try.underlying3 (by kernel_rfl) (by kernel_rfl) (hval 0 23 v0 rfl rfl) h0
  obtain ⟨a1, n1, c1, b1, rfl, w1, l1, s1⟩ := open_bys Try.underlying24 Try.underlying5 (by kernel_rfl) (by kernel_rfl) (hval 1 24 v1 rfl rfl) (fun _ => rfl) h1 (fun el sp hd => sized_slice hsz (j := 1) (t := 24) (e := 5) rfl (by rw [hd]; rfl) Try.underlying24)
  obtain ⟨x2, rfl, rfl, rfl, w2⟩ := open_int Try.underlying5 (hval 2 5 v2 rfl rfl) h2
  obtain ⟨a3, n3, c3, z3, rfl, w3, l3, s3⟩ := open_noise Try.underlying25 Try.underlying48 ⟨rfl, rfl⟩ ⟨rfl, rfl⟩ ⟨rfl, rfl⟩ Try.underlying4 Try.underlying3 Try.underlying5 (by kernel_rfl) (by kernel_rfl) (by kernel_rfl) (by kernel_rfl) (by kernel_rfl) (hval 3 25 v3 rfl rfl) h3 (fun el sp hd => sized_slice hsz (j := 3) (t := 25) (e := 48) rfl (by rw [hd]; rfl) Try.underlying25)
  obtain ⟨x4, rfl, rfl, rfl, w4⟩ := open_int Try.underlying5 (hval 4 5 v4 rfl rfl) h4
  clear hA0 hval0
  refine (walk y0 z0 a1 n1 c1 b1 x2 a3 n3 c3 z3 x4 W w0 u0 w1 l1 s1 (wf_u8 w2) w3 l3 s3 (wf_u8 w4)).mono fun e W' ⟨he, bel⟩ => ?_
  subst he
  exact ⟨_, rfl, _, _, _, [], _, [], hW', trodAll_mk1 (shut_bool Try.underlying4 _), (trodAll_cons_mk (Below.trod laidOut (by kernel_rfl) (of_decide_eq_true (by kernel_rfl)) k0 bel lt0) (trodAll_cons_mk (Below.trod laidOut (by kernel_rfl) (of_decide_eq_true (by kernel_rfl)) k1 bel lt1) (trodAll_cons_mk (Below.trod laidOut (by kernel_rfl) (of_decide_eq_true (by kernel_rfl)) k2 bel lt2) (trodAll_cons_mk (Below.trod laidOut (by kernel_rfl) (of_decide_eq_true (by kernel_rfl)) k3 bel lt3) (trodAll_cons_mk (Below.trod laidOut (by kernel_rfl) (of_decide_eq_true (by kernel_rfl)) k4 bel lt4) trodAll_mk0))))), rfl, bel.frame _, fun h => by cases h⟩

theorem over : Rows.linkMostRow.holds Try.pinned (OpenSpec.ofChange Rows.linkMostSpec) :=
  OpenClaim.holds_of_wide 7 Try.f7 rfl rfl rfl rfl rfl rfl rfl ⟨rfl, rfl, rfl, rfl, rfl⟩ rfl rfl rfl rfl rfl (by kernel_rfl) Try.func7 (by kernel_rfl)
    (of_decide_eq_true (by kernel_rfl)) (by unfold Func.isWrapper; first | (rw [if_pos (by decide +kernel)]; kernel_rfl) | (rw [if_neg (by decide +kernel)]; exact ⟨rfl, rfl⟩))
    (fun os started H enc _ => lifted os started H enc)

theorem proved : Rows.LinkMostSaid := over
end Go.Proofs.Ytjbkhaoddababaa.linkMost
