/-
  'lifelinelaw12.LinkSafe' answers true for every input, and leaves its arguments as they were.
  Conditions: none but what the row itself says of its arguments (how much memory each may take).
-/
import Derived.Test.YtjbkhaoddababaaRows
import Derived.Test.YtjbkhaoddababaaRows
import Derived.Test.YtjbkhaoddababaaLinkAwake
import Derived.Test.YtjbkhaoddababaaLinkData
import Derived.Test.YtjbkhaoddababaaLinkSafe
import Derived.Test.YtjbkhaoddababaaLinkTamed
import Derived.Test.YtjbkhaoddababaaFrameTwo
import Derived.Test.YtjbkhaoddababaaFrameNoise
import Derived.LoopTactic
import Derived.Deep.DeepCutAuto
import Derived.Deep.RegionWith
import Derived.Deep.RegionHeld3
import Derived.Deep.DrawnRows
import Derived.Lib.QuietBelow
import Derived.Test.YtjbkhaoddababaaFrame
import Derived.WalkKit
import Derived.ProofKit
import Derived.OpenShut
import Derived.ShutString
import Derived.ChangeOld
import Derived.Below
namespace Go.Proofs.Ytjbkhaoddababaa.linkSafe
open Go.ChangeShapes Go.WideShapes Go.ChangeAt Go.RowKit
open Go.ChangeMaps (open_string shut_string)
set_option linter.unusedVariables false

theorem own : ownKnob Try.prog.godebug = none := by kernel_rfl
theorem laidOut : laidOutB Try.prog = true := by kernel_rfl

theorem wait_is (z : Int) (lo : Int) : ∃ t v u z1 : Int, z.tmod 5 = t ∧ t + 5 = v ∧ v.tmod 5 = u ∧ lo + u = z1 ∧ lo ≤ z1 ∧ z1 ≤ lo + 4 ∧ -4 ≤ t ∧ t ≤ 4 ∧ 1 ≤ v ∧ v ≤ 9 ∧ 0 ≤ u ∧ u ≤ 4 := by
  refine ⟨_, _, _, _, rfl, rfl, rfl, rfl, ?_⟩
  have h1 : z.tmod 5 = z % 5 ∨ (z.tmod 5 = z % 5 - 5 ∧ z % 5 ≠ 0) := by
    rw [Int.tmod_eq_emod]
    split
    · left; omega
    · rename_i h
      exact .inr ⟨rfl, fun e => h (.inr (Int.dvd_of_emod_eq_zero e))⟩
  have h2 : (z.tmod 5 + 5).tmod 5 = (z.tmod 5 + 5) % 5 := by rw [Int.tmod_eq_emod_of_nonneg (by omega)]
  rw [h2]
  generalize z.tmod 5 = t at *
  clear h2
  refine ⟨?_, ?_, ?_, ?_, ?_, ?_, ?_, ?_⟩ <;> omega
theorem flat_pre (p : LP) (d : Nat) : ∀ n, d ≤ n → flat p d <+: flat p n := fun n h => by
  unfold flat
  obtain ⟨r, hr⟩ := List.take_prefix_take_left (l := p.bl) h
  rw [← hr, List.map_append, List.flatten_append]
  exact List.prefix_append _ _
theorem errV_nil {e : Nat} (h : errV e = .nilIface) : e = 0 := by
  unfold errV at h
  split at h
  · assumption
  · cases h
set_option maxRecDepth 100000 in
set_option maxHeartbeats 4000000 in
theorem walk (y0 z0 : Int) (a1 : Option Addr) (n1 c1 : Nat) (b1 : List UInt8) (x2 : Int) (x3 : Bool) (a4 : Option Addr) (n4 c4 : Nat) (z4 : List Nz) (w : World) (h0 : -9223372036854775808 ≤ y0 ∧ y0 ≤ 9223372036854775807) (g0 : -9223372036854775808 ≤ z0 ∧ z0 ≤ 9223372036854775807) (h1 : Bys w w.heap.size a1 n1 b1) (l1 : n1 ≤ c1) (s1 : c1 ≤ 140737488351232) (h2 : 0 ≤ x2 ∧ x2 ≤ 255) (h4 : NzS w a4 n4 z4) (l4 : n4 ≤ c4) (s4 : c4 * 24 ≤ 140737488351232) :
    Calls Try.prog 6 #[.agg #[.int .i64 y0, .int .i64 z0], .slice a1 n1 c1, .int .u8 x2, .bool x3, .slice a4 n4 c4] w fun e w' => e = .returned (.bool true) ∧ Below w.heap.size w w' := by
  obtain ⟨m, hm⟩ : ∃ m : Nat, x2 % 5 = (m : Int) := ⟨(x2 % 5).toNat, by omega⟩
  have hm4 : m ≤ 4 := by omega
  obtain ⟨t, v, u, z1, ht, hv, hu, hz, hz1, hz6, t1, t2, v1', v2', u1, u2⟩ := wait_is z0 2
  obtain ⟨W, hW⟩ : ∃ W, capZ z1 99 = W := ⟨_, rfl⟩
  have hW2 : 2 ≤ W ∧ W ≤ 99 := by rw [← hW]; unfold capZ; omega
  obtain ⟨T, hT⟩ : ∃ T, capZ y0 9 = T := ⟨_, rfl⟩
  have hT1 : 1 ≤ T ∧ T ≤ 9 := by rw [← hT]; exact (capZ_is y0 9 (by omega)).2
  obtain ⟨bl, hbl⟩ : ∃ bl, blk10 b1 false m = bl := ⟨_, rfl⟩
  obtain ⟨p, hp⟩ : ∃ p : LP, (⟨bl, T, W, x3, W⟩ : LP) = p := ⟨_, rfl⟩
  have hok : LOk p := by rw [← hp, ← hbl]; exact lok_of b1 false m hm4 T W W x3 hT1.1
  have hn : p.bl.length = m := by rw [← hp, ← hbl]; exact blk10_len _ _ _
  have hsh : ∀ (j : Nat) (q : UInt8 × List UInt8), p.bl[j]? = some q → q.2.length = 128 := by rw [← hp, ← hbl]; exact short_of b1 m
  have hsl : ∀ q ∈ bl, q.2.length ≤ 1024 := by rw [← hbl]; exact blk10_sized
  have hHY := keepHid h1
  have hHZ := keepHid h4
  have hLZ := keepHid h4.len
  have HRR : Hid (∀ zt, (∀ (j : Nat) (z : Nz), zt[j]? = some z → 3 ≤ z.at_ ∧ z.at_ ≤ 102) → ∃ d, d ≤ m ∧ (runX p zt 500 (startL p T) (false, 0, 0)).1.r.da = (allB bl).take (128 * d) ∧ (runX p zt 500 (startL p T) (false, 0, 0)).1.r.da.length = 128 * d ∧ ((runX p zt 500 (startL p T) (false, 0, 0)).2.2.1 = true → (runX p zt 500 (startL p T) (false, 0, 0)).2.2.2.1 = 0 → (runX p zt 500 (startL p T) (false, 0, 0)).1.r.da = allB bl)) := keepHid (fun zt hz => by
    have h := run_safe (p := p) (ns := zt) ⟨hok, by rw [← hp]; exact hW2.1, by rw [← hp]; exact hW2.1, by rw [← hp]; exact hT1.2, fun j z hj _ => by have := hz j z hj; omega⟩ (R := T) (by omega) 500
    obtain ⟨⟨d, hd, e1⟩, h2⟩ := h
    have hall : flat p p.bl.length = allB bl := by rw [allB_flat, ← hp]
    have hl : (flat p d).length = 128 * d := flat_len hsh d hd
    refine ⟨d, by omega, ?_, by rw [e1, hl], fun a b => by rw [h2 a b, hall]⟩
    rw [e1, ← hall]
    have hpre : flat p d <+: flat p p.bl.length := flat_pre p d p.bl.length hd
    rw [← hl]
    exact List.prefix_iff_eq_take.1 hpre)
  obtain ⟨L, hL⟩ : ∃ L, (allB bl).length = L := ⟨_, rfl⟩
  have hLm : L = 128 * m := by rw [← hL, show allB bl = flat p p.bl.length by rw [allB_flat, ← hp], flat_len hsh _ (Nat.le_refl _), hn]
  have HSOF : Hid (∀ w' g, BlkS w' (some ⟨g, 0, none⟩) m bl → Calls Try.prog 11 #[.agg #[.int .i64 y0, .int .i64 z1], .slice (some ⟨g, 0, none⟩) m m, .bool x3, .bool true] w' fun e w'' => ∃ G, e = .returned (.pointer (some ⟨G, 0, none⟩)) ∧ SndH w'' w''.heap.size G p.bl p.T p.W true (newS p.W p.crc) ∧ Made w' w'' G) := keepHid (fun w' g hb => by
    refine (sof_pair y0 z1 (some ⟨g, 0, none⟩) m m bl x3 w' hb (by omega) hsl).mono ?_
    rintro e w'' ⟨G, rfl, e3, e4⟩
    rw [hT, hW] at e3
    exact ⟨G, rfl, by rw [← hp]; exact e3, e4⟩)
  have HROF : Hid (∀ w3 w4 G1, SndH w4 w4.heap.size G1 p.bl p.T p.W true (newS p.W p.crc) → w3.heap.size ≤ G1 → Below w3.heap.size w3 w4 → ∀ w', Below w4.heap.size w4 w' → Calls Try.prog 12 #[.agg #[.int .i64 y0, .int .i64 z1], .int .u8 1, .bool x3, .bool true, .int .i64 1] w' fun e w'' => ∃ G, e = .returned (.pointer (some ⟨G, 0, none⟩)) ∧ Pair p T w3 w4.heap.size G1 G w'' ∧ Made w' w'' G) := keepHid (fun w3 w4 G1 hs hg hbel w' hb => by
    have h := rof_pair p y0 z1 w3 w' (hs.below hb) hb.size hg (hbel.trans (hb.mono hbel.size)) (by rw [hW, ← hp])
    have hc : p.crc = x3 := by rw [← hp]
    rw [hT, hc] at h
    exact h)
  have HNR : Hid (∀ (R : Lk × Nat × (Bool × Nat × Nat)) zt, R = runX p zt 500 (startL p T) (false, 0, 0) → ∀ w3 At nt ct, NzS w3 At nt zt → (∀ ad, At = some ad → ad.block < w3.heap.size) → ∀ w5 Hb G1 G2, Pair p T w3 Hb G1 G2 w5 → ∀ w', Below w5.heap.size w5 w' → Calls Try.prog 10 #[.pointer (some ⟨G1, 0, none⟩), .pointer (some ⟨G2, 0, none⟩), .slice At nt ct, .int .i64 500] w' fun e w'' => ∃ A c, e = .returned (.agg #[.bool R.2.2.1, errV R.2.2.2.1, errV R.2.2.2.2, .slice A R.1.r.da.length c, .int .i64 (R.2.1 : Int), .int .i64 (R.1.sent : Int)]) ∧ Talked p w3 Hb G1 G2 R A c w' w'') := keepHid (fun R zt hR w3 At nt ct hz ha w5 Hb G1 G2 hpr w' hb => by
    subst hR
    have hb5 := hpr.hb
    exact run_pair (hpr.below hb) At nt ct zt ((hz.below hpr.bel).below hb) (fun _ ad e hh => by have := ha ad e; omega) 500 (by omega))
  have HBK : Hid (∀ w', Below w.heap.size w w' → Calls Try.prog 9 #[.slice a1 n1 c1, .int .u8 x2, .bool false] w' (Blocks10 w' m bl)) := keepHid (fun w' hb => by
    rw [← hbl]; exact blocks10_any a1 n1 c1 b1 x2 m false h2 hm w' ((hHY.out.below hb).more hb.size))
  have HSL := keepHid hsl
  have HLL := keepHid hL
  obtain ⟨wa, hwa⟩ : ∃ wa, w.alloc (.cells #[.int .i64 y0, .int .i64 z0] 23) = wa := ⟨_, rfl⟩
  have hba : Below w.heap.size w wa := by rw [← hwa]; exact (Below.refl _ _).alloc (Nat.le_refl _) _
  have hka : Blk wa w.heap.size 23 #[.int .i64 y0, .int .i64 z0] := by rw [← hwa]; exact Blk.new w _ _
  have hga : w.heap.size < wa.heap.size := hka.lt
  have HBA := keepHid hba
  have HKA := keepHid hka
  have HAW := keepHid (awake12_any wa)
  have HGA := keepHid hga
  have hn4 : n4 * 24 ≤ 140737488351232 := by omega
  clear h1 h2 h4 l1 s1 l4 s4 hm hbl hp hok hn hsl hsh hHY hL hW hW2 hT hT1 hba hka hga
  go_enter Try.func6, Try.ntmps6
  go_wp2_with fail
  with_reducible refine HAW.out.mono ?_
  rintro e w1 ⟨rfl, hb1⟩
  have hk1 := HKA.out.below hb1 HGA.out
  have HB1 := keepHid (HBA.out.trans (hb1.mono HBA.out.size))
  have cc1 : w1.cell? ⟨w.heap.size, 1, none⟩ = some (.int .i64 z0) := hk1.cell 1
  have cf := hk1.frozen
  obtain ⟨w2, hw2⟩ : ∃ w2, w1.setCell ⟨w.heap.size, 1, none⟩ (.int .i64 z1) = w2 := ⟨_, rfl⟩
  have hb2 : Below w.heap.size w w2 := by rw [← hw2]; exact HB1.out.setCell (Nat.le_refl _) _
  have hk2 : Blk w2 w.heap.size 23 #[.int .i64 y0, .int .i64 z1] := by rw [← hw2]; exact hk1.put 1 _
  have HB2 := keepHid hb2
  have HK2 := keepHid hk2
  have HBK2 := keepHid (HBK.out w2 hb2)
  clear hb1 hk1 hb2 hk2 hwa
  go_wp2_with fail
  with_reducible refine HBK2.out.mono ?_
  rintro e w3 ⟨g, rfl, hbs, hb3⟩
  have HBS := keepHid hbs
  have HB3 := keepHid (HB2.out.trans (hb3.mono HB2.out.size))
  have HK3 := keepHid (HK2.out.below hb3 HK2.out.lt)
  clear hbs hb3 hw2 cc1 cf ht hv hu hz
  go_wp2_with fail
  go_loopw [12, 31] (fun ov kv wr => ∃ (k : Nat) (zs : List Nz), k ≤ n4 ∧ kv = .int .i64 k ∧ OwnZ wr w3.heap.size ov k zs ∧ (∀ (j : Nat) (z : Nz), zs[j]? = some z → 3 ≤ z.at_ ∧ z.at_ ≤ 102) ∧ Below w3.heap.size w3 wr) (fun _ kv _ => n4 - (intOf kv).toNat)
  case atStart => exact ⟨0, [], Nat.zero_le _, rfl, OwnZ.nil _ _, fun j z h => by simp at h, Below.refl _ _⟩
  case round =>
    obtain ⟨k, zs, hk, rfl, ho, hzs, hbel⟩ := hrel
    obtain ⟨A1, cz, rfl, hc1, hc2, hA1⟩ := ho.form
    have HO := keepHid ho
    have HZS := keepHid hzs
    have HB := keepHid hbel
    rcases Nat.lt_or_ge k n4 with hlt | hge
    · obtain ⟨z, hrow⟩ : ∃ z, z4[k]? = some z := ⟨_, List.getElem?_eq_getElem (by rw [hLZ.out]; exact hlt)⟩
      obtain ⟨lost, a, by_⟩ := z
      obtain ⟨ad, rfl, had, q0, q1, q2, ha1, ha2⟩ := hHZ.out.at_ k _ hrow
      simp only at q0 q1 q2 ha1 ha2
      have hbw := HB3.out.trans (hbel.mono HB3.out.size)
      have c0 : wr.cell? (ad.add (k * 3)) = some (.bool lost) := (hbw.cell (by rw [ad_block]; exact had)).trans q0
      have c1' : wr.cell? ⟨(ad.add (k * 3)).block, (ad.add (k * 3)).off + 1, none⟩ = some (.int .i64 a) := by
        have e1 : (⟨(ad.add (k * 3)).block, (ad.add (k * 3)).off + 1, none⟩ : Addr) = ad.add (k * 3 + 1) := by rw [← ad_add, Addr.add_succ' (ad.add (k * 3)) 0]
        rw [e1]; exact (hbw.cell (by rw [ad_block]; exact had)).trans q1
      have c2' : wr.cell? ⟨(ad.add (k * 3)).block, (ad.add (k * 3)).off + 2, none⟩ = some (.int .u8 (by_.toNat : Int)) := by
        have e1 : (⟨(ad.add (k * 3)).block, (ad.add (k * 3)).off + 2, none⟩ : Addr) = ad.add (k * 3 + 2) := by rw [← ad_add, Addr.add_succ' (ad.add (k * 3)) 1]
        rw [e1]; exact (hbw.cell (by rw [ad_block]; exact had)).trans q2
      obtain ⟨t, v, u, z2, ht1, hv1, hu1, hz1', hz2, hz3, t1, t2, v1, v2, u1, u2⟩ := mod_is a 3
      obtain ⟨yb, hyb⟩ : ∃ yb : Int, (by_.toNat : Int) = yb := ⟨_, rfl⟩
      rw [hyb] at c2'
      have HYB := keepHid hyb
      clear hyb
      obtain ⟨wt, hwt⟩ : ∃ wt, wr.alloc (.cells #[.bool lost, .int .i64 a, .int .u8 yb] 48) = wt := ⟨_, rfl⟩
      have hkt : Blk wt wr.heap.size 48 #[.bool lost, .int .i64 a, .int .u8 yb] := by rw [← hwt]; exact Blk.new wr _ _
      have hbt : Below wr.heap.size wr wt := by rw [← hwt]; exact (Below.refl _ _).alloc (Nat.le_refl _) _
      have p1 : wt.cell? ⟨wr.heap.size, 1, none⟩ = some (.int .i64 a) := hkt.cell 1
      have pf := hkt.frozen
      obtain ⟨ws, hws⟩ : ∃ ws, wt.setCell ⟨wr.heap.size, 1, none⟩ (.int .i64 z2) = ws := ⟨_, rfl⟩
      have hks : Blk ws wr.heap.size 48 #[.bool lost, .int .i64 z2, .int .u8 yb] := by rw [← hws]; exact hkt.put 1 _
      have hbs : Below wr.heap.size wr ws := by rw [← hws]; exact hbt.setCell (Nat.le_refl _) _
      have s0 : ws.cell? ⟨wr.heap.size, 0, none⟩ = some (.bool lost) := hks.cell 0
      have s1 : ws.cell? ⟨wr.heap.size, 1, none⟩ = some (.int .i64 z2) := hks.cell 1
      have s2 : ws.cell? ⟨wr.heap.size, 2, none⟩ = some (.int .u8 yb) := hks.cell 2
      have sf := hks.frozen
      obtain ⟨wq, hwq⟩ : ∃ wq, ws.alloc (.cells #[.bool lost, .int .i64 z2, .int .u8 yb] 48) = wq := ⟨_, rfl⟩
      have hbq : Below wr.heap.size wr wq := by rw [← hwq]; exact hbs.alloc hbs.size _
      have HO2 := keepHid (HO.out.below hbq)
      have HK2' : Hid (Blk wq ws.heap.size 48 #[.bool lost, .int .i64 z2, .int .u8 (by_.toNat : Int)]) := keepHid (by rw [HYB.out, ← hwq]; exact Blk.new ws _ _)
      have HS2 := keepHid (Nat.le_trans hbel.size hbq.size)
      have HBQ := keepHid (hbel.trans (hbq.mono hbel.size))
      have HZ2 : Hid (∀ (j : Nat) (z : Nz), (zs ++ [⟨lost, z2, by_⟩])[j]? = some z → 3 ≤ z.at_ ∧ z.at_ ≤ 102) := keepHid (fun j z hj => by
        rcases Nat.lt_or_ge j zs.length with q | q
        · rw [List.getElem?_append_left q] at hj; exact HZS.out j z hj
        · rw [List.getElem?_append_right q] at hj
          obtain rfl : (⟨lost, z2, by_⟩ : Nz) = z := by
            have : j - zs.length = 0 := by
              have := (List.getElem?_eq_some_iff.1 hj).1
              simp at this; omega
            rw [this] at hj; simpa using hj
          exact ⟨hz2, by show z2 ≤ 102; omega⟩)
      have hi : (k : Int) < (n4 : Int) := by omega
      clear hbel ho hzs hrow q0 q1 q2 hkt hbt hks hbs hbq hbw
      go_wp2_with (at_builtin; go_loud (refine wpList_append_noise rfl _ _ rfl w3.heap.size (.slice A1 k cz) k zs (by rfl) HO2.out ws.heap.size (by rfl) ⟨lost, z2, by_⟩ HK2'.out (by omega) HS2.out ?_))
      intro G cap w4 ho4 hb4
      have HO4 := keepHid ho4
      have HB4 := keepHid (HBQ.out.trans hb4)
      clear ho4 hb4
      go_wp2
      go_roundw
      case rel => exact ⟨k + 1, zs ++ [⟨lost, z2, by_⟩], by omega, by go_num, HO4.out, HZ2.out, HB4.out⟩
      case measure => simp [intOf]; omega
    · obtain rfl : k = n4 := by omega
      have hi : ¬ (k : Int) < (k : Int) := by omega
      obtain ⟨R, hR⟩ : ∃ R, runX p zs 500 (startL p T) (false, 0, 0) = R := ⟨_, rfl⟩
      obtain ⟨d, hd, r1, r2, r3⟩ := HRR.out zs hzs
      rw [hR] at r1 r2 r3
      have HR1 := keepHid r1
      have HR2 := keepHid r2
      have HR3 := keepHid r3
      have hbw := HB3.out.trans (hbel.mono HB3.out.size)
      have hkr := HK3.out.below hbel HK3.out.lt
      have hnz := ho.nzs (fun j z hz => by have := hzs j z hz; omega) (by omega)
      have hA2 : ∀ ad, A1 = some ad → ad.block < wr.heap.size := fun ad e => (World.ownsRow.lt ho ad.block (by rw [e]; rfl)).2
      have HBW := keepHid hbw
      have d0 : wr.cell? ⟨w.heap.size, 0, none⟩ = some (.int .i64 y0) := hkr.cell 0
      have d1 : wr.cell? ⟨w.heap.size, 1, none⟩ = some (.int .i64 z1) := hkr.cell 1
      have hlt3 : w.heap.size < wr.heap.size := hkr.lt
      have HCF : Hid (∀ w', Below wr.heap.size wr w' → w'.cell? ⟨w.heap.size, 0, none⟩ = some (.int .i64 y0) ∧ w'.cell? ⟨w.heap.size, 1, none⟩ = some (.int .i64 z1) ∧ w.heap.size < w'.heap.size) := keepHid (fun w' hb => by
        have := hkr.below hb hkr.lt
        exact ⟨this.cell 0, this.cell 1, this.lt⟩)
      have HCS : Hid (∀ w', Below wr.heap.size wr w' → w'.cell? ⟨w.heap.size, 0, none⟩ = some (.int .i64 y0) ∧ w'.cell? ⟨w.heap.size, 1, none⟩ = some (.int .i64 z1) ∧ Below wr.heap.size wr w') := keepHid (fun w' hb => ⟨(HCF.out w' hb).1, (HCF.out w' hb).2.1, hb⟩)
      have HBS' := keepHid (HBS.out.below hbel)
      have HS : Hid (∀ w', Below wr.heap.size wr w' → Calls Try.prog 11 #[.agg #[.int .i64 y0, .int .i64 z1], .slice (some ⟨g, 0, none⟩) m m, .bool x3, .bool true] w' fun e w'' => ∃ G, e = .returned (.pointer (some ⟨G, 0, none⟩)) ∧ SndH w'' w''.heap.size G p.bl p.T p.W true (newS p.W p.crc) ∧ Made w' w'' G) := keepHid (fun w' hb => HSOF.out w' g (HBS'.out.below hb))
      have HR := keepHid (HROF.out wr)
      have HN0 := keepHid (HNR.out R zs hR.symm wr A1 k cz hnz hA2)
      clear ho hzs hbel hnz hA2 hkr hbw hR r1 r2 r3 HNR HRR HO HZS HB hA1
      go_upto_region 12 with fail
      go_cut [15] (fun s wx => ∃ GB A6 c6 Hb G1, s = .pointer (some ⟨GB, 0, none⟩) ∧ ResAt wr p Hb G1 R GB A6 c6 (errV R.2.2.2.1) (errV R.2.2.2.2) wx)
      case first =>
        rcases errV_or R.2.2.2.1 with e1 | ⟨y1, x1, e1⟩ <;> rcases errV_or R.2.2.2.2 with e2 | ⟨y2, x4, e2⟩
        all_goals
          have HN := HN0
          rw [e1, e2] at HN
          have HE := keepHid e1
          have HE' := keepHid e2
          clear e1 e2 HN0
          go_region_held3 (fun w' => w'.cell? ⟨w.heap.size, 0, none⟩ = some (.int .i64 y0) ∧ w'.cell? ⟨w.heap.size, 1, none⟩ = some (.int .i64 z1) ∧ Below wr.heap.size wr w') (exact HCS.out _ (by (repeat (first | (with_reducible exact Below.refl _ _) | (with_reducible exact HB4.out) | (with_reducible exact HB5.out) | (with_reducible exact HB6.out) | (with_reducible refine Below.drew ?_) | (with_reducible refine bel_alloc ?_ _) | (with_reducible refine bel_set ?_ (by first | exact Nat.le_refl _ | exact HLE4.out | exact HLE5.out) _))))) (first | (go_at_call 11; (with_reducible refine (HS.out _ (by (first | exact Below.refl _ _ | exact Below.drew (Below.refl _ _) | exact (Below.refl _ _).alloc (Nat.le_refl _) _ | exact Below.drew ((Below.refl _ _).alloc (Nat.le_refl _) _) | exact (Below.drew (Below.refl _ _)).alloc (Nat.le_refl _) _))).mono ?_); rintro e w4 ⟨G1, rfl, hs4, hm4⟩; obtain ⟨hb4, hg4⟩ := Made.since (w3 := wr) (by (first | exact Below.refl _ _ | exact Below.drew (Below.refl _ _) | exact (Below.refl _ _).alloc (Nat.le_refl _) _ | exact Below.drew ((Below.refl _ _).alloc (Nat.le_refl _) _) | exact (Below.drew (Below.refl _ _)).alloc (Nat.le_refl _) _)) hm4; obtain ⟨d0', d1', hlt4⟩ := HCF.out w4 hb4; (try (have hz := ZeroB.made (by first | exact ZeroB.new wr | exact (ZeroB.new wr).drew | exact ZeroB.new wr.drew) hm4; obtain ⟨zz0, zz1, zz2, zz3, zz4, zz5, zzf⟩ := hz.1.cells; have HZ4 := keepHid hz; clear hz)); have HB4 := keepHid hb4; have HLE4 := keepHid hb4.size; have HR4 := keepHid (HR.out w4 G1 hs4 hg4 hb4); have HM4 := keepHid hm4.lt; clear hs4 hm4 hb4 hg4) | (go_at_call 12; (with_reducible refine (HR4.out _ (by (first | exact Below.refl _ _ | exact Below.drew (Below.refl _ _) | exact (Below.refl _ _).alloc (Nat.le_refl _) _ | exact Below.drew ((Below.refl _ _).alloc (Nat.le_refl _) _) | exact (Below.drew (Below.refl _ _)).alloc (Nat.le_refl _) _))).mono ?_); rintro e w5 ⟨G2, rfl, hpr, hm5⟩; (first | (have hz := ZeroB.made (by first | exact HZ4.out.1 | exact ZeroB.drew HZ4.out.1) hm5; obtain ⟨zz0, zz1, zz2, zz3, zz4, zz5, zzf⟩ := hz.1.cells; have HZ5 := keepHid (And.intro hz.1 (And.intro HZ4.out.2 hz.2)); clear hz) | (have hz := ZeroB.made (by first | exact ZeroB.new w4 | exact (ZeroB.new w4).drew | exact ZeroB.new w4.drew) hm5; obtain ⟨zz0, zz1, zz2, zz3, zz4, zz5, zzf⟩ := hz.1.cells; have HZ5 := keepHid (And.intro hz.1 (And.intro (Nat.ne_of_gt HM4.out) hz.2)); clear hz) | skip); have HB5 := keepHid hpr.bel; have HLE5 := keepHid hpr.bel.size; have HN5 := keepHid (HN.out w5 _ G1 G2 hpr); have HM5 := keepHid (And.intro hpr.hb hm5.lt); clear hpr hm5) | (go_at_call 10; (with_reducible refine (HN5.out _ (by (first | exact Below.refl _ _ | exact Below.drew (Below.refl _ _) | exact (Below.refl _ _).alloc (Nat.le_refl _) _ | exact Below.drew ((Below.refl _ _).alloc (Nat.le_refl _) _) | exact (Below.drew (Below.refl _ _)).alloc (Nat.le_refl _) _))).mono ?_); rintro e w6 ⟨A6, c6, rfl, ht6⟩; (first | (have hz := ZeroB.talked (by first | exact HZ5.out.1 | exact ZeroB.drew HZ5.out.1) HZ5.out.2.1 HZ5.out.2.2 ht6; obtain ⟨zz0, zz1, zz2, zz3, zz4, zz5, zzf⟩ := hz.1.cells; have HZ6 := keepHid hz; clear hz) | (have hz := ZeroB.talked (by first | exact ZeroB.new w5 | exact (ZeroB.new w5).drew | exact ZeroB.new w5.drew) (by have := HM5.out; omega) (by have := HM5.out; omega) ht6; obtain ⟨zz0, zz1, zz2, zz3, zz4, zz5, zzf⟩ := hz.1.cells; have HZ6 := keepHid hz; clear hz) | skip); have HB6 := keepHid ht6.bel; have HT6 := keepHid ht6; clear ht6))
          all_goals
            go_wp2_with fail
            go_meet
            case rel =>
              refine ⟨_, A6, c6, w4.heap.size, G1, rfl, ?_⟩
              rw [HE.out, HE'.out]
              first
                | with_reducible exact ResAt.of_new HT6.out _ _ _ rfl
                | with_reducible exact ResAt.of_old HT6.out HZ6.out.1 HZ6.out.2 (Nat.le_refl _) _ _
                | with_reducible exact ResAt.of_old HT6.out HZ6.out.1 HZ6.out.2 HLE4.out _ _
                | with_reducible exact ResAt.of_old HT6.out HZ6.out.1 HZ6.out.2 HLE5.out _ _
      case rest =>
        clear HN0 HS HR HCS HCF HSOF HROF HBK
        obtain ⟨GB, A6, c6, Hb, G1, rfl, hres⟩ := hcut
        generalize wc = wd at *
        have hb6 := hres.bel
        have HDA := keepHid (data12_any (some ⟨g, 0, none⟩) m m bl wd (HBS'.out.below hb6) (by omega) HSL.out)
        have HRES := keepHid hres
        have HBX := keepHid (HBW.out.trans (hb6.mono HBW.out.size))
        clear hres hb6
        go_wp2_with fail
        with_reducible refine HDA.out.mono ?_
        rintro e w8 ⟨rfl, hb8⟩
        have hk8 := HRES.out.blk.below hb8 HRES.out.blk.lt
        have hy8 := (HRES.out.bys.below hb8).more hb8.size
        have hle8 := HRES.out.le
        have hmx8 := HRES.out.max
        have HB8 := keepHid (HBX.out.trans (hb8.mono HBX.out.size))
        obtain ⟨D, hD⟩ : ∃ D, R.1.r.da.length = D := ⟨_, rfl⟩
        have hDd : D = 128 * d := by rw [← hD]; exact HR2.out
        have hDL : D ≤ L := by omega
        rw [hD] at hk8 hy8 hle8
        have cv : ∀ q os, (convert 24 9 (.slice A6 D c6)).run Try.prog (Sort.grow (redrawn w8 q) os) = .ok (.string (strB R.1.r.da)) (Sort.grow (redrawn w8 q) os) := fun q os =>
          run_str 24 5 9 Try.underlying24 Try.underlying5 Try.underlying9 (hy8.below (below_regrown w8 q os))
        have hsz : (strB (allB bl)).size = L := by rw [strB_size]; exact HLL.out
        have hcut : ∀ wx, (Instr.slice 9 (.string (strB (allB bl))) none (some (.int .i64 (D : Int))) none).run Try.prog wx = .ok (.string (strB R.1.r.da)) wx := fun wx => by
          rw [run_slice_string_h wx 9 (strB (allB bl)) Try.underlying9 .i64 (D : Int) (by omega) (by rw [hsz]; omega)]
          rw [show ((D : Int)).toNat = D by omega, strB_take, HR1.out, hDd]
        have k3 := cell_regrown (hk8.cell 3)
        simp at k3
        have q0 : w8.cell? ⟨GB, 0, none⟩ = some (.bool R.2.2.1) := hk8.cell 0
        have q1 : w8.cell? ⟨GB, 1, none⟩ = some (errV R.2.2.2.1) := hk8.cell 1
        have q2 : w8.cell? ⟨GB, 2, none⟩ = some (errV R.2.2.2.2) := hk8.cell 2
        have q3 : w8.cell? ⟨GB, 3, none⟩ = some (.slice A6 D c6) := hk8.cell 3
        have HQ : Hid (∀ q os, (Sort.grow (redrawn w8 q) os).cell? ⟨GB, 0, none⟩ = some (.bool R.2.2.1) ∧ (Sort.grow (redrawn w8 q) os).cell? ⟨GB, 1, none⟩ = some (errV R.2.2.2.1) ∧ (Sort.grow (redrawn w8 q) os).cell? ⟨GB, 2, none⟩ = some (errV R.2.2.2.2) ∧ (Sort.grow (redrawn w8 q) os).cell? ⟨GB, 3, none⟩ = some (.slice A6 D c6)) := keepHid (fun q os => by
          have := hk8.below (below_regrown w8 q os) hk8.lt
          exact ⟨this.cell 0, this.cell 1, this.cell 2, this.cell 3⟩)
        have g1 : ¬ (D : Int) > (L : Int) := by omega
        have g2 : decide ((L : Int) < (D : Int)) = false := by simp; omega
        have g3 : ((D : Int)).tmod 128 = 0 := by rw [Int.tmod_eq_emod_of_nonneg (by omega)]; omega
        have g4 : decide (L < D) = false := by simp; omega
        have g5 : (D : Int) % 128 = 0 := by omega
        have hDi : (D : Int) ≤ 512 := by omega
        have hsame := strB_same (xs := R.1.r.da) (bs := R.1.r.da) rfl
        have CV := keepHid cv
        clear hb8 hk8 hy8 hD hDd hLm q0 q1 q2 q3 HRES
        go_upto_region 14 with fail
        refine wp_region_quiet_below (by kernel_rfl) (by kernel_rfl) ?_
        repeat (go_big_quiet_step (fail))
        refine wpQuiet_nil ?_
        intro _ hw'
        obtain ⟨⟨dq, osq⟩, hw''⟩ := hw'
        subst hw''
        obtain ⟨q0, q1, q2, q3⟩ := HQ.out dq osq
        have hbr := below_regrown w8 dq osq
        have HBF := keepHid (HB8.out.trans (hbr.mono HB8.out.size))
        have cvq := CV.out dq osq
        clear hbr k3 cv hcut HQ CV
        obtain ⟨ob, hob⟩ : ∃ ob, R.2.2.1 = ob := ⟨_, rfl⟩
        rw [hob] at q0
        cases ob
        · go_wp2_with fail
          go_ret
          exact ⟨rfl, HBF.out⟩
        · rcases errV_or R.2.2.2.1 with e1 | ⟨y1, x1, e1⟩
          · rcases errV_or R.2.2.2.2 with e2 | ⟨y2, x4, e2⟩
            · have hda := HR3.out hob (errV_nil e1)
              have hs2 : ((strB R.1.r.da).toList == (strB (allB bl)).toList) = true := by rw [hda]; exact strB_same rfl
              rw [e1] at q1
              rw [e2] at q2
              clear e1 e2 hda hob
              go_wp2_with fail
              go_ret
              exact ⟨rfl, HBF.out⟩
            · rw [e1] at q1
              rw [e2] at q2
              clear e1 e2 hob
              go_wp2_with fail
              go_ret
              exact ⟨rfl, HBF.out⟩
          · rw [e1] at q1
            clear e1 hob
            go_wp2_with fail
            go_ret
            exact ⟨rfl, HBF.out⟩

set_option maxRecDepth 100000 in
theorem lifted (os : Os) (started : os.Started) (H : Type) (enc : TypeId × Value → H) :
    ReturnsInHanded {} Try.checked os 6 .any (Rows.linkSafeSpec.pre6 enc Try.prog Try.f6 Rows.linkSafeRow.domain false) (Rows.linkSafeSpec.post enc Try.prog Try.f6 false true false false) := by
  refine returnsInHanded_of_change_sized (C := Try.checked) own started (by kernel_rfl) Try.func6
    (ChangeSpec.witness6 (enc := enc) (C := Try.checked) false ⟨#[], #[.agg #[.int .i64 0, .int .i64 0], .slice none 0 0, .int .u8 0, .bool false, .slice none 0 0], []⟩ 8 (by kernel_rfl) (by kernel_rfl) (by kernel_rfl) (by kernel_rfl)) ?_
  intro W base args ds gs before hval0 hW hcnd hsz0 _
  have hsz : (DataW.weightsEach Try.prog (Try.f6.params.toList ++ Rows.linkSafeSpec.plain.varTypes Try.prog) (ds ++ gs)).all (· ≤ reachBytes) = true := hsz0
  clear hsz0
  have hval : ∀ (j : Nat) t v, Try.f6.params[j]? = some t → args[j]? = some v → Value.okWide Try.prog W .any base t v := hval0
  have hW' := hW
  obtain ⟨p, q, hA0, hV, rfl, hfz, hnd⟩ := hW
  have hA : DataW.TrodAll enc Try.prog W 0 (fun _ => true) true Try.f6.params.toList args.toList ds p := hA0
  rw [Try.params6] at hA hval hsz
  obtain ⟨v0, vs0, d0, ds0, p0, q0, hargs, rfl, rfl, h0, r0⟩ := trodAll_cons hA
  obtain ⟨v1, vs1, d1, ds1, p1, q1, rfl, rfl, rfl, h1, r1⟩ := trodAll_cons r0
  obtain ⟨v2, vs2, d2, ds2, p2, q2, rfl, rfl, rfl, h2, r2⟩ := trodAll_cons r1
  obtain ⟨v3, vs3, d3, ds3, p3, q3, rfl, rfl, rfl, h3, r3⟩ := trodAll_cons r2
  obtain ⟨v4, vs4, d4, ds4, p4, q4, rfl, rfl, rfl, h4, r4⟩ := trodAll_cons r3
  obtain ⟨rfl, rfl, rfl⟩ := trodAll_nil r4
  obtain rfl : args = #[v0, v1, v2, v3, v4] := by cases args; simp_all
  obtain ⟨rfl, rfl⟩ := trodVars_none hV
  have k0 := h0
  have lt0 : ∀ x ∈ p0, x.block < W.heap.size := by obtain ⟨m, hm⟩ := k0; exact DataW.trod_lt m _ _ _ hm
  have k1 := h1
  have lt1 : ∀ x ∈ p1, x.block < W.heap.size := by obtain ⟨m, hm⟩ := k1; exact DataW.trod_lt m _ _ _ hm
  have k2 := h2
  have lt2 : ∀ x ∈ p2, x.block < W.heap.size := by obtain ⟨m, hm⟩ := k2; exact DataW.trod_lt m _ _ _ hm
  have k3 := h3
  have lt3 : ∀ x ∈ p3, x.block < W.heap.size := by obtain ⟨m, hm⟩ := k3; exact DataW.trod_lt m _ _ _ hm
  have k4 := h4
  have lt4 : ∀ x ∈ p4, x.block < W.heap.size := by obtain ⟨m, hm⟩ := k4; exact DataW.trod_lt m _ _ _ hm
  obtain ⟨y0, z0, rfl, w0, u0⟩ := open_two Try.underlying23 ⟨rfl, rfl⟩ ⟨rfl, rfl⟩ Try.underlying3 (by kernel_rfl) (by kernel_rfl) (hval 0 23 v0 rfl rfl) h0
  obtain ⟨a1, n1, c1, b1, rfl, w1, l1, s1⟩ := open_bys Try.underlying24 Try.underlying5 (by kernel_rfl) (by kernel_rfl) (hval 1 24 v1 rfl rfl) (fun _ => rfl) h1 (fun el sp hd => sized_slice hsz (j := 1) (t := 24) (e := 5) rfl (by rw [hd]; rfl) Try.underlying24)
  obtain ⟨x2, rfl, rfl, rfl, w2⟩ := open_int Try.underlying5 (hval 2 5 v2 rfl rfl) h2
  obtain ⟨x3, rfl, rfl, rfl⟩ := open_bool Try.underlying4 (hval 3 4 v3 rfl rfl) h3
  obtain ⟨a4, n4, c4, z4, rfl, w4, l4, s4⟩ := open_noise Try.underlying25 Try.underlying48 ⟨rfl, rfl⟩ ⟨rfl, rfl⟩ ⟨rfl, rfl⟩ Try.underlying4 Try.underlying3 Try.underlying5 (by kernel_rfl) (by kernel_rfl) (by kernel_rfl) (by kernel_rfl) (by kernel_rfl) (hval 4 25 v4 rfl rfl) h4 (fun el sp hd => sized_slice hsz (j := 4) (t := 25) (e := 48) rfl (by rw [hd]; rfl) Try.underlying25)
  clear hA0 hval0
  refine (walk y0 z0 a1 n1 c1 b1 x2 x3 a4 n4 c4 z4 W w0 u0 w1 l1 s1 (wf_u8 w2) w4 l4 s4).mono fun e W' ⟨he, bel⟩ => ?_
  subst he
  exact ⟨_, rfl, _, _, _, [], _, [], hW', trodAll_mk1 (shut_bool Try.underlying4 _), (trodAll_cons_mk (Below.trod laidOut (by kernel_rfl) (of_decide_eq_true (by kernel_rfl)) k0 bel lt0) (trodAll_cons_mk (Below.trod laidOut (by kernel_rfl) (of_decide_eq_true (by kernel_rfl)) k1 bel lt1) (trodAll_cons_mk (Below.trod laidOut (by kernel_rfl) (of_decide_eq_true (by kernel_rfl)) k2 bel lt2) (trodAll_cons_mk (Below.trod laidOut (by kernel_rfl) (of_decide_eq_true (by kernel_rfl)) k3 bel lt3) (trodAll_cons_mk (Below.trod laidOut (by kernel_rfl) (of_decide_eq_true (by kernel_rfl)) k4 bel lt4) trodAll_mk0))))), rfl, bel.frame _, fun h => by cases h⟩

theorem over : Rows.linkSafeRow.holds Try.pinned (OpenSpec.ofChange Rows.linkSafeSpec) :=
  OpenClaim.holds_of_wide 6 Try.f6 rfl rfl rfl rfl rfl rfl rfl ⟨rfl, rfl, rfl, rfl, rfl⟩ rfl rfl rfl rfl rfl (by kernel_rfl) Try.func6 (by kernel_rfl)
    (of_decide_eq_true (by kernel_rfl)) (by unfold Func.isWrapper; first | (rw [if_pos (by decide +kernel)]; kernel_rfl) | (rw [if_neg (by decide +kernel)]; exact ⟨rfl, rfl⟩))
    (fun os started H enc _ => lifted os started H enc)

theorem proved : Rows.LinkSafeSaid := over
end Go.Proofs.Ytjbkhaoddababaa.linkSafe
