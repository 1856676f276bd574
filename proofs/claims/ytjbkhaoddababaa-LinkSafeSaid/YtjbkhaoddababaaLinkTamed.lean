/-
  What the law's own helper 'Tame' answers.
-/
import Derived.Test.YtjbkhaoddababaaLinkRows
namespace Go.Proofs.Ytjbkhaoddababaa
open Go.RowKit
set_option linter.unusedVariables false

theorem OwnZ.below {w w' : World} {base n : Nat} {v : Value} {zs : List Nz} (h : OwnZ w base v n zs) (hb : Below w.heap.size w w') : OwnZ w' base v n zs := by
  refine ⟨h.1, ?_⟩
  rcases h.2 with e | ⟨g, cap, cur, e, h1, h2, h3⟩
  · exact .inl e
  · have hg : g < w.heap.size := by
      rcases Nat.lt_or_ge g w.heap.size with hlt | hge
      · exact hlt
      · rw [Array.getElem?_eq_none hge] at h2; cases h2
    exact .inr ⟨g, cap, cur, e, h1, (hb.block g hg).trans h2, h3⟩
theorem mod_is (z lo : Int) : ∃ t v u z1 : Int, z.tmod 100 = t ∧ t + 100 = v ∧ v.tmod 100 = u ∧ lo + u = z1 ∧ lo ≤ z1 ∧ z1 ≤ lo + 99 ∧ -99 ≤ t ∧ t ≤ 99 ∧ 1 ≤ v ∧ v ≤ 199 ∧ 0 ≤ u ∧ u ≤ 99 := by
  refine ⟨_, _, _, _, rfl, rfl, rfl, rfl, ?_⟩
  have h1 : z.tmod 100 = z % 100 ∨ (z.tmod 100 = z % 100 - 100 ∧ z % 100 ≠ 0) := by
    rw [Int.tmod_eq_emod]
    split
    · left; omega
    · rename_i h
      exact .inr ⟨rfl, fun e => h (.inr (Int.dvd_of_emod_eq_zero e))⟩
  have h2 : (z.tmod 100 + 100).tmod 100 = (z.tmod 100 + 100) % 100 := by rw [Int.tmod_eq_emod_of_nonneg (by omega)]
  rw [h2]
  generalize z.tmod 100 = t at *
  clear h2
  refine ⟨?_, ?_, ?_, ?_, ?_, ?_, ?_, ?_⟩ <;> omega
/-- Noise of the call's own. -/
def NewZ (w : World) (ok : List Nz → Prop) (e : Ending) (w' : World) : Prop :=
  ∃ A n c zs, e = .returned (.slice A n c) ∧ NzS w' A n zs ∧ (∀ ad, A = some ad → w.heap.size ≤ ad.block) ∧ ok zs ∧ Below w.heap.size w w'
set_option maxRecDepth 100000 in
set_option maxHeartbeats 4000000 in
theorem tame_any (A : Option Addr) (n c : Nat) (ns : List Nz) (T : Nat) (hT : 1 ≤ T) (hT9 : T ≤ 100) (w : World) (hz : NzS w A n ns) (hn : n * 24 ≤ 140737488351232) :
    Calls Try.prog 23 #[.slice A n c, .int .i64 (T : Int)] w (NewZ w (fun zs => TameN zs T)) := by
  have HZ := keepHid hz
  have HLEN := keepHid hz.len
  have hT1 : (1 : Int) ≤ (T : Int) := by omega
  have hTi : (T : Int) ≤ 100 := by omega
  clear hz
  go_enter Try.func23, Try.ntmps23
  go_wp2_with fail
  go_loopw [5, 6, 11] (fun ov bv kv wr => ∃ (k b : Nat) (zs : List Nz), k ≤ n ∧ kv = .int .i64 k ∧ bv = .int .i64 b ∧ OwnZ wr w.heap.size ov k zs ∧ TPart zs T b ∧ Below w.heap.size w wr) (fun _ _ kv _ => n - (intOf kv).toNat)
  case atStart => exact ⟨0, 0, [], Nat.zero_le _, rfl, rfl, OwnZ.nil _ _, TPart.nil hT, Below.refl _ _⟩
  case round =>
    obtain ⟨k, b, zs, hk, rfl, rfl, ho, ht, hbel⟩ := hrel
    obtain ⟨A1, c1, rfl, hc1, hc2, hA1⟩ := ho.form
    have HO := keepHid ho
    have HT := keepHid ht
    have HB := keepHid hbel
    have hbT := ht.lt
    rcases Nat.lt_or_ge k n with hlt | hge
    · obtain ⟨z, hrow⟩ : ∃ z, ns[k]? = some z := ⟨_, List.getElem?_eq_getElem (by rw [HLEN.out]; exact hlt)⟩
      obtain ⟨lost, a, by_⟩ := z
      obtain ⟨ad, rfl, had, q0, q1, q2, ha1, ha2⟩ := HZ.out.at_ k _ hrow
      simp only at q0 q1 q2 ha1 ha2
      have c0 : wr.cell? (ad.add (k * 3)) = some (.bool lost) := (hbel.cell (by rw [ad_block]; exact had)).trans q0
      have c1' : wr.cell? ⟨(ad.add (k * 3)).block, (ad.add (k * 3)).off + 1, none⟩ = some (.int .i64 a) := by
        have e1 : (⟨(ad.add (k * 3)).block, (ad.add (k * 3)).off + 1, none⟩ : Addr) = ad.add (k * 3 + 1) := by rw [← ad_add, Addr.add_succ' (ad.add (k * 3)) 0]
        rw [e1]; exact (hbel.cell (by rw [ad_block]; exact had)).trans q1
      have c2' : wr.cell? ⟨(ad.add (k * 3)).block, (ad.add (k * 3)).off + 2, none⟩ = some (.int .u8 (by_.toNat : Int)) := by
        have e1 : (⟨(ad.add (k * 3)).block, (ad.add (k * 3)).off + 2, none⟩ : Addr) = ad.add (k * 3 + 2) := by rw [← ad_add, Addr.add_succ' (ad.add (k * 3)) 1]
        rw [e1]; exact (hbel.cell (by rw [ad_block]; exact had)).trans q2
      obtain ⟨t, v, u, z1, ht1, hv1, hu1, hz1, hz2, hz3, t1, t2, v1, v2, u1, u2⟩ := mod_is a 1
      obtain ⟨yb, hyb⟩ : ∃ yb : Int, (by_.toNat : Int) = yb := ⟨_, rfl⟩
      rw [hyb] at c2'
      have HYB := keepHid hyb
      clear hyb
      obtain ⟨wt, hwt⟩ : ∃ wt, wr.alloc (.cells #[.bool lost, .int .i64 a, .int .u8 yb] 48) = wt := ⟨_, rfl⟩
      have hkt : Blk wt wr.heap.size 48 #[.bool lost, .int .i64 a, .int .u8 yb] := by rw [← hwt]; exact Blk.new wr _ _
      have hbt : Below wr.heap.size wr wt := by rw [← hwt]; exact (Below.refl _ _).alloc (Nat.le_refl _) _
      have p1 : wt.cell? ⟨wr.heap.size, 1, none⟩ = some (.int .i64 a) := hkt.cell 1
      have pf := hkt.frozen
      obtain ⟨ws, hws⟩ : ∃ ws, wt.setCell ⟨wr.heap.size, 1, none⟩ (.int .i64 z1) = ws := ⟨_, rfl⟩
      have hks : Blk ws wr.heap.size 48 #[.bool lost, .int .i64 z1, .int .u8 yb] := by rw [← hws]; exact hkt.put 1 _
      have hbs : Below wr.heap.size wr ws := by rw [← hws]; exact hbt.setCell (Nat.le_refl _) _
      have s0 : ws.cell? ⟨wr.heap.size, 0, none⟩ = some (.bool lost) := hks.cell 0
      have s1 : ws.cell? ⟨wr.heap.size, 1, none⟩ = some (.int .i64 z1) := hks.cell 1
      have s2 : ws.cell? ⟨wr.heap.size, 2, none⟩ = some (.int .u8 yb) := hks.cell 2
      have sf := hks.frozen
      obtain ⟨wz, hwz⟩ : ∃ wz, ((ws.setCell ⟨wr.heap.size, 0, none⟩ (.bool false)).setCell ⟨wr.heap.size, 1, none⟩ (.int .i64 0)).setCell ⟨wr.heap.size, 2, none⟩ (.int .u8 0) = wz := ⟨_, rfl⟩
      have hkz : Blk wz wr.heap.size 48 #[.bool false, .int .i64 0, .int .u8 0] := by rw [← hwz]; exact ((hks.put 0 _).put 1 _).put 2 _
      have hbz : Below wr.heap.size wr wz := by rw [← hwz]; exact ((hbs.setCell (Nat.le_refl _) _).setCell (Nat.le_refl _) _).setCell (Nat.le_refl _) _
      have y0 : wz.cell? ⟨wr.heap.size, 0, none⟩ = some (.bool false) := hkz.cell 0
      have y1 : wz.cell? ⟨wr.heap.size, 1, none⟩ = some (.int .i64 0) := hkz.cell 1
      have y2 : wz.cell? ⟨wr.heap.size, 2, none⟩ = some (.int .u8 0) := hkz.cell 2
      have HBS := keepHid hbs
      have HBZ := keepHid hbz
      have HKS := keepHid hks
      have HKZ := keepHid hkz
      have HAP : Hid (∀ (wx : World) (x : Nz) (b' : Nat) (yv : Int), (x.by_.toNat : Int) = yv → Below wr.heap.size wr wx → TPart (zs ++ [x]) T b' → ∀ wq, wx.alloc (.cells #[.bool x.lost, .int .i64 x.at_, .int .u8 yv] 48) = wq →
          OwnZ wq w.heap.size (.slice A1 k c1) k zs ∧ Blk wq wx.heap.size 48 #[.bool x.lost, .int .i64 x.at_, .int .u8 (x.by_.toNat : Int)] ∧ w.heap.size ≤ wq.heap.size ∧ Below w.heap.size w wq) := keepHid (fun wx x b' yv hy hb hp wq e => by
        subst hy
        have h1 : Below wr.heap.size wr wq := by rw [← e]; exact hb.alloc hb.size _
        refine ⟨HO.out.below h1, by rw [← e]; exact Blk.new wx _ _, Nat.le_trans HB.out.size h1.size, HB.out.trans (h1.mono HB.out.size)⟩)
      have hi : (k : Int) < (n : Int) := by omega
      have hb1 : (b : Int) < 100 := by omega
      clear hbel ho ht hrow q0 q1 q2 hkt hbt hks hbs hkz hbz
      cases lost
      · by_cases hby : by_ = 0
        · have hb0 : (yb == 0) = true := by rw [← HYB.out, hby]; rfl
          have hb1 : (yb != 0) = false := by rw [bne, hb0]; rfl
          have HBY := keepHid hby
          clear hby
          have hT0 : ¬ (0 : Int) ≥ (T : Int) := by omega
          have HTP : Hid (TPart (zs ++ [⟨false, z1, by_⟩]) T (0)) := keepHid (HT.out.good (fun h => h.elim (fun q => absurd q (by simp)) (fun q => q HBY.out)) ⟨by show 0 ≤ z1; omega, by show z1 ≤ 100; omega, fun _ => by show 1 ≤ z1; omega⟩)
          obtain ⟨wq, hwq⟩ : ∃ wq, ws.alloc (.cells #[.bool false, .int .i64 z1, .int .u8 yb] 48) = wq := ⟨_, rfl⟩
          obtain ⟨ho2, hk2, hs2, hb2⟩ := HAP.out ws ⟨false, z1, by_⟩ (0) yb HYB.out HBS.out HTP.out wq hwq
          have HO2 := keepHid ho2
          have HK2 := keepHid hk2
          have HS2 := keepHid hs2
          have HB2 := keepHid hb2
          clear ho2 hk2 hs2 hb2
          go_wp2_with (at_builtin; go_loud (refine wpList_append_noise rfl _ _ rfl w.heap.size (.slice A1 k c1) k zs (by rfl) HO2.out ws.heap.size (by rfl) ⟨false, z1, by_⟩ HK2.out (by omega) HS2.out ?_))
          intro G cap w4 ho4 hb4
          have HO4 := keepHid ho4
          have HB4 := keepHid (HB2.out.trans hb4)
          clear ho4 hb4
          go_wp2
          go_roundw
          case rel => exact ⟨k + 1, 0, zs ++ [⟨false, z1, by_⟩], by omega, by go_num, rfl, HO4.out, HTP.out, HB4.out⟩
          case measure => simp [intOf]; omega
        · have hb0 : (yb == 0) = false := by
            have : by_.toNat ≠ 0 := fun e => hby (UInt8.toNat_inj.1 (by simpa using e))
            rw [← HYB.out]
            simp; omega
          have hb1 : (yb != 0) = true := by rw [bne, hb0]; rfl
          by_cases hbt : b + 1 < T
          · have hbi : ¬ ((b : Int) + 1) ≥ (T : Int) := by omega
            have HTP : Hid (TPart (zs ++ [⟨false, z1, by_⟩]) T (b + 1)) := keepHid (HT.out.bad ⟨by show 0 ≤ z1; omega, by show z1 ≤ 100; omega, fun _ => by show 1 ≤ z1; omega⟩ hbt)
            obtain ⟨wq, hwq⟩ : ∃ wq, ws.alloc (.cells #[.bool false, .int .i64 z1, .int .u8 yb] 48) = wq := ⟨_, rfl⟩
            obtain ⟨ho2, hk2, hs2, hb2⟩ := HAP.out ws ⟨false, z1, by_⟩ (b + 1) yb HYB.out HBS.out HTP.out wq hwq
            have HO2 := keepHid ho2
            have HK2 := keepHid hk2
            have HS2 := keepHid hs2
            have HB2 := keepHid hb2
            clear ho2 hk2 hs2 hb2
            go_wp2_with (at_builtin; go_loud (refine wpList_append_noise rfl _ _ rfl w.heap.size (.slice A1 k c1) k zs (by rfl) HO2.out ws.heap.size (by rfl) ⟨false, z1, by_⟩ HK2.out (by omega) HS2.out ?_))
            intro G cap w4 ho4 hb4
            have HO4 := keepHid ho4
            have HB4 := keepHid (HB2.out.trans hb4)
            clear ho4 hb4
            go_wp2
            go_roundw
            case rel => exact ⟨k + 1, b + 1, zs ++ [⟨false, z1, by_⟩], by omega, by go_num, by go_num, HO4.out, HTP.out, HB4.out⟩
            case measure => simp [intOf]; omega
          · have hbi : ((b : Int) + 1) ≥ (T : Int) := by omega
            have HTP : Hid (TPart (zs ++ [⟨false, 0, 0⟩]) T (0)) := keepHid (HT.out.good (fun h => h.elim (fun q => absurd q (by simp)) (fun q => q rfl)) ⟨by show (0 : Int) ≤ 0; omega, by show (0 : Int) ≤ 100; omega, fun h => absurd rfl h⟩)
            obtain ⟨wq, hwq⟩ : ∃ wq, wz.alloc (.cells #[.bool false, .int .i64 0, .int .u8 0] 48) = wq := ⟨_, rfl⟩
            obtain ⟨ho2, hk2, hs2, hb2⟩ := HAP.out wz ⟨false, 0, 0⟩ (0) 0 rfl HBZ.out HTP.out wq hwq
            have HO2 := keepHid ho2
            have HK2 := keepHid hk2
            have HS2 := keepHid hs2
            have HB2 := keepHid hb2
            clear ho2 hk2 hs2 hb2
            go_wp2_with (at_builtin; go_loud (refine wpList_append_noise rfl _ _ rfl w.heap.size (.slice A1 k c1) k zs (by rfl) HO2.out wz.heap.size (by rfl) ⟨false, 0, 0⟩ HK2.out (by omega) HS2.out ?_))
            intro G cap w4 ho4 hb4
            have HO4 := keepHid ho4
            have HB4 := keepHid (HB2.out.trans hb4)
            clear ho4 hb4
            go_wp2
            go_roundw
            case rel => exact ⟨k + 1, 0, zs ++ [⟨false, 0, 0⟩], by omega, by go_num, rfl, HO4.out, HTP.out, HB4.out⟩
            case measure => simp [intOf]; omega
      ·
        by_cases hbt : b + 1 < T
        · have hbi : ¬ ((b : Int) + 1) ≥ (T : Int) := by omega
          have HTP : Hid (TPart (zs ++ [⟨true, z1, by_⟩]) T (b + 1)) := keepHid (HT.out.bad ⟨by show 0 ≤ z1; omega, by show z1 ≤ 100; omega, fun _ => by show 1 ≤ z1; omega⟩ hbt)
          obtain ⟨wq, hwq⟩ : ∃ wq, ws.alloc (.cells #[.bool true, .int .i64 z1, .int .u8 yb] 48) = wq := ⟨_, rfl⟩
          obtain ⟨ho2, hk2, hs2, hb2⟩ := HAP.out ws ⟨true, z1, by_⟩ (b + 1) yb HYB.out HBS.out HTP.out wq hwq
          have HO2 := keepHid ho2
          have HK2 := keepHid hk2
          have HS2 := keepHid hs2
          have HB2 := keepHid hb2
          clear ho2 hk2 hs2 hb2
          go_wp2_with (at_builtin; go_loud (refine wpList_append_noise rfl _ _ rfl w.heap.size (.slice A1 k c1) k zs (by rfl) HO2.out ws.heap.size (by rfl) ⟨true, z1, by_⟩ HK2.out (by omega) HS2.out ?_))
          intro G cap w4 ho4 hb4
          have HO4 := keepHid ho4
          have HB4 := keepHid (HB2.out.trans hb4)
          clear ho4 hb4
          go_wp2
          go_roundw
          case rel => exact ⟨k + 1, b + 1, zs ++ [⟨true, z1, by_⟩], by omega, by go_num, by go_num, HO4.out, HTP.out, HB4.out⟩
          case measure => simp [intOf]; omega
        · have hbi : ((b : Int) + 1) ≥ (T : Int) := by omega
          have HTP : Hid (TPart (zs ++ [⟨false, 0, 0⟩]) T (0)) := keepHid (HT.out.good (fun h => h.elim (fun q => absurd q (by simp)) (fun q => q rfl)) ⟨by show (0 : Int) ≤ 0; omega, by show (0 : Int) ≤ 100; omega, fun h => absurd rfl h⟩)
          obtain ⟨wq, hwq⟩ : ∃ wq, wz.alloc (.cells #[.bool false, .int .i64 0, .int .u8 0] 48) = wq := ⟨_, rfl⟩
          obtain ⟨ho2, hk2, hs2, hb2⟩ := HAP.out wz ⟨false, 0, 0⟩ (0) 0 rfl HBZ.out HTP.out wq hwq
          have HO2 := keepHid ho2
          have HK2 := keepHid hk2
          have HS2 := keepHid hs2
          have HB2 := keepHid hb2
          clear ho2 hk2 hs2 hb2
          go_wp2_with (at_builtin; go_loud (refine wpList_append_noise rfl _ _ rfl w.heap.size (.slice A1 k c1) k zs (by rfl) HO2.out wz.heap.size (by rfl) ⟨false, 0, 0⟩ HK2.out (by omega) HS2.out ?_))
          intro G cap w4 ho4 hb4
          have HO4 := keepHid ho4
          have HB4 := keepHid (HB2.out.trans hb4)
          clear ho4 hb4
          go_wp2
          go_roundw
          case rel => exact ⟨k + 1, 0, zs ++ [⟨false, 0, 0⟩], by omega, by go_num, rfl, HO4.out, HTP.out, HB4.out⟩
          case measure => simp [intOf]; omega
    · obtain rfl : k = n := by omega
      have hi : ¬ (k : Int) < (k : Int) := by omega
      have HF : Hid (NewZ w (fun zs => TameN zs T) (.returned (.slice A1 k c1)) wr) := keepHid ⟨A1, k, c1, zs, rfl, ho.nzs (fun j z hz => by have := ht.at_ j z hz; omega) (by omega), hA1, ht.tame, hbel⟩
      clear ho ht hbel
      go_wp2_with fail
      go_ret
      exact HF.out
end Go.Proofs.Ytjbkhaoddababaa
