/-
  A sender is made.
-/
import Derived.Test.YtgdjopiejmdbnaaGreatDoorSender
import Derived.Test.YtgdjopiejmdbnaaGreatDoorBytesClone
import Derived.Test.YtgdjopiejmdbnaaGreatDoorBlockNumber
namespace Go.Proofs.YtgdjopiejmdbnaaGreatDoor
open Go.RowKit
set_option linter.unusedVariables false

theorem limited_any (z1 z2 : Int) (T W : Nat) (hT : min (max z1 1) 9 = (T : Int)) (hW : min (max z2 1) 99 = (W : Int)) (w : World) :
    Calls Tryz.prog 66 #[.agg #[.int .i64 z1, .int .i64 z2]] w fun e w' => e = .returned (.agg #[.int .i64 (T : Int), .int .i64 (W : Int)]) ∧ Below w.heap.size w w' := by
  obtain ⟨m1, hm1⟩ : ∃ m1, max z1 1 = m1 := ⟨_, rfl⟩
  obtain ⟨m2, hm2⟩ : ∃ m2, max z2 1 = m2 := ⟨_, rfl⟩
  rw [hm1] at hT
  rw [hm2] at hW
  have q1 := fun ts t W => max_z ts t z1 1 m1 hm1 W
  have q2 := fun ts t W => max_z ts t z2 1 m2 hm2 W
  have q3 := fun ts t W => min_z ts t m1 9 T hT W
  have q4 := fun ts t w => min_z ts t m2 99 W hW w
  have hb : Below w.heap.size w (((w.alloc (.cells #[.int .i64 z1, .int .i64 z2] 23)).alloc (.cells #[.int .i64 (T : Int), .int .i64 (W : Int)] 23))) := ((Below.refl _ _).alloc (Nat.le_refl _) _).alloc (by simp) _
  have HB := keepHid hb
  clear hb hT hW hm1 hm2
  go_enter Tryz.func66, Tryz.ntmps66
  go_wp2
  refine bodyPost_ret (v := .agg #[.int .i64 (T : Int), .int .i64 (W : Int)]) ?_ rfl ⟨rfl, HB.out⟩
  rw [res_cell rfl]
  go_simp

/-- A slice of blocks, wherever it lies. -/
def BlkS (w : World) (A : Option Addr) (n : Nat) (bl : Bks) : Prop :=
  bl.length = n ∧ ∀ (j : Nat) (p : UInt8 × List UInt8), bl[j]? = some p → ∃ ad Aj cj, A = some ad ∧ ad.block < w.heap.size ∧ w.cell? (ad.add (j * 2)) = some (.int .u8 (p.1.toNat : Int)) ∧ w.cell? (ad.add (j * 2 + 1)) = some (.slice Aj p.2.length cj) ∧ Bys w w.heap.size Aj p.2.length p.2
theorem BlkS.below {w w' : World} {A : Option Addr} {n : Nat} {bl : Bks} (h : BlkS w A n bl) (hb : Below w.heap.size w w') : BlkS w' A n bl :=
  ⟨h.1, fun j p hp => by
    obtain ⟨ad, Aj, cj, e1, e2, e3, e4, e5⟩ := h.2 j p hp
    exact ⟨ad, Aj, cj, e1, Nat.lt_of_lt_of_le e2 hb.size, (hb.cell (by rw [ad_block]; exact e2)).trans e3, (hb.cell (by rw [ad_block]; exact e2)).trans e4, (e5.below hb).more hb.size⟩⟩
/-- The first k blocks, copied into cells cs of block g. -/
def Cop (w : World) (g k : Nat) (cs : Array Value) (bl : Bks) : Prop :=
  ∀ (j : Nat) (p : UInt8 × List UInt8), j < k → bl[j]? = some p → ∃ A c, cs[j * 2]? = some (.int .u8 (p.1.toNat : Int)) ∧ cs[j * 2 + 1]? = some (.slice A p.2.length c) ∧ Bys w w.heap.size A p.2.length p.2 ∧ Apart (fun b => b ≤ g) A p.2.length
theorem Cop.turn {w w' : World} {g k : Nat} {cs : Array Value} {bl : Bks} (h : Cop w g k cs bl) (ht : Turn (fun b => b = g) w w') : Cop w' g k cs bl := fun j p hj hp => by
  obtain ⟨A, c, e1, e2, e3, e4⟩ := h j p hj hp
  exact ⟨A, c, e1, e2, (e3.turn ht (Nat.le_refl _) (e4.mono fun i hi => Nat.le_of_eq hi)).more ht.size, e4⟩
theorem Cop.push {w w' : World} {g k n : Nat} {cs : Array Value} {bl : Bks} (h : Cop w g k cs bl) (ht : Turn (fun b => b = g) w w') {num : UInt8} {d : List UInt8} {A : Option Addr} {c : Nat} (hk : bl[k]? = some (num, d)) (hsz : cs.size = n * 2) (hkn : k < n)
    (hb : Bys w' w'.heap.size A d.length d) (ha : Apart (fun b => b ≤ g) A d.length) : Cop w' g (k + 1) ((cs.setIfInBounds (k * 2) (.int .u8 (num.toNat : Int))).setIfInBounds (k * 2 + 1) (.slice A d.length c)) bl := fun j p hj hp => by
  by_cases hjk : j = k
  · subst hjk
    rw [hk] at hp
    obtain rfl := Option.some.inj hp
    refine ⟨A, c, ?_, ?_, hb, ha⟩
    · rw [Array.getElem?_setIfInBounds_ne (by omega), Array.getElem?_setIfInBounds_self_of_lt (by omega)]
    · rw [Array.getElem?_setIfInBounds_self_of_lt (by simp; omega)]
  · obtain ⟨A', c', e1, e2, e3, e4⟩ := h.turn ht j p (by omega) hp
    refine ⟨A', c', ?_, ?_, e3, e4⟩
    · rw [Array.getElem?_setIfInBounds_ne (by omega), Array.getElem?_setIfInBounds_ne (by omega)]; exact e1
    · rw [Array.getElem?_setIfInBounds_ne (by omega), Array.getElem?_setIfInBounds_ne (by omega)]; exact e2
def CopPost (w : World) (n : Nat) (bl : Bks) (e : Ending) (w' : World) : Prop :=
  ∃ g cs, e = .returned (.slice (some ⟨g, 0, none⟩) n n) ∧ w.heap.size ≤ g ∧ Blk w' g 50 cs ∧ cs.size = n * 2 ∧ Cop w' g n cs bl ∧ Below w.heap.size w w'
set_option maxRecDepth 100000 in
set_option maxHeartbeats 4000000 in
theorem copied_any (A : Option Addr) (n c : Nat) (bl : Bks) (w : World) (h : BlkS w A n bl) (hn : n * 32 ≤ 281474976710656) (hl : ∀ p ∈ bl, p.2.length ≤ 140737488355328) :
    Calls Tryz.prog 67 #[.slice A n c] w (CopPost w n bl) := by
  have hmk := run_mkn n hn w
  obtain ⟨w1, hw1⟩ : ∃ w1, w.alloc (.cells (nrow n) 50) = w1 := ⟨_, rfl⟩
  rw [hw1] at hmk
  have hk1 : Blk w1 w.heap.size 50 (nrow n) := by rw [← hw1]; exact Blk.new w _ _
  have hb1 : Below w.heap.size w w1 := by rw [← hw1]; exact (Below.refl _ _).alloc (Nat.le_refl _) _
  have hs1 : w1.heap.size = w.heap.size + 1 := by rw [← hw1]; simp
  have H := keepHid h
  have HL := keepHid hl
  have HK1 := keepHid hk1
  have HB1 := keepHid hb1
  have HLEN := keepHid h.1
  have hn2 : n ≤ 9223372036854775807 := by omega
  clear h hl hk1 hb1 hw1
  go_enter Tryz.func67, Tryz.ntmps67
  go_wp2
  go_loopw [11] (fun i wr => ∃ (k : Nat) (cs : Array Value), k ≤ n ∧ i = .int .i64 k ∧ Blk wr w.heap.size 50 cs ∧ cs.size = n * 2 ∧ Cop wr w.heap.size k cs bl ∧ w.heap.size + 1 ≤ wr.heap.size ∧ Below w.heap.size w wr) (fun i _ => n - (intOf i).toNat)
  case atStart => exact ⟨0, nrow n, Nat.zero_le _, rfl, HK1.out, nrow_size n, fun j p hj => absurd hj (by omega), by omega, HB1.out⟩
  case round =>
    obtain ⟨k, cs, hk, rfl, hbk, hcs, hcop, hsz, hbel⟩ := hrel
    have HK := keepHid hbk
    have HCS := keepHid hcs
    have HN := keepHid hcop
    have HB := keepHid hbel
    by_cases hlt : k < n
    · obtain ⟨p, hrow⟩ : ∃ p, bl[k]? = some p := ⟨_, List.getElem?_eq_getElem (by rw [HLEN.out]; exact hlt)⟩
      obtain ⟨num, d⟩ := p
      obtain ⟨ad, Ak, ck, rfl, had, hc0, hc1, hby⟩ := H.out.2 k _ hrow
      simp only at hc0 hc1 hby
      have had2 : ad.block < wr.heap.size := by have := hbel.size; omega
      have d0 : wr.cell? (ad.add (k * 2)) = some (.int .u8 (num.toNat : Int)) := (hbel.cell (by rw [ad_block]; exact had)).trans hc0
      have d1 : wr.cell? (ad.add (k * 2 + 1)) = some (.slice Ak d.length ck) := (hbel.cell (by rw [ad_block]; exact had)).trans hc1
      have d1' : wr.cell? ⟨(ad.add (k * 2)).block, (ad.add (k * 2)).off + 1, none⟩ = some (.slice Ak d.length ck) := by
        have e1 : (⟨(ad.add (k * 2)).block, (ad.add (k * 2)).off + 1, none⟩ : Addr) = ad.add (k * 2 + 1) := by rw [← ad_add, Addr.add_succ' (ad.add (k * 2)) 0]
        rw [e1]; exact d1
      have HBY := keepHid ((hby.below hbel).more hbel.size)
      have HROW := keepHid hrow
      have hbl : d.length ≤ 140737488355328 := HL.out _ (List.mem_of_getElem? hrow)
      obtain ⟨nb, hnb⟩ : ∃ nb, d.length = nb := ⟨_, rfl⟩
      rw [hnb] at d1 d1' hbl
      have HNB := keepHid hnb
      clear hbk hcs hcop hbel hrow hc0 hc1 hby hnb
      obtain ⟨wt, hwt⟩ : ∃ wt, wr.alloc (.cells #[.int .u8 (num.toNat : Int), .slice Ak nb ck] 50) = wt := ⟨_, rfl⟩
      have hbt : Below wr.heap.size wr wt := by rw [← hwt]; exact (Below.refl _ _).alloc (Nat.le_refl _) _
      have hkt : Blk wt wr.heap.size 50 #[.int .u8 (num.toNat : Int), .slice Ak nb ck] := by rw [← hwt]; exact Blk.new wr _ _
      have hst : wt.heap.size = wr.heap.size + 1 := by rw [← hwt]; simp
      have t0 : wt.cell? ⟨wr.heap.size, 0, none⟩ = some (.int .u8 (num.toNat : Int)) := hkt.cell 0
      have t1 : wt.cell? ⟨wr.heap.size, 1, none⟩ = some (.slice Ak nb ck) := hkt.cell 1
      have HBT := keepHid hbt
      have HKT := keepHid hkt
      have HST := keepHid hst
      have HCL : Hid (∀ w', Below wt.heap.size wt w' → Calls Tryz.prog 44 #[.slice Ak nb ck] w' fun e w2 => (∃ A2 c2, e = .returned (.slice A2 nb c2) ∧ OwnB w2 wt.heap.size 5 (.slice A2 nb c2) nb d ∧ nb ≤ c2 ∧ c2 ≤ 9223372036854775807 ∧ Below wt.heap.size wt w2)) := keepHid (fun w' hb => by
        refine (clone_any Ak nb ck wt.heap.size d w' (by rw [← HNB.out]; exact ((HBY.out.below HBT.out).more HBT.out.size).below hb) hbl).mono ?_
        rintro e w2 ⟨A2, c2, rfl, ho2, h1, h2, hb2⟩
        rw [HNB.out] at ho2 h1
        exact ⟨A2, c2, by rw [HNB.out], own_lower ho2 hb.size, h1, h2, hb.trans (hb2.mono hb.size)⟩)
      have HD : Hid (Below wt.heap.size wt wt.drew) := keepHid (Below.drew (Below.refl _ _))
      have hlt0 : k * 2 < cs.size := by rw [HCS.out]; omega
      have hlt1 : k * 2 + 1 < cs.size := by rw [HCS.out]; omega
      have HG : Hid (∀ w2, Below wt.heap.size wt w2 → ∃ u0 u1, w2.cell? ⟨w.heap.size, k * 2, none⟩ = some u0 ∧ w2.cell? ⟨w.heap.size, k * 2 + 1, none⟩ = some u1 ∧ w2.frozen? ⟨w.heap.size, k * 2, none⟩ = false ∧ w2.frozen? ⟨w.heap.size, k * 2 + 1, none⟩ = false ∧
          w2.cell? ⟨wr.heap.size, 0, none⟩ = some (.int .u8 (num.toNat : Int))) := keepHid (fun w2 hb => by
        have hbk2 := ((HK.out.below HBT.out (by omega)).below hb (by rw [HST.out]; omega))
        have g0 := hbk2.cell (k * 2)
        have g1 := hbk2.cell (k * 2 + 1)
        rw [Array.getElem?_eq_getElem hlt0] at g0
        rw [Array.getElem?_eq_getElem hlt1] at g1
        exact ⟨_, _, g0, g1, hbk2.frozen _, hbk2.frozen _, (HKT.out.below hb (by rw [HST.out]; omega)).cell 0⟩)
      have HFIN : Hid (∀ w2 A2 c2, OwnB w2 wt.heap.size 5 (.slice A2 nb c2) nb d → Below wt.heap.size wt w2 → ∃ (j : Nat) (cs' : Array Value), j ≤ n ∧ Value.int .i64 ((k : Int) + 1) = .int .i64 j ∧ Blk ((w2.setCell ⟨w.heap.size, k * 2, none⟩ (.int .u8 (num.toNat : Int))).setCell ⟨w.heap.size, k * 2 + 1, none⟩ (.slice A2 nb c2)) w.heap.size 50 cs' ∧ cs'.size = n * 2 ∧
          Cop ((w2.setCell ⟨w.heap.size, k * 2, none⟩ (.int .u8 (num.toNat : Int))).setCell ⟨w.heap.size, k * 2 + 1, none⟩ (.slice A2 nb c2)) w.heap.size j cs' bl ∧ w.heap.size + 1 ≤ ((w2.setCell ⟨w.heap.size, k * 2, none⟩ (.int .u8 (num.toNat : Int))).setCell ⟨w.heap.size, k * 2 + 1, none⟩ (.slice A2 nb c2)).heap.size ∧
          Below w.heap.size w ((w2.setCell ⟨w.heap.size, k * 2, none⟩ (.int .u8 (num.toNat : Int))).setCell ⟨w.heap.size, k * 2 + 1, none⟩ (.slice A2 nb c2)) ∧ j = k + 1) := keepHid (fun w2 A2 c2 ho hb => by
        have hbk2 := ((HK.out.below HBT.out (by omega)).below hb (by rw [HST.out]; omega))
        have b2 : Below wr.heap.size wr w2 := HBT.out.trans (hb.mono HBT.out.size)
        have tt : Turn (fun b => b = w.heap.size) wr ((w2.setCell ⟨w.heap.size, k * 2, none⟩ (.int .u8 (num.toNat : Int))).setCell ⟨w.heap.size, k * 2 + 1, none⟩ (.slice A2 nb c2)) := turnAt _ _ (turnAt _ _ (Turn.of_below b2))
        have hap2 : Apart (fun b => b ≤ w.heap.size) A2 d.length := by rw [HNB.out]; exact apart_own ho (fun i hi => by rw [HST.out]; omega)
        have hap : Apart (fun b => b = w.heap.size) A2 d.length := hap2.mono fun i hi => Nat.le_of_eq hi
        have hby : Bys ((w2.setCell ⟨w.heap.size, k * 2, none⟩ (.int .u8 (num.toNat : Int))).setCell ⟨w.heap.size, k * 2 + 1, none⟩ (.slice A2 nb c2)) ((w2.setCell ⟨w.heap.size, k * 2, none⟩ (.int .u8 (num.toNat : Int))).setCell ⟨w.heap.size, k * 2 + 1, none⟩ (.slice A2 nb c2)).heap.size A2 d.length d := by
          have t2 : Turn (fun b => b = w.heap.size) w2 ((w2.setCell ⟨w.heap.size, k * 2, none⟩ (.int .u8 (num.toNat : Int))).setCell ⟨w.heap.size, k * 2 + 1, none⟩ (.slice A2 nb c2)) := turnAt _ _ (turnAt _ _ (Turn.refl _ _))
          rw [HNB.out]
          rw [HNB.out] at hap
          exact ((ho.bys (by omega)).turn t2 (Nat.le_refl _) hap).more t2.size
        refine ⟨k + 1, _, by omega, by go_num, (hbk2.put (k * 2) _).put (k * 2 + 1) _, by simpa using HCS.out, ?_, ?_, ?_, rfl⟩
        · rw [← HNB.out]
          rw [← HNB.out] at tt hby
          exact HN.out.push tt HROW.out HCS.out hlt hby hap2
        · have := b2.size; simp; omega
        · exact ((HB.out.trans (b2.mono HB.out.size)).setCell (Nat.le_refl _) _).setCell (Nat.le_refl _) _)
      clear hbt hkt hst hlt0 hlt1
      have i1 : (k : Int) < (n : Int) := by omega
      go_upto_region 5 with fail
      clear hwt d0 d1 d1'
      go_region_with (go_at_call 44; (with_reducible refine (HCL.out _ HD.out).mono ?_); rintro e w2 ⟨A2, c2, rfl, ho2, hc1, hc2, hb2⟩; have HO2 := keepHid ho2; have HB2 := keepHid hb2; obtain ⟨u0, u1, g0, g1, gf0, gf1, t0'⟩ := HG.out _ hb2; clear ho2 hb2)
      all_goals
        clear t0 t1
        go_wp2
        go_roundw
        case rel =>
          obtain ⟨j, cs', j1, j2, j3, j4, j5, j6, j7, j8⟩ := HFIN.out _ _ _ HO2.out HB2.out
          exact ⟨j, cs', j1, j2, j3, j4, j5, j6, j7⟩
        case measure => simp [intOf]; omega
    · obtain rfl : k = n := by omega
      clear hbk hcs hcop hbel
      go_wp2
      go_ret
      exact ⟨w.heap.size, cs, rfl, Nat.le_refl _, HK.out, HCS.out, HN.out, HB.out⟩

/-- A sender, whose struct and blocks lie below Hb. -/
structure SndH (w : World) (Hb G : Nat) (bl : Bks) (T W : Nat) (cl : Bool) (s : Sd) : Prop where
  mem : ∃ v, Blk w G 113 (sndC T W cl v s) ∧ (s.ph < 3 → LeftV w Hb G bl v s.k)
  ltG : G < Hb
  ok : Ok bl T W s
  t1 : 1 ≤ T
  t9 : T ≤ 9
  w1 : 1 ≤ W
  w99 : W ≤ 99
  few : bl.length ≤ 8796093022208
theorem SndH.lt {w : World} {Hb G : Nat} {bl : Bks} {T W : Nat} {cl : Bool} {s : Sd} (h : SndH w Hb G bl T W cl s) : G < w.heap.size := by
  obtain ⟨v, h, _⟩ := h.mem
  exact h.lt
/-- What turns at or above Hb is no part of the sender. -/
theorem SndH.turns {S : Nat → Prop} {w w' : World} {Hb G : Nat} {bl : Bks} {T W : Nat} {cl : Bool} {s : Sd} (h : SndH w Hb G bl T W cl s) (ht : Turn S w w') (hS : ∀ i, S i → Hb ≤ i) : SndH w' Hb G bl T W cl s := by
  obtain ⟨⟨v, h1, h2⟩, h3, h4, h5, h6, h7, h8, h9⟩ := h
  exact ⟨⟨v, (ht.block G h1.lt (fun hs => by have := hS G hs; omega)).trans h1, fun h => (h2 h).turns ht (fun i hi => .inr (hS i hi))⟩, h3, h4, h5, h6, h7, h8, h9⟩
theorem SndH.below {w w' : World} {Hb G : Nat} {bl : Bks} {T W : Nat} {cl : Bool} {s : Sd} (h : SndH w Hb G bl T W cl s) (hb : Below w.heap.size w w') : SndH w' Hb G bl T W cl s :=
  h.turns (S := fun _ => False) (Turn.of_below hb) (fun i hi => hi.elim)
def OutPostH (Hb G : Nat) (bl : Bks) (T W : Nat) (cl : Bool) (r : List UInt8 × Sd) (w : World) (e : Ending) (w' : World) : Prop :=
  ∃ A c, e = .returned (.slice A r.1.length c) ∧ OwnB w' w.heap.size 5 (.slice A r.1.length c) r.1.length r.1 ∧ r.1.length ≤ c ∧ c ≤ 9223372036854775807 ∧ Turn (fun b => b = G) w w' ∧ SndH w' Hb G bl T W cl r.2
theorem put_sndH {w : World} {Hb G : Nat} {bl : Bks} {T W : Nat} {cl : Bool} {s : Sd} (h : SndH w Hb G bl T W cl s) (c : UInt8) :
    Calls Tryz.prog 49 #[.pointer (some ⟨G, 0, none⟩), .int .u8 (c.toNat : Int)] w (OutPostH Hb G bl T W cl (putS bl T W cl s c) w) := by
  obtain ⟨⟨v, h1, h2⟩, h0, h3, h4, h5, h6, h7, h8⟩ := h
  refine (put_any h1 h2 h3 h5 h8 c).mono ?_
  rintro e w' ⟨A, c', v', e1, e2, e3, e4, e5, e6, e7⟩
  exact ⟨A, c', e1, e2, e3, e4, e5, ⟨v', e6, e7⟩, h0, ok_put cl c h4 h6 h3, h4, h5, h6, h7, h8⟩
theorem tick_sndH {w : World} {Hb G : Nat} {bl : Bks} {T W : Nat} {cl : Bool} {s : Sd} (h : SndH w Hb G bl T W cl s) :
    Calls Tryz.prog 47 #[.pointer (some ⟨G, 0, none⟩)] w (OutPostH Hb G bl T W cl (tickS bl T W s) w) := by
  obtain ⟨⟨v, h1, h2⟩, h0, h3, h4, h5, h6, h7, h8⟩ := h
  refine (tick_any h1 h2 h3 h5 h7).mono ?_
  rintro e w' ⟨A, c', v', e1, e2, e3, e4, e5, e6, e7⟩
  exact ⟨A, c', e1, e2, e3, e4, e5, ⟨v', e6, e7⟩, h0, ok_tick h6 h3, h4, h5, h6, h7, h8⟩
theorem done_sndH {w : World} {Hb G : Nat} {bl : Bks} {T W : Nat} {cl : Bool} {s : Sd} (h : SndH w Hb G bl T W cl s) :
    Calls Tryz.prog 71 #[.pointer (some ⟨G, 0, none⟩)] w fun e w' => e = .returned (.tuple #[.bool (s.ph == 3), errV s.err]) ∧ w' = w.drew := by
  obtain ⟨⟨v, h1, h2⟩, _⟩ := h
  exact done_any h1
/-- A sender, wherever its blocks lie. -/
def Snd (w : World) (G : Nat) (bl : Bks) (T W : Nat) (cl : Bool) (s : Sd) : Prop := ∃ Hb, SndH w Hb G bl T W cl s
theorem Snd.lt {w : World} {G : Nat} {bl : Bks} {T W : Nat} {cl : Bool} {s : Sd} (h : Snd w G bl T W cl s) : G < w.heap.size := by obtain ⟨_, h⟩ := h; exact h.lt
theorem Snd.ok {w : World} {G : Nat} {bl : Bks} {T W : Nat} {cl : Bool} {s : Sd} (h : Snd w G bl T W cl s) : Ok bl T W s := by obtain ⟨_, h⟩ := h; exact h.ok
theorem Snd.below {w w' : World} {G : Nat} {bl : Bks} {T W : Nat} {cl : Bool} {s : Sd} (h : Snd w G bl T W cl s) (hb : Below w.heap.size w w') : Snd w' G bl T W cl s := by obtain ⟨_, h⟩ := h; exact ⟨_, h.below hb⟩
theorem Snd.drew {w : World} {G : Nat} {bl : Bks} {T W : Nat} {cl : Bool} {s : Sd} (h : Snd w G bl T W cl s) : Snd w.drew G bl T W cl s := h.below (Below.drew (Below.refl _ _))
def OutPost (G : Nat) (bl : Bks) (T W : Nat) (cl : Bool) (r : List UInt8 × Sd) (w : World) (e : Ending) (w' : World) : Prop :=
  ∃ A c, e = .returned (.slice A r.1.length c) ∧ OwnB w' w.heap.size 5 (.slice A r.1.length c) r.1.length r.1 ∧ r.1.length ≤ c ∧ c ≤ 9223372036854775807 ∧ Turn (fun b => b = G) w w' ∧ Snd w' G bl T W cl r.2
theorem put_snd {w : World} {G : Nat} {bl : Bks} {T W : Nat} {cl : Bool} {s : Sd} (h : Snd w G bl T W cl s) (c : UInt8) :
    Calls Tryz.prog 49 #[.pointer (some ⟨G, 0, none⟩), .int .u8 (c.toNat : Int)] w (OutPost G bl T W cl (putS bl T W cl s c) w) := by
  obtain ⟨_, h⟩ := h
  exact (put_sndH h c).mono fun e w' ⟨A, c', e1, e2, e3, e4, e5, e6⟩ => ⟨A, c', e1, e2, e3, e4, e5, _, e6⟩
theorem tick_snd {w : World} {G : Nat} {bl : Bks} {T W : Nat} {cl : Bool} {s : Sd} (h : Snd w G bl T W cl s) :
    Calls Tryz.prog 47 #[.pointer (some ⟨G, 0, none⟩)] w (OutPost G bl T W cl (tickS bl T W s) w) := by
  obtain ⟨_, h⟩ := h
  exact (tick_sndH h).mono fun e w' ⟨A, c', e1, e2, e3, e4, e5, e6⟩ => ⟨A, c', e1, e2, e3, e4, e5, _, e6⟩
theorem done_snd {w : World} {G : Nat} {bl : Bks} {T W : Nat} {cl : Bool} {s : Sd} (h : Snd w G bl T W cl s) :
    Calls Tryz.prog 71 #[.pointer (some ⟨G, 0, none⟩)] w fun e w' => e = .returned (.tuple #[.bool (s.ph == 3), errV s.err]) ∧ w' = w.drew := by
  obtain ⟨_, h⟩ := h
  exact done_sndH h
/-- A sender just made, whose memory lies between L and Hb. -/
structure SndNew (w : World) (L Hb G : Nat) (bl : Bks) (T W : Nat) (cl crc : Bool) : Prop where
  mem : ∃ B A, Blk w G 113 (sndC T W cl (.slice A bl.length bl.length) (newS W crc)) ∧ (0 < bl.length → A = some ⟨B, 0, none⟩) ∧ B ≠ G ∧ L ≤ B ∧ B < Hb ∧
    ∀ (j : Nat) (p : UInt8 × List UInt8), bl[j]? = some p → ∃ A c, w.cell? ⟨B, j * 2, none⟩ = some (.int .u8 (p.1.toNat : Int)) ∧ w.cell? ⟨B, j * 2 + 1, none⟩ = some (.slice A p.2.length c) ∧ Bys w Hb A p.2.length p.2 ∧ Apart (fun b => b = G) A p.2.length ∧ Apart (fun b => b < L) A p.2.length
  ltG : G < Hb
  leG : L ≤ G
  le : Hb ≤ w.heap.size
  t1 : 1 ≤ T
  t9 : T ≤ 9
  w1 : 1 ≤ W
  w99 : W ≤ 99
  few : bl.length ≤ 8796093022208
theorem SndNew.snd {w : World} {L Hb G : Nat} {bl : Bks} {T W : Nat} {cl crc : Bool} (h : SndNew w L Hb G bl T W cl crc) : SndH w Hb G bl T W cl (newS W crc) := by
  obtain ⟨⟨B, A, h1, h2, h3, h4, h5, h6⟩, a1, a2, a3, a4, a5, a6, a7, a8⟩ := h
  refine ⟨⟨_, h1, fun _ => ⟨B, A, rfl, fun hk => ?_, h3, h5, a3, fun j p _ hp => ?_⟩⟩, a1, ok_new bl crc a4 a6, a4, a5, a6, a7, a8⟩
  · rw [h2 hk]; simp [newS]
  · obtain ⟨A', c', f1, f2, f3, f4, _⟩ := h6 j p hp
    exact ⟨A', c', f1, f2, f3, f4⟩
theorem SndNew.turns {S : Nat → Prop} {w w' : World} {L Hb G : Nat} {bl : Bks} {T W : Nat} {cl crc : Bool} (h : SndNew w L Hb G bl T W cl crc) (ht : Turn S w w') (hS : ∀ i, S i → i < L ∨ Hb ≤ i) : SndNew w' L Hb G bl T W cl crc := by
  obtain ⟨⟨B, A, h1, h2, h3, h4, h5, h6⟩, a1, a2, a3, a4, a5, a6, a7, a8⟩ := h
  have hout : ∀ i, L ≤ i → i < Hb → ¬ S i := fun i g1 g2 hs => by rcases hS i hs with e | e <;> omega
  have hb := ht.block B (Nat.lt_of_lt_of_le h5 a3) (hout B h4 h5)
  refine ⟨⟨B, A, ht.blk h1 (hout G a2 a1), h2, h3, h4, h5, fun j p hp => ?_⟩, a1, a2, Nat.le_trans a3 ht.size, a4, a5, a6, a7, a8⟩
  obtain ⟨A', c', f1, f2, f3, f4, f5⟩ := h6 j p hp
  refine ⟨A', c', (World.cell?_of_block (a := ⟨B, j * 2, none⟩) hb).trans f1, (World.cell?_of_block (a := ⟨B, j * 2 + 1, none⟩) hb).trans f2, f3.turn ht a3 (fun hn ad e hs => ?_), f4, f5⟩
  obtain ⟨ad', _, e', hlt, _⟩ := f3.at_ hn
  rw [e] at e'
  obtain rfl := Option.some.inj e'
  have hl : ¬ ad.block < L := f5 hn ad e
  exact hout _ (by omega) hlt hs
theorem SndNew.below {w w' : World} {L Hb G : Nat} {bl : Bks} {T W : Nat} {cl crc : Bool} (h : SndNew w L Hb G bl T W cl crc) (hb : Below w.heap.size w w') : SndNew w' L Hb G bl T W cl crc := h.turns (S := fun _ => False) (Turn.of_below hb) (fun _ h => h.elim)
def OfNPost (w : World) (bl : Bks) (T W : Nat) (cl crc : Bool) (e : Ending) (w' : World) : Prop :=
  ∃ G, e = .returned (.pointer (some ⟨G, 0, none⟩)) ∧ SndNew w' w.heap.size w'.heap.size G bl T W cl crc ∧ Below w.heap.size w w'
def OfHPost (w : World) (bl : Bks) (T W : Nat) (cl crc : Bool) (e : Ending) (w' : World) : Prop :=
  ∃ G, e = .returned (.pointer (some ⟨G, 0, none⟩)) ∧ w.heap.size ≤ G ∧ SndH w' w'.heap.size G bl T W cl (newS W crc) ∧ Below w.heap.size w w'
def OfSPost (w : World) (bl : Bks) (T W : Nat) (cl crc : Bool) (e : Ending) (w' : World) : Prop :=
  ∃ G, e = .returned (.pointer (some ⟨G, 0, none⟩)) ∧ w.heap.size ≤ G ∧ Snd w' G bl T W cl (newS W crc) ∧ Below w.heap.size w w'
set_option maxRecDepth 100000 in
set_option maxHeartbeats 4000000 in
theorem of_new (z1 z2 : Int) (A : Option Addr) (n c : Nat) (bl : Bks) (crc cl : Bool) (w : World) (h : BlkS w A n bl) (hn : n * 32 ≤ 281474976710656) (hl : ∀ p ∈ bl, p.2.length ≤ 140737488355328) :
    Calls Tryz.prog 41 #[.agg #[.int .i64 z1, .int .i64 z2], .slice A n c, .bool crc, .bool cl] w (OfNPost w bl (capZ z1 9) (capZ z2 99) cl crc) := by
  obtain ⟨hT, hT1, hT9⟩ := capZ_is z1 9 (by omega)
  obtain ⟨hW, hW1, hW9⟩ := capZ_is z2 99 (by omega)
  generalize capZ z1 9 = T at *
  generalize capZ z2 99 = W at *
  have hnn : n ≤ 8796093022208 := by omega
  obtain ⟨w1, hw1⟩ : ∃ w1, w.alloc (.cells #[.int .i64 z1, .int .i64 z2] 23) = w1 := ⟨_, rfl⟩
  have hb1 : Below w.heap.size w w1 := by rw [← hw1]; exact (Below.refl _ _).alloc (Nat.le_refl _) _
  have hk1 : Blk w1 w.heap.size 23 #[.int .i64 z1, .int .i64 z2] := by rw [← hw1]; exact Blk.new w _ _
  have a0 : w1.cell? ⟨w.heap.size, 0, none⟩ = some (.int .i64 z1) := hk1.cell 0
  have a1 : w1.cell? ⟨w.heap.size, 1, none⟩ = some (.int .i64 z2) := hk1.cell 1
  have HLM : Hid (Calls Tryz.prog 66 #[.agg #[.int .i64 z1, .int .i64 z2]] w1 fun e w' => e = .returned (.agg #[.int .i64 (T : Int), .int .i64 (W : Int)]) ∧ Below w1.heap.size w1 w') := keepHid (limited_any z1 z2 T W hT hW w1)
  have HB1 := keepHid hb1
  have HK1 := keepHid hk1
  have H := keepHid h
  have HL := keepHid hl
  clear h hl hb1 hk1 hT hW
  go_enter Tryz.func41, Tryz.ntmps41
  go_wp2_with fail
  (with_reducible refine HLM.out.mono ?_)
  rintro e w2 ⟨rfl, hb2⟩
  have hk2 := HK1.out.below hb2 HK1.out.lt
  have b0 : w2.cell? ⟨w.heap.size, 0, none⟩ = some (.int .i64 z1) := hk2.cell 0
  have b1 : w2.cell? ⟨w.heap.size, 1, none⟩ = some (.int .i64 z2) := hk2.cell 1
  have bf := hk2.frozen
  have HK2 := keepHid hk2
  have HB2 := keepHid (HB1.out.trans (hb2.mono HB1.out.size))
  clear hk2 hb2 hw1 a0 a1
  obtain ⟨w3, hw3⟩ : ∃ w3, (w2.setCell ⟨w.heap.size, 0, none⟩ (.int .i64 (T : Int))).setCell ⟨w.heap.size, 1, none⟩ (.int .i64 (W : Int)) = w3 := ⟨_, rfl⟩
  have hk3 : Blk w3 w.heap.size 23 #[.int .i64 (T : Int), .int .i64 (W : Int)] := by rw [← hw3]; exact (HK2.out.put 0 _).put 1 _
  have hb3 : Below w.heap.size w w3 := by rw [← hw3]; exact (HB2.out.setCell (Nat.le_refl _) _).setCell (Nat.le_refl _) _
  have d0 : w3.cell? ⟨w.heap.size, 0, none⟩ = some (.int .i64 (T : Int)) := hk3.cell 0
  have d1 : w3.cell? ⟨w.heap.size, 1, none⟩ = some (.int .i64 (W : Int)) := hk3.cell 1
  have HK3 := keepHid hk3
  have HB3 := keepHid hb3
  have HD : Hid (Below w3.heap.size w3 w3.drew) := keepHid (Below.drew (Below.refl _ _))
  have HCP : Hid (∀ w', Below w3.heap.size w3 w' → Calls Tryz.prog 67 #[.slice A n c] w' fun e w5 => ∃ g, e = .returned (.slice (some ⟨g, 0, none⟩) n n) ∧ w5.cell? ⟨w.heap.size, 0, none⟩ = some (.int .i64 (T : Int)) ∧ w5.cell? ⟨w.heap.size, 1, none⟩ = some (.int .i64 (W : Int)) ∧
      OfNPost w bl T W cl crc (.returned (.pointer (some ⟨w5.heap.size, 0, none⟩))) (w5.alloc (.cells #[.int .i64 (T : Int), .int .i64 (W : Int), .slice (some ⟨g, 0, none⟩) n n, .bool crc, .bool cl, .int .i64 0, .nilIface, .int .i64 1, .int .i64 (W : Int), .int .i64 0, .bool false] 113))) := keepHid (fun w' hb => by
    refine (copied_any A n c bl w' (H.out.below (HB3.out.trans (hb.mono HB3.out.size))) hn HL.out).mono ?_
    rintro e w5 ⟨g, cs, rfl, e1, e2, e3, e4, e5⟩
    have b5 : Below w3.heap.size w3 w5 := hb.trans (e5.mono hb.size)
    have k5 := HK3.out.below b5 HK3.out.lt
    have w5b : Below w.heap.size w w5 := HB3.out.trans (b5.mono HB3.out.size)
    have hlen := H.out.1
    have hsz := hb.size
    have hsz2 := HB3.out.size
    refine ⟨g, rfl, k5.cell 0, k5.cell 1, w5.heap.size, rfl, ⟨⟨g, some ⟨g, 0, none⟩, by rw [hlen]; exact Blk.new w5 _ _, fun _ => rfl, ?_, ?_, ?_, ?_⟩, by simp, w5b.size, Nat.le_refl _, hT1, hT9, hW1, hW9, by rw [hlen]; exact hnn⟩, w5b.alloc w5b.size _⟩
    · have := e2.lt; omega
    · omega
    · have := e2.lt; simp; omega
    · intro j p hp
      have hj : j < n := by
        rcases Nat.lt_or_ge j bl.length with hl | hl
        · omega
        · rw [List.getElem?_eq_none hl] at hp; cases hp
      obtain ⟨A', c', f1, f2, f3, f4⟩ := e4 j p hj hp
      have al := e2.alloc (.cells #[.int .i64 (T : Int), .int .i64 (W : Int), .slice (some ⟨g, 0, none⟩) n n, .bool crc, .bool cl, .int .i64 0, .nilIface, .int .i64 1, .int .i64 (W : Int), .int .i64 0, .bool false] 113)
      refine ⟨A', c', (al.cell _).trans f1, (al.cell _).trans f2, (f3.alloc (Nat.le_refl _) _).more (by simp), f3.apart (fun i hi => by omega), f4.mono (fun i hi => ?_)⟩
      have hi' : i < w.heap.size := hi
      show i ≤ g
      omega)
  clear hk3 hb3 hT1 hT9 hW1 hW9
  go_upto_region 2 with fail
  clear hw3 b0 b1 bf
  go_region_with (go_at_call 67; (with_reducible refine (HCP.out _ HD.out).mono ?_); rintro e w5 ⟨g, rfl, c0, c1, hp5⟩; have HP5 := keepHid hp5; clear hp5)
  all_goals
    go_wp2
    go_ret
    exact HP5.out
theorem of_sndH (z1 z2 : Int) (A : Option Addr) (n c : Nat) (bl : Bks) (crc cl : Bool) (w : World) (h : BlkS w A n bl) (hn : n * 32 ≤ 281474976710656) (hl : ∀ p ∈ bl, p.2.length ≤ 140737488355328) :
    Calls Tryz.prog 41 #[.agg #[.int .i64 z1, .int .i64 z2], .slice A n c, .bool crc, .bool cl] w (OfHPost w bl (capZ z1 9) (capZ z2 99) cl crc) :=
  (of_new z1 z2 A n c bl crc cl w h hn hl).mono fun e w' ⟨G, h1, h2, h3⟩ => ⟨G, h1, h2.leG, h2.snd, h3⟩
theorem of_snd (z1 z2 : Int) (A : Option Addr) (n c : Nat) (bl : Bks) (crc cl : Bool) (w : World) (h : BlkS w A n bl) (hn : n * 32 ≤ 281474976710656) (hl : ∀ p ∈ bl, p.2.length ≤ 140737488355328) :
    Calls Tryz.prog 41 #[.agg #[.int .i64 z1, .int .i64 z2], .slice A n c, .bool crc, .bool cl] w (OfSPost w bl (capZ z1 9) (capZ z2 99) cl crc) :=
  (of_sndH z1 z2 A n c bl crc cl w h hn hl).mono fun e w' ⟨G, h1, h2, h3, h4⟩ => ⟨G, h1, h2, ⟨_, h3⟩, h4⟩


/-- Rows of data as blocks: numbered from 1 on. -/
def numb (rows : List (List UInt8)) : Bks := rows.mapIdx fun j d => (UInt8.ofNat (j + 1), d)
theorem numb_len (rows : List (List UInt8)) : (numb rows).length = rows.length := by simp [numb]
theorem numb_at {rows : List (List UInt8)} {j : Nat} {p : UInt8 × List UInt8} (h : (numb rows)[j]? = some p) : rows[j]? = some p.2 ∧ p.1 = UInt8.ofNat (j + 1) := by
  unfold numb at h
  rw [List.getElem?_mapIdx] at h
  obtain ⟨d, hd, rfl⟩ := Option.map_eq_some_iff.1 h
  exact ⟨hd, rfl⟩
theorem blkS_num {w : World} {g n : Nat} {cs : Array Value} {rows : List (List UInt8)} {V : Nat → Value} (hb : Blk w g 50 cs) (hn : rows.length = n) (hN : Num w (g + 1) n cs rows V) : BlkS w (some ⟨g, 0, none⟩) n (numb rows) := by
  refine ⟨by rw [numb_len, hn], fun j p hp => ?_⟩
  obtain ⟨h1, h2⟩ := numb_at hp
  have hj : j < n := by
    rcases Nat.lt_or_ge j rows.length with hl | hl
    · omega
    · rw [List.getElem?_eq_none hl] at h1; cases h1
  obtain ⟨A, c, e1, e2, e3, e4, e5, e6, _⟩ := hN j p.2 hj h1
  have ea : ∀ i, (⟨g, 0, none⟩ : Addr).add i = ⟨g, i, none⟩ := fun i => by unfold Addr.add; split <;> simp_all
  refine ⟨⟨g, 0, none⟩, A, c, rfl, hb.lt, ?_, ?_, e4.bys (by omega)⟩
  · rw [ea, hb.cell, e2, h2]
    try congr 2
    try rw [UInt8.toNat_ofNat']
    try simp
  · rw [ea, hb.cell, e3]
end Go.Proofs.YtgdjopiejmdbnaaGreatDoor
