/-
  The part of all bytes that were given to one.
-/
import Derived.Test.YtadfchdcaenglaaDemux
namespace Go.Proofs.Ytadfchdcaenglaa
open Go.RowKit
set_option linter.unusedVariables false

theorem ret_part {w w' : World} {A : Option Addr} {n c : Nat} {bs : List UInt8} (h : OwnB w' w.heap.size 5 (.slice A n c) n bs) (hb : Below w.heap.size w w') : RetB w bs (.returned (.slice A n c)) w' := by
  have hl := h.len
  subst hl
  rcases h.form with ⟨A', c', e, h1, h2, _⟩
  obtain ⟨rfl, rfl⟩ : A = A' ∧ c = c' := by injection e with q1 q2 q3; exact ⟨q1, q3⟩
  exact ⟨A, c, rfl, h, h1, h2, hb⟩
/-- Where a round of Part stands. -/
structure PRel (w : World) (b : List UInt8) (m : Nat) (ss : List Sg) (k : Nat) (v : Value) (n : Nat) (wr : World) : Prop where
  own : OwnB wr w.heap.size 5 v n (partD b m (ss.take k))
  bel : Below w.heap.size w wr
set_option maxHeartbeats 4000000 in
theorem part_any {w : World} {L g md : Nat} {ts : List Nat} (h : Dmx w L g md ts) (hto : ts.length ≤ 1099511627776) (A0 : Option Addr) (n0 c0 : Nat) (b : List UInt8) (hb : Bys w w.heap.size A0 n0 b) (hn0 : n0 ≤ c0) (hc0 : c0 ≤ 9223372036854775807) (m : Nat) :
    Calls Try.prog 17 #[.pointer (some ⟨g, 0, none⟩), .slice A0 n0 c0, .int .i64 (m : Int)] w (RetB w (partD b m (segs ts))) := by
  have hlt := h.lt
  obtain ⟨⟨A, c, h1, h2, h3⟩, a1, a2, a3⟩ := h
  have c1 : w.cell? ⟨g, 1, none⟩ = some (.slice A (segs ts).length c) := h1.cell 1
  have hcnt := (segOk ts).count
  obtain ⟨N, hN⟩ : ∃ N, (segs ts).length = N := ⟨_, rfl⟩
  rw [hN] at c1 h2 hcnt
  have HS : Hid (∀ k s, (segs ts)[k]? = some s → k < N → ∀ wr, Below w.heap.size w wr → ∃ G, A = some ⟨G, 0, none⟩ ∧ wr.cell? ⟨G, k * 3, none⟩ = some (.int .i64 (s.m : Int)) ∧ wr.cell? ⟨G, k * 3 + 1, none⟩ = some (.int .i64 (s.f : Int)) ∧ wr.cell? ⟨G, k * 3 + 2, none⟩ = some (.int .i64 (s.n : Int))) := keepHid (fun k s hs hk wr hbw => by
    obtain ⟨G, c', e2, hG, hGl, hnc⟩ := h2.form (by omega)
    obtain ⟨rfl, rfl⟩ : A = some ⟨G, 0, none⟩ ∧ c = c' := by injection e2 with q1 q2 q3; exact ⟨q1, q3⟩
    exact ⟨G, rfl, (hbw.cell hGl).trans (h2.cell hs (r := 0) (by omega)), (hbw.cell hGl).trans (h2.cell hs (r := 1) (by omega)), (hbw.cell hGl).trans (h2.cell hs (r := 2) (by omega))⟩)
  have HLE : Hid (∀ k, (partD b m ((segs ts).take k)).length ≤ 1099511627776) := keepHid (fun k => Nat.le_trans (partD_take_le b m _ k) (Nat.le_trans (partD_le_from b m (segOk ts)) hto))
  have HOK : Hid (SegOk (segs ts) ts) := keepHid (segOk ts)
  have HBY := keepHid hb
  have HN := keepHid hN
  have HTO : Hid (ts.length ≤ 1099511627776) := keepHid hto
  have HBL : Hid (b.length = n0) := keepHid hb.len
  have hN2 : (N : Int) ≤ 1099511627776 := by omega
  generalize segs ts = ss at *
  clear h1 h2 h3 hb hN a1 a2 a3 hlt hcnt hto
  go_enter Try.func17, Try.ntmps17
  go_wp2
  go_loopw [7, 15] (fun pv i wr => ∃ (k n : Nat) (A2 : Option Addr) (c2 : Nat), k ≤ N ∧ i = .int .i64 k ∧ pv = .slice A2 n c2 ∧ Hid (PRel w b m ss k (.slice A2 n c2) n wr)) (fun _ i _ => N - (intOf i).toNat)
  case atStart => exact ⟨0, 0, none, 0, Nat.zero_le _, rfl, rfl, keepHid ⟨OwnB.nil _ _ _, Below.refl _ _⟩⟩
  case round =>
    obtain ⟨k, n, A2, c2, hk, rfl, rfl, HR⟩ := hrel
    by_cases hlt : k < N
    · obtain ⟨s, hs⟩ : ∃ s, ss[k]? = some s := ⟨_, List.getElem?_eq_getElem (by rw [HN.out]; exact hlt)⟩
      obtain ⟨G, rfl, s0, s1, s2⟩ := HS.out k s hs hlt wr HR.out.bel
      have hat := HOK.out.at_ k s hs
      have HPS := keepHid (partD_step b m hs)
      have hle := HLE.out k
      rw [HR.out.own.len] at hle
      have hend := hat.end_
      have hTT := HTO.out
      have hfn : s.f + s.n ≤ 1099511627776 := by omega
      obtain ⟨sm, hsm⟩ : ∃ k, s.m = k := ⟨_, rfl⟩
      obtain ⟨sf, hsf⟩ : ∃ k, s.f = k := ⟨_, rfl⟩
      obtain ⟨sn, hsn⟩ : ∃ k, s.n = k := ⟨_, rfl⟩
      have hpos := hat.pos
      rw [hsm] at s0 HPS
      rw [hsf] at s1 HPS hfn
      rw [hsn] at s2 HPS hfn hpos
      obtain ⟨e, he⟩ : ∃ e, sf + sn = e := ⟨_, rfl⟩
      rw [he] at HPS hfn
      have hsum : (sf : Int) + (sn : Int) = (e : Int) := by omega
      obtain ⟨w1, hw1⟩ : ∃ w1, wr.alloc (.cells #[.int .i64 (sm : Int), .int .i64 (sf : Int), .int .i64 (sn : Int)] 40) = w1 := ⟨_, rfl⟩
      have hb1 : Below wr.heap.size wr w1 := by rw [← hw1]; exact (Below.refl _ _).alloc (Nat.le_refl _) _
      have k1 : Blk w1 wr.heap.size 40 #[.int .i64 (sm : Int), .int .i64 (sf : Int), .int .i64 (sn : Int)] := by rw [← hw1]; exact Blk.new wr _ _
      have d0 : w1.cell? ⟨wr.heap.size, 0, none⟩ = some (.int .i64 (sm : Int)) := k1.cell 0
      have d1 : w1.cell? ⟨wr.heap.size, 1, none⟩ = some (.int .i64 (sf : Int)) := k1.cell 1
      have d2 : w1.cell? ⟨wr.heap.size, 2, none⟩ = some (.int .i64 (sn : Int)) := k1.cell 2
      have HW : Hid (Below w.heap.size w w1) := keepHid (HR.out.bel.trans (hb1.mono HR.out.bel.size))
      have HO : Hid (OwnB w1 w.heap.size 5 (.slice A2 n c2) n (partD b m (ss.take k))) := keepHid (by rw [← hw1]; exact HR.out.own.alloc _)
      have HB : Hid (Bys w1 w.heap.size A0 n0 b) := keepHid (HBY.out.below HW.out)
      have HRS : Hid (partD b m (ss.take (k + 1)) = partD b m (ss.take k) → PRel w b m ss (k + 1) (.slice A2 n c2) n w1) := keepHid (fun e => ⟨by rw [e]; exact HO.out, HW.out⟩)
      have hbl := HBL.out
      rw [hbl] at HPS
      have hsz : wr.heap.size < w1.heap.size := k1.lt
      have hne : w.heap.size ≤ wr.heap.size := HR.out.bel.size
      clear hs hat hend hTT hsm hsf hsn he k1 hb1 HR hle
      have hkN : (k : Int) < (N : Int) := by omega
      by_cases hm : sm = m
      · subst hm
        by_cases hin : e ≤ n0
        · rw [if_pos ⟨rfl, hin⟩] at HPS
          obtain ⟨A3, hif⟩ : ∃ A3, (if c0 = sf then A0 else A0.map (·.add sf)) = A3 := ⟨_, rfl⟩
          have HD : Hid (Bys w1 w.heap.size A3 sn ((b.drop sf).take sn)) := keepHid (by
            have := (HB.out.cut (k := sf) (cap := c0) (by omega) hn0).head (k := sn) (by omega)
            rw [hif] at this
            exact this)
          have hle2 := HO.out.len
          have hle3 := HLE.out k
          rw [hle2] at hle3
          have i1 : (e : Int) ≤ (n0 : Int) := by omega
          have i2 : e - sf = sn := by omega
          clear hle2 hbl
          go_wp2_with (at_builtin; refine wpList_append_bytes _ rfl _ _ 29 rfl w.heap.size 5 byteT (.slice A2 n c2) n (partD b sm (ss.take k)) (by rfl) HO.out w.heap.size A3 sn (c0 - sf) ((b.drop sf).take sn) (by rfl) HD.out (n + sn) rfl (by omega) (by omega) ?_)
          intro A4 c4 w4 q1 q2 q3 q4 q5
          have HQ : Hid (PRel w b sm ss (k + 1) (.slice A4 (n + sn) c4) (n + sn) w4) := keepHid ⟨by rw [HPS.out]; exact q1, HW.out.trans (q2.below (fun i hi => own_base HO.out i hi) HW.out.size)⟩
          clear q1 q2 q3 q4 q5
          go_wp2
          go_roundw
          case rel => exact ⟨k + 1, n + sn, A4, c4, by omega, by go_num, rfl, HQ⟩
          case measure => simp [intOf]; omega
        · rw [if_neg (fun h => hin h.2), List.append_nil] at HPS
          have HQ := keepHid (HRS.out HPS.out)
          have i1 : ¬ (e : Int) ≤ (n0 : Int) := by omega
          clear hin
          go_wp2
          go_roundw
          case rel => exact ⟨k + 1, n, A2, c2, by omega, by go_num, rfl, HQ⟩
          case measure => simp [intOf]; omega
      · rw [if_neg (fun h => hm h.1), List.append_nil] at HPS
        have HQ := keepHid (HRS.out HPS.out)
        have i1 : ((sm : Int) == (m : Int)) = false := by simp; omega
        clear hm
        go_wp2
        go_roundw
        case rel => exact ⟨k + 1, n, A2, c2, by omega, by go_num, rfl, HQ⟩
        case measure => simp [intOf]; omega
    · obtain rfl : k = N := by omega
      have HP : Hid (RetB w (partD b m ss) (.returned (.slice A2 n c2)) wr) := keepHid (by
        have := HR.out.own
        rw [List.take_of_length_le (by rw [HN.out]; exact Nat.le_refl _)] at this
        exact ret_part this HR.out.bel)
      go_wp2
      go_ret
      exact HP.out
end Go.Proofs.Ytadfchdcaenglaa
