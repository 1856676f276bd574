/-
  What the law's own helper 'awake' answers.
-/
import Derived.Test.YtjbkhaoddababaaLinkLaw
import Derived.Lib.SlBytesConst
namespace Go.Proofs.Ytjbkhaoddababaa
open Go.RowKit
set_option linter.unusedVariables false

theorem lok_of (b : List UInt8) (long : Bool) (m : Nat) (hm : m ≤ 4) (T W V : Nat) (crc : Bool) (hT : 1 ≤ T) : LOk ⟨blk10 b long m, T, W, crc, V⟩ := by
  refine ⟨fun j q hq => ?_, by show (blk10 b long m).length ≤ 4; rw [blk10_len]; exact hm, hT⟩
  have h := (blk10_at hq).2
  subst h
  exact ⟨rfl, rowB_or b long j⟩
theorem flat_len {p : LP} (h : ∀ (j : Nat) (b : UInt8 × List UInt8), p.bl[j]? = some b → b.2.length = 128) : ∀ j, j ≤ p.bl.length → (flat p j).length = 128 * j
  | 0, _ => by rw [flat_zero]; rfl
  | j + 1, hj => by
    obtain ⟨b, hb⟩ : ∃ b, p.bl[j]? = some b := ⟨_, List.getElem?_eq_getElem (by omega)⟩
    rw [flat_succ hb, List.length_append, flat_len h j (by omega), h j b hb]
    omega
theorem short_of (b : List UInt8) (m : Nat) : ∀ (j : Nat) (q : UInt8 × List UInt8), (blk10 b false m)[j]? = some q → q.2.length = 128 := fun j q hq => by
  have h := (blk10_at hq).2
  subst h
  exact rowB_len b false j
theorem cap3 : capZ 3 9 = 3 := by decide
theorem cap5 : capZ 5 99 = 5 := by decide
set_option maxRecDepth 100000 in
set_option maxHeartbeats 4000000 in
theorem awake12_any (w : World) :
    Calls Try.prog 8 #[] w fun e w' => e = .returned (.bool true) ∧ Below w.heap.size w w' := by
  obtain ⟨w1, hw1⟩ : ∃ w1, w.alloc (.cells #[.int .u8 120] 5 (1, 2)) = w1 := ⟨_, rfl⟩
  have hcv : (convert 24 24 (.slice (some ⟨w.heap.size, 0, none⟩) 1 1)).run Try.prog (w.alloc (.cells #[.int .u8 120] 5)) = .ok (.slice (some ⟨w.heap.size, 0, none⟩) 1 1) w1 := by
    rw [← hw1]
    exact Lib.run_convert_bytes_const (P := Try.prog) w 24 5 #[.int .u8 120] 1 1 Try.underlying24 Try.underlying5
  have hb1 : Below w.heap.size w w1 := by rw [← hw1]; exact (Below.refl _ _).alloc (Nat.le_refl _) _
  have hy1 : Bys w1 w1.heap.size (some ⟨w.heap.size, 0, none⟩) 1 [120] := by rw [← hw1]; exact (bys_newm w _ [120] 1 rfl (by decide) _ rfl _ _ rfl).more (by simp)
  obtain ⟨bl, hbl⟩ : ∃ bl, blk10 [120] false 2 = bl := ⟨_, rfl⟩
  have HBK : Hid (Calls Try.prog 9 #[.slice (some ⟨w.heap.size, 0, none⟩) 1 1, .int .u8 2, .bool false] w1 (Blocks10 w1 2 bl)) := keepHid (by rw [← hbl]; exact blocks10_any _ 1 1 [120] 2 2 false (by omega) (by omega) w1 hy1)
  obtain ⟨p, hp⟩ : ∃ p : LP, (⟨bl, 3, 5, true, 5⟩ : LP) = p := ⟨_, rfl⟩
  have hok : LOk p := by rw [← hp, ← hbl]; exact lok_of [120] false 2 (by omega) 3 5 5 true (by omega)
  have hn : p.bl.length = 2 := by rw [← hp, ← hbl]; exact blk10_len _ _ _
  have hrun := run_clean (o := (false, 0, 0)) hok (by rw [← hp]; exact (by decide : 2 ≤ 5)) (by rw [← hp]; exact (by decide : 2 ≤ 5)) [] (still_none _) (R := 3) (by omega) (N := 50) (by omega)
  have hfl : (flat p 2).length = 256 := by
    have := flat_len (p := p) (by rw [← hp, ← hbl]; exact short_of [120] 2) 2 (by omega)
    omega
  have HRUN : Hid (∀ w' Hb G1 G2, Pair p 3 w Hb G1 G2 w' → Calls Try.prog 10 #[.pointer (some ⟨G1, 0, none⟩), .pointer (some ⟨G2, 0, none⟩), .slice none 0 0, .int .i64 50] w' fun e w'' => ∃ A c, e = .returned (.agg #[.bool true, .nilIface, .nilIface, .slice A 256 c, .int .i64 4, .int .i64 3]) ∧ Below w.heap.size w w'') := keepHid (fun w' Hb G1 G2 hpr => by
    refine (run_pair hpr none 0 0 [] (NzS.none_ _) (Apart.zero _ _) 50 (by omega)).mono ?_
    rintro e w'' ⟨A, c, rfl, ht⟩
    rw [hrun]
    have hda : (took p p.bl.length (3 - 1)).da.length = 256 := by rw [took_da, hn, hfl]
    refine ⟨A, c, ?_, ht.bel⟩
    show Ending.returned (.agg #[.bool true, errV 0, errV 0, .slice A (took p p.bl.length (3 - 1)).da.length c, .int .i64 ((p.bl.length + 2 : Nat) : Int), .int .i64 ((p.bl.length + 1 : Nat) : Int)]) = _
    rw [hda, hn]
    rfl)
  have HSL : Hid (∀ q ∈ bl, q.2.length ≤ 1024) := keepHid (by rw [← hbl]; exact blk10_sized)
  have HSOF : Hid (∀ w' g, BlkS w' (some ⟨g, 0, none⟩) 2 bl → Below w.heap.size w w' → Calls Try.prog 11 #[.agg #[.int .i64 3, .int .i64 5], .slice (some ⟨g, 0, none⟩) 2 2, .bool true, .bool true] w' fun e w'' => ∃ G, e = .returned (.pointer (some ⟨G, 0, none⟩)) ∧ w.heap.size ≤ G ∧ SndH w'' w''.heap.size G p.bl p.T p.W true (newS p.W p.crc) ∧ Below w.heap.size w w'') := keepHid (fun w' g hb hbel => by
    refine (sof_pair 3 5 (some ⟨g, 0, none⟩) 2 2 bl true w' hb (by omega) HSL.out).mono ?_
    rintro e w'' ⟨G, rfl, e3, e4⟩
    rw [cap3, cap5] at e3
    exact ⟨G, rfl, Nat.le_trans hbel.size e4.g, by rw [← hp]; exact e3, hbel.trans (e4.bel.mono hbel.size)⟩)
  have HROF : Hid (∀ w' G1, SndH w' w'.heap.size G1 p.bl p.T p.W true (newS p.W p.crc) → w.heap.size ≤ G1 → Below w.heap.size w w' → Calls Try.prog 12 #[.agg #[.int .i64 3, .int .i64 5], .int .u8 1, .bool true, .bool true, .int .i64 1] w' fun e w'' => ∃ G, e = .returned (.pointer (some ⟨G, 0, none⟩)) ∧ Pair p 3 w w'.heap.size G1 G w'') := keepHid (fun w' G1 hs hg hbel => by
    have h := rof_pair p 3 5 w w' hs (Nat.le_refl _) hg hbel (by rw [cap5, ← hp])
    have hc : p.crc = true := by rw [← hp]
    rw [cap3, hc] at h
    exact h.mono fun e w'' ⟨G, e1, e2, _⟩ => ⟨G, e1, e2⟩)
  have HB1 := keepHid hb1
  clear hb1 hy1 hbl hp hok hn hrun hfl
  go_enter Try.func8, Try.ntmps8
  go_wp2_with fail
  (with_reducible refine HBK.out.mono ?_)
  rintro e w2 ⟨g, rfl, hbs, hb2⟩
  have HSO := keepHid (HSOF.out w2 g hbs (HB1.out.trans (hb2.mono HB1.out.size)))
  clear hbs hb2
  go_wp2_with fail
  (with_reducible refine HSO.out.mono ?_)
  rintro e w3 ⟨G1, rfl, hg1, hs3, hb3⟩
  have HRO := keepHid (HROF.out w3 G1 hs3 hg1 hb3)
  clear hg1 hs3 hb3
  go_wp2_with fail
  (with_reducible refine HRO.out.mono ?_)
  rintro e w4 ⟨G2, rfl, hpr⟩
  have HRN := keepHid (HRUN.out w4 _ G1 G2 hpr)
  clear hpr
  go_wp2_with fail
  (with_reducible refine HRN.out.mono ?_)
  rintro e w5 ⟨A5, c5, rfl, hb5⟩
  have HB5 := keepHid hb5
  clear hb5
  go_wp2_with fail
  go_ret
  exact ⟨rfl, HB5.out.alloc HB5.out.size _⟩
end Go.Proofs.Ytjbkhaoddababaa
