/-
  What the law's own helpers answer: 'awake', 'answer'.
-/
import Derived.Test.YtdhipkfiigiicaaSenderOf
namespace Go.Proofs.Ytdhipkfiigiicaa
open Go.RowKit
set_option linter.unusedVariables false

theorem blkS_nil (w : World) (A : Option Addr) : BlkS w A 0 [] := ⟨rfl, fun j p h => by simp at h⟩
theorem cap_3_9 : capZ 3 9 = 3 := by decide
theorem cap_5_99 : capZ 5 99 = 5 := by decide
theorem put_go0 : putS [] 3 5 true (newS 5 true) 67 = ([4], ⟨2, 0, true, 0, 1, 5, false⟩) := by rfl
theorem put_ack0 : putS [] 3 5 true ⟨2, 0, true, 0, 1, 5, false⟩ 6 = ([], ⟨3, 0, true, 0, 1, 5, false⟩) := by rfl
set_option maxRecDepth 100000 in
set_option maxHeartbeats 4000000 in
theorem awake10_any (w : World) :
    Calls Try.prog 7 #[] w fun e w' => e = .returned (.bool true) ∧ Below w.heap.size w w' := by
  have HO : Hid (Calls Try.prog 9 #[.agg #[.int .i64 3, .int .i64 5], .slice none 0 0, .bool true, .bool true] w (OfSPost w [] 3 5 true true)) := keepHid (by
    have := of_snd 3 5 none 0 0 [] true true w (blkS_nil w none) (by omega) (by simp)
    rwa [cap_3_9, cap_5_99] at this)
  go_enter Try.func7, Try.ntmps7
  go_wp2_with fail
  (with_reducible refine HO.out.mono ?_)
  rintro e w2 ⟨G, rfl, hg, hs, hb⟩
  have hgl := hs.lt
  have hp := put_snd hs 67
  rw [put_go0] at hp
  have HP : Hid (Calls Try.prog 14 #[.pointer (some ⟨G, 0, none⟩), .int .u8 67] w2 _) := keepHid hp
  have HB2 := keepHid hb
  have HG := keepHid hg
  clear hp hb hg hs
  go_wp2_with fail
  (with_reducible refine HP.out.mono ?_)
  rintro e w3 ⟨A3, c3, rfl, ho3, h31, h32, ht3, hs3⟩
  have hp := put_snd hs3 6
  rw [put_ack0] at hp
  have HP3 : Hid (Calls Try.prog 14 #[.pointer (some ⟨G, 0, none⟩), .int .u8 6] w3 _) := keepHid hp
  have HB3 := keepHid (HB2.out.trans (ht3.below (fun i hi => by rw [hi]; exact HG.out) HB2.out.size))
  have HO3 := keepHid (ho3.bys (by show 1 ≤ _; omega))
  have HG2 := keepHid hs3.lt
  have HAP := keepHid (apart_new ho3 hgl)
  clear hp ho3 ht3 hs3
  go_wp2_with fail
  (with_reducible refine HP3.out.mono ?_)
  rintro e w4 ⟨A4, c4, rfl, ho4, h41, h42, ht4, hs4⟩
  have HDN : Hid (Calls Try.prog 20 #[.pointer (some ⟨G, 0, none⟩)] w4 fun e w' => e = .returned (.tuple #[.bool true, .nilIface]) ∧ w' = w4.drew) := keepHid (done_snd hs4)
  have HB4 := keepHid (HB3.out.trans (ht4.below (fun i hi => by rw [hi]; exact HG.out) HB3.out.size))
  have HO4 : Hid (Bys w4.drew w3.heap.size A3 1 [4]) := keepHid ((HO3.out.turn ht4 (Nat.le_refl _) HAP.out).drew)
  have hst := run_str (P := Try.prog) (c := c3) 24 5 9 Try.underlying24 Try.underlying5 Try.underlying9 HO4.out
  have e4 : strB [4] = ⟨#[4]⟩ := rfl
  rw [e4] at hst
  clear e4 ho4 ht4 hs4
  go_wp2_with fail
  (with_reducible refine HDN.out.mono ?_)
  rintro e w5 ⟨rfl, rfl⟩
  go_wp2
  go_ret
  exact ⟨rfl, Below.drew HB4.out⟩

/-- The law's byte of a number. -/
def ansT : List UInt8 := [6, 6, 6, 21, 24, 67, 6, 21, 0, 6]
def ansB (n : UInt8) : UInt8 := if n.toNat < 200 then ansT.getD (n.toNat % 10) 0 else n
theorem ans_lt (j : Nat) (h : j < 10) : ∃ c : UInt8, ansT[j]? = some c := ⟨_, List.getElem?_eq_getElem (by simpa [ansT] using h)⟩
set_option maxHeartbeats 2000000 in
theorem answer_any (n : UInt8) (w : World) :
    Calls Try.prog 15 #[.int .u8 (n.toNat : Int)] w fun e w' => e = .returned (.int .u8 ((ansB n).toNat : Int)) ∧ Below w.heap.size w w' := by
  unfold ansB
  have hn := u8lt n
  rcases Nat.lt_or_ge n.toNat 200 with h | h
  · rw [if_pos h]
    generalize n.toNat = x at *
    obtain ⟨r, hr⟩ : ∃ r, x % 10 = r := ⟨_, rfl⟩
    have hr10 : r < 10 := by omega
    have ht : (x : Int).tmod 10 = (r : Int) := by rw [Int.tmod_eq_emod_of_nonneg (by omega)]; omega
    have i1 : (x : Int) < 200 := by omega
    rw [hr]
    obtain ⟨w1, hw1⟩ : ∃ w1, w.alloc (.cells (byteVals ansT) 5) = w1 := ⟨_, rfl⟩
    have hw2 : w.alloc (.cells #[.int .u8 6, .int .u8 6, .int .u8 6, .int .u8 21, .int .u8 24, .int .u8 67, .int .u8 6, .int .u8 21, .int .u8 0, .int .u8 6] 5) = w1 := hw1
    have hb : Below w.heap.size w w1 := by rw [← hw1]; exact (Below.refl _ _).alloc (Nat.le_refl _) _
    have hk : Blk w1 w.heap.size 5 (byteVals ansT) := by rw [← hw1]; exact Blk.new w _ _
    have hc : w1.cell? ⟨w.heap.size, r, none⟩ = some (.int .u8 ((ansT.getD r 0).toNat : Int)) := by
      rw [hk.cell]
      obtain ⟨c, e⟩ := ans_lt r hr10
      simp [byteVals, e]
    have HB := keepHid hb
    generalize (ansT.getD r 0).toNat = c at *
    clear hb hk hw1
    go_enter Try.func15, Try.ntmps15
    go_wp2
    go_ret
    exact ⟨rfl, HB.out⟩
  · rw [if_neg (by omega)]
    generalize n.toNat = x at *
    have i1 : ¬ (x : Int) < 200 := by omega
    go_enter Try.func15, Try.ntmps15
    go_wp2
    go_ret
    exact ⟨rfl, Below.refl _ _⟩
end Go.Proofs.Ytdhipkfiigiicaa
