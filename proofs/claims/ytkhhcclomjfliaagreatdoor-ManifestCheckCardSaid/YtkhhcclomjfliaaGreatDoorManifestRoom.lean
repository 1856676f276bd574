/-
  What an entry takes: package manifest's Room, and the law's own room.
-/
import Derived.Test.YtkhhcclomjfliaaGreatDoorManifestRows
import Derived.Test.YtkhhcclomjfliaaGreatDoorSmall
namespace Go.Proofs.YtkhhcclomjfliaaGreatDoor
open Go.RowKit
set_option linter.unusedVariables false

def limI (z : Int) : Int := min (max z 0) 8192
def roomI (sz wy : Int) : Int := if wy = 3 then limI sz else (limI sz + 127) / 128 * 128
theorem lim_is (z : Int) : 0 ≤ limI z ∧ limI z ≤ 8192 := by unfold limI; omega
theorem room_is (sz wy : Int) : 0 ≤ roomI sz wy ∧ roomI sz wy ≤ 8192 ∧ limI sz ≤ roomI sz wy := by
  have := lim_is sz
  unfold roomI
  split <;> omega
theorem ret_i {a b : Int} (h : a = b) : Ending.returned (.int .i64 a) = .returned (.int .i64 b) := by rw [h]
theorem room_any (NM : ByteArray) (AD SZ PR WY : Int) (w : World) :
    Calls Tryz.prog 62 #[.agg #[.string NM, .int .i64 AD, .int .i64 SZ, .int .u32 PR, .int .i64 WY]] w fun r w' => r = .returned (.int .i64 (roomI SZ WY)) ∧ Below w.heap.size w w' := by
  obtain ⟨w1, hw1⟩ : ∃ w1, w.alloc (.cells #[.string NM, .int .i64 AD, .int .i64 SZ, .int .u32 PR, .int .i64 WY] 40) = w1 := ⟨_, rfl⟩
  have hK1 : Blk w1 w.heap.size 40 #[.string NM, .int .i64 AD, .int .i64 SZ, .int .u32 PR, .int .i64 WY] := by rw [← hw1]; exact Blk.new w _ _
  have hB1 : Below w.heap.size w w1 := by rw [← hw1]; exact (Below.refl _ _).alloc (Nat.le_refl _) _
  have c2 : w1.cell? ⟨w.heap.size, 2, none⟩ = some (.int .i64 SZ) := hK1.cell 2
  have c4 : w1.cell? ⟨w.heap.size, 4, none⟩ = some (.int .i64 WY) := hK1.cell 4
  have HB1 := keepHid hB1
  obtain ⟨m, hm⟩ : ∃ m, max SZ 0 = m := ⟨_, rfl⟩
  obtain ⟨l, hl⟩ : ∃ l, limI SZ = l := ⟨_, rfl⟩
  have q1 := fun ts t W => max_z ts t SZ 0 m hm W
  have q2 := fun ts t W => min_z ts t m 8192 l (by rw [← hl, ← hm]; rfl) W
  have hli := lim_is SZ
  rw [hl] at hli
  have HR : Hid (roomI SZ WY = if WY = 3 then l else (l + 127) / 128 * 128) := keepHid (by unfold roomI; rw [hl])
  generalize roomI SZ WY = R at *
  generalize hG : w.heap.size = G at *
  clear hK1 hB1 hm hl
  obtain ⟨n, rfl⟩ : ∃ n : Nat, l = (n : Int) := ⟨l.toNat, by omega⟩
  have hn : n ≤ 8192 := by omega
  clear hli
  by_cases h3 : WY = 3
  · have e3 : (WY == 3) = true := by simp [h3]
    have HRR : Hid (R = (n : Int)) := keepHid (by rw [HR.out, if_pos h3])
    clear h3 HR
    go_enter Tryz.func62, Tryz.ntmps62
    go_wp2
    go_ret
    exact ⟨ret_i HRR.out.symm, HB1.out⟩
  · have e3 : (WY == 3) = false := by simp [h3]
    have HRR : Hid (R = ((n : Int) + 127) / 128 * 128) := keepHid (by rw [HR.out, if_neg h3])
    clear h3 HR
    go_enter Tryz.func62, Tryz.ntmps62
    go_wp2
    go_ret
    exact ⟨ret_i (by rw [HRR.out]; omega), HB1.out⟩
set_option maxRecDepth 100000 in
set_option maxHeartbeats 4000000 in
theorem lroom_any (NM : ByteArray) (AD SZ PR WY : Int) (w : World) :
    Calls Tryz.prog 24 #[.agg #[.string NM, .int .i64 AD, .int .i64 SZ, .int .u32 PR, .int .i64 WY]] w fun r w' => r = .returned (.int .i64 (roomI SZ WY)) ∧ Below w.heap.size w w' := by
  obtain ⟨w1, hw1⟩ : ∃ w1, w.alloc (.cells #[.string NM, .int .i64 AD, .int .i64 SZ, .int .u32 PR, .int .i64 WY] 40) = w1 := ⟨_, rfl⟩
  have hK1 : Blk w1 w.heap.size 40 #[.string NM, .int .i64 AD, .int .i64 SZ, .int .u32 PR, .int .i64 WY] := by rw [← hw1]; exact Blk.new w _ _
  have hB1 : Below w.heap.size w w1 := by rw [← hw1]; exact (Below.refl _ _).alloc (Nat.le_refl _) _
  have c2 : w1.cell? ⟨w.heap.size, 2, none⟩ = some (.int .i64 SZ) := hK1.cell 2
  have c4 : w1.cell? ⟨w.heap.size, 4, none⟩ = some (.int .i64 WY) := hK1.cell 4
  have HB1 := keepHid hB1
  obtain ⟨m, hm⟩ : ∃ m, min 8192 SZ = m := ⟨_, rfl⟩
  obtain ⟨l, hl⟩ : ∃ l, limI SZ = l := ⟨_, rfl⟩
  have q1 := fun ts t W => min_z ts t 8192 SZ m hm W
  have q2 := fun ts t W => max_z ts t 0 m l (by rw [← hl, ← hm]; unfold limI; omega) W
  have hli := lim_is SZ
  rw [hl] at hli
  have HLS : Hid (l = SZ ↔ (0 ≤ SZ ∧ SZ ≤ 8192)) := keepHid (by rw [← hl]; unfold limI; omega)
  have HLM : Hid (l ≠ SZ → l = 0 ∨ l = 8192) := keepHid (by rw [← hl]; unfold limI; omega)
  have HR : Hid (roomI SZ WY = if WY = 3 then l else (l + 127) / 128 * 128) := keepHid (by unfold roomI; rw [hl])
  generalize roomI SZ WY = R at *
  generalize hG : w.heap.size = G at *
  clear hK1 hB1 hm hl
  obtain ⟨n, rfl⟩ : ∃ n : Nat, l = (n : Int) := ⟨l.toNat, by omega⟩
  have hn : n ≤ 8192 := by omega
  clear hli
  by_cases hd : WY = 3 ∨ (n : Int) ≠ SZ
  · have HRR : Hid (R = (n : Int)) := keepHid (by
      rw [HR.out]
      split
      · rfl
      · rename_i h3
        rcases hd with h | h
        · exact absurd h h3
        · rcases HLM.out h with h | h <;> omega)
    have hd2 : (WY == 3) = true ∨ ((WY == 3) = false ∧ ((n : Int) != SZ) = true) := by
      by_cases h3 : WY = 3
      · exact .inl (by simp [h3])
      · rcases hd with h | h
        · exact absurd h h3
        · exact .inr ⟨by simp [h3], by simp [h]⟩
    clear hd HR HLS HLM
    rcases hd2 with e3 | ⟨e3, e4⟩
    all_goals
      go_enter Tryz.func24, Tryz.ntmps24
      go_wp2
      go_ret
      exact ⟨ret_i HRR.out.symm, HB1.out⟩
  · have h3 : WY ≠ 3 := fun h => hd (.inl h)
    have h4 : (n : Int) = SZ := Classical.byContradiction fun h => hd (.inr h)
    have e3 : (WY == 3) = false := by simp [h3]
    have e4 : ((n : Int) != SZ) = false := by simp [h4]
    have HRR : Hid (R = ((n : Int) + 127) / 128 * 128) := keepHid (by rw [HR.out, if_neg h3])
    clear hd HR HLS HLM h3 h4
    go_enter Tryz.func24, Tryz.ntmps24
    go_wp2_with fail
    go_loopw [3] (fun x wr => ∃ j : Nat, x = .int .i64 (j : Int) ∧ n ≤ j ∧ j < n + 128 ∧ (∀ i, n ≤ i → i < j → i % 128 ≠ 0) ∧ wr = w1) (fun x _ => n + 128 - (intOf x).toNat)
    case atStart => exact ⟨n, rfl, Nat.le_refl _, by omega, fun i h1 h2 => by omega, rfl⟩
    case round =>
      obtain ⟨j, rfl, h1, h2, h3, rfl⟩ := hrel
      have H3 := keepHid h3
      by_cases hj : j % 128 = 0
      · have ej : ((j : Int) % 128 != 0) = false := by simp; omega
        have ej2 : (Int.tmod (j : Int) 128 != 0) = false := by rw [Int.tmod_eq_emod_of_nonneg (by omega)]; exact ej
        have HJ : Hid ((j : Int) = ((n : Int) + 127) / 128 * 128) := keepHid (by
          have h5 : ∀ i, n ≤ i → i < j → i % 128 ≠ 0 := h3
          have h6 := h5 ((n + 127) / 128 * 128) (by omega)
          have h7 : (n + 127) / 128 * 128 ≤ j → j = (n + 127) / 128 * 128 := fun h => by
            rcases Nat.eq_or_lt_of_le h with h | h
            · exact h.symm
            · exact absurd (by omega) (h6 h)
          have h8 : (n + 127) / 128 * 128 ≤ j := by omega
          have := h7 h8
          omega)
        clear h3 hj
        go_wp2
        go_ret
        exact ⟨ret_i (by rw [HRR.out, HJ.out]), HB1.out⟩
      · have ej : ((j : Int) % 128 != 0) = true := by simp; omega
        have ej2 : (Int.tmod (j : Int) 128 != 0) = true := by rw [Int.tmod_eq_emod_of_nonneg (by omega)]; exact ej
        have HJ := keepHid hj
        have hjj : j + 1 < n + 128 := by
          rcases Nat.lt_or_ge (j + 1) (n + 128) with h | h
          · exact h
          · exfalso
            have h6 := h3 ((n + 127) / 128 * 128) (by omega)
            have h9 : (n + 127) / 128 * 128 ≤ j := by omega
            rcases Nat.eq_or_lt_of_le h9 with h9 | h9
            · apply hj; omega
            · exact h6 h9 (by omega)
        clear h3 hj
        go_wp2
        go_roundw
        case rel => exact ⟨j + 1, by go_num, by omega, hjj, fun i k1 k2 => by
          rcases Nat.lt_succ_iff_lt_or_eq.1 k2 with k | rfl
          · exact H3.out i k1 k
          · exact HJ.out, trivial⟩
        case measure => simp [intOf]; omega
end Go.Proofs.YtkhhcclomjfliaaGreatDoor
