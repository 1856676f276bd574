/-
  What the law's own helper 'Data' answers.
-/
import Derived.Test.YtonloefjhofeeaaGreatDoorBlockSize
namespace Go.Proofs.YtonloefjhofeeaaGreatDoor
open Go.RowKit
set_option linter.unusedVariables false

/-- Data as far as they are filled. -/
def datL (b : List UInt8) (N k : Nat) : List UInt8 := dat b k ++ zeros (N - k)
theorem datL_len (b : List UInt8) {N k : Nat} (h : k ≤ N) : (datL b N k).length = N := by simp [datL, dat_len, zeros_len]; omega
theorem datL_zero (b : List UInt8) (N : Nat) : datL b N 0 = zeros N := by simp [datL, dat]
theorem datL_full (b : List UInt8) (N : Nat) : datL b N N = dat b N := by simp [datL, zeros]
theorem dat_succ (b : List UInt8) (k : Nat) : dat b (k + 1) = dat b k ++ [datAt b k] := by simp [dat, List.range_succ]
theorem datL_set (b : List UInt8) {N k : Nat} (h : k < N) : (datL b N k).set k (datAt b k) = datL b N (k + 1) := by
  have e : zeros (N - k) = 0 :: zeros (N - (k + 1)) := by
    unfold zeros; rw [show N - k = (N - (k + 1)) + 1 by omega, List.replicate_succ]
  unfold datL
  rw [e, dat_succ, List.set_append_right _ _ (by rw [dat_len]; exact Nat.le_refl _), dat_len, Nat.sub_self]
  simp
theorem datL_nil (N k : Nat) (h : k ≤ N) : datL [] N k = zeros N := by
  have e : ∀ k, dat [] k = zeros k := by
    intro k
    induction k with
    | zero => rfl
    | succ k ih => rw [dat_succ, ih]; unfold zeros; rw [List.replicate_succ']; rfl
  unfold datL
  rw [e]
  unfold zeros
  rw [List.replicate_append_replicate]
  congr 1
  omega
set_option maxRecDepth 100000 in
theorem data_any (A : Option Addr) (n c B : Nat) (bs : List UInt8) (long : Bool) (w : World) (h : Bys w B A n bs) (hB : B ≤ w.heap.size) :
    Calls Tryz.prog 44 #[.slice A n c, .bool long] w (RetB w (dat bs (longN long))) := by
  obtain ⟨N, hN⟩ : ∃ N, longN long = N := ⟨_, rfl⟩
  have hN2 : N ≤ 1024 ∧ 128 ≤ N := by rcases longN_or long with h | h <;> omega
  have hmk := run_mkbs (N : Int) (N : Int) N N rfl rfl (Nat.le_refl _) (by omega) w
  obtain ⟨w1, hw1⟩ : ∃ w1, w.alloc (.cells (zrow N) 5) = w1 := ⟨_, rfl⟩
  rw [hw1] at hmk
  have hk1 : Blk w1 w.heap.size 5 (zrow N) := by rw [← hw1]; exact Blk.new w _ _
  have hb1 : Below w.heap.size w w1 := by rw [← hw1]; exact (Below.refl _ _).alloc (Nat.le_refl _) _
  have HK1 := keepHid hk1
  have HB1 := keepHid hb1
  have H := keepHid (h.more hB)
  have hfin : ∀ w', Blk w' w.heap.size 5 (byteVals (dat bs N)) → Below w.heap.size w w' → RetB w (dat bs N) (.returned (.slice (some ⟨w.heap.size, 0, none⟩) N N)) w' := fun w' hk hb =>
    ⟨some ⟨w.heap.size, 0, none⟩, N, by rw [dat_len], by rw [dat_len]; exact own_blk hk (Nat.le_refl _) (dat_len _ _) (by omega), by rw [dat_len]; exact Nat.le_refl _, by omega, hb⟩
  have HFIN := keepHid hfin
  have hnm := h.max
  clear hk1 hb1 h hfin hw1
  have hNi : (N : Int) ≤ 1024 := by omega
  rcases Nat.eq_zero_or_pos n with h0 | h0
  · subst h0
    obtain rfl : bs = [] := List.eq_nil_of_length_eq_zero H.out.len
    have hz : byteVals (dat [] N) = zrow N := by rw [← datL_full, datL_nil N N (Nat.le_refl _)]; rfl
    have HZ := keepHid hz
    clear hz
    rw [hN]
    cases long
    · have hm2 : (Instr.makeSlice 31 (.int .i64 128) (.int .i64 128)).run Tryz.prog w = .ok (.slice (some ⟨w.heap.size, 0, none⟩) N N) w1 := by
        rw [show (128 : Int) = (N : Int) by rw [← hN]; rfl]; exact hmk
      clear hmk hN
      go_enter Tryz.func44, Tryz.ntmps44
      go_wp2
      go_loop [13] (fun i => ∃ k : Nat, k ≤ N ∧ i = .int .i64 k) (fun i => N - (intOf i).toNat)
      case atStart => exact ⟨0, Nat.zero_le _, rfl⟩
      case round =>
        obtain ⟨k, hk, rfl⟩ := hrel
        by_cases hlt : k < N
        · go_wp2
          go_round
          case rel => exact ⟨k + 1, by omega, by go_num⟩
          case measure => simp [intOf]; omega
        · go_wp2
          go_ret
          exact HFIN.out w1 (by rw [HZ.out]; exact HK1.out) HB1.out
    · have hm2 : (Instr.makeSlice 31 (.int .i64 1024) (.int .i64 1024)).run Tryz.prog w = .ok (.slice (some ⟨w.heap.size, 0, none⟩) N N) w1 := by
        rw [show (1024 : Int) = (N : Int) by rw [← hN]; rfl]; exact hmk
      clear hmk hN
      go_enter Tryz.func44, Tryz.ntmps44
      go_wp2
      go_loop [13] (fun i => ∃ k : Nat, k ≤ N ∧ i = .int .i64 k) (fun i => N - (intOf i).toNat)
      case atStart => exact ⟨0, Nat.zero_le _, rfl⟩
      case round =>
        obtain ⟨k, hk, rfl⟩ := hrel
        by_cases hlt : k < N
        · go_wp2
          go_round
          case rel => exact ⟨k + 1, by omega, by go_num⟩
          case measure => simp [intOf]; omega
        · go_wp2
          go_ret
          exact HFIN.out w1 (by rw [HZ.out]; exact HK1.out) HB1.out
  · have hln : bs.length ≠ 0 := by rw [H.out.len]; omega
    have HLN := keepHid hln
    clear hln
    rw [hN]
    cases long
    · have hm2 : (Instr.makeSlice 31 (.int .i64 128) (.int .i64 128)).run Tryz.prog w = .ok (.slice (some ⟨w.heap.size, 0, none⟩) N N) w1 := by
        rw [show (128 : Int) = (N : Int) by rw [← hN]; rfl]; exact hmk
      clear hmk hN
      go_enter Tryz.func44, Tryz.ntmps44
      go_wp2
      go_loopw [13] (fun i wr => ∃ k : Nat, k ≤ N ∧ i = .int .i64 k ∧ Blk wr w.heap.size 5 (byteVals (datL bs N k)) ∧ Below w.heap.size w wr) (fun i _ => N - (intOf i).toNat)
      case atStart => exact ⟨0, Nat.zero_le _, rfl, by rw [datL_zero]; exact HK1.out, HB1.out⟩
      case round =>
        obtain ⟨k, hk, rfl, hbk, hbel⟩ := hrel
        have HK := keepHid hbk
        have HB := keepHid hbel
        by_cases hlt : k < N
        · obtain ⟨j, hj⟩ : ∃ j, k % n = j := ⟨_, rfl⟩
          obtain ⟨q, hq⟩ : ∃ q, k / n = q := ⟨_, rfl⟩
          have hjn : j < n := by rw [← hj]; exact Nat.mod_lt _ h0
          obtain ⟨ad, x, rfl, _, hx, hc⟩ := (H.out.below hbel).at_ hjn
          obtain ⟨y, hy1, hy2⟩ := byteVals_at (cs := datL bs N k) (i := k) (by rw [datL_len bs hk]; exact hlt)
          have hcell := (hbk.cell k).trans hy2
          have hfz := hbk.frozen k
          have hmod : (k : Int) % (n : Int) = (j : Int) := by rw [← hj]; rfl
          have hdiv : (k : Int) / (n : Int) = (q : Int) := by rw [← hq]; rfl
          have hqk : q ≤ k := by rw [← hq]; exact Nat.div_le_self _ _
          have HJ := keepHid hj
          have HQ := keepHid hq
          have HX := keepHid hx
          have hxl := u8lt x
          have hn0 : ((n : Int) == 0) = false := by simp; omega
          clear hy1 hy2 hx hbk hbel hj hq
          go_wp2
          go_region
          all_goals
            go_wp2
            go_roundw
            case rel =>
              have e : (byteVals (datL bs N k)).setIfInBounds k (.int .u8 (((x.toNat : Int) + (q : Int)) % 256)) = byteVals (datL bs N (k + 1)) := by
                rw [← datL_set bs hlt, ← byteVals_set]
                congr 2
                have : datAt bs k = x + UInt8.ofNat q := by
                  unfold datAt; rw [if_neg HLN.out, H.out.len, HJ.out, HQ.out, HX.out]; rfl
                rw [this, UInt8.toNat_add, UInt8.toNat_ofNat']
                omega
              refine ⟨k + 1, by omega, by go_num, ?_, ?_⟩
              · rw [← e]; exact (HK.out.put k _).drew
              · exact (HB.out.setCell (Nat.le_refl _) _).drew
            case measure => simp [intOf]; omega
        · obtain rfl : k = N := by omega
          clear hbk hbel
          go_wp2
          go_ret
          exact HFIN.out wr (by rw [← datL_full]; exact HK.out) HB.out
    · have hm2 : (Instr.makeSlice 31 (.int .i64 1024) (.int .i64 1024)).run Tryz.prog w = .ok (.slice (some ⟨w.heap.size, 0, none⟩) N N) w1 := by
        rw [show (1024 : Int) = (N : Int) by rw [← hN]; rfl]; exact hmk
      clear hmk hN
      go_enter Tryz.func44, Tryz.ntmps44
      go_wp2
      go_loopw [13] (fun i wr => ∃ k : Nat, k ≤ N ∧ i = .int .i64 k ∧ Blk wr w.heap.size 5 (byteVals (datL bs N k)) ∧ Below w.heap.size w wr) (fun i _ => N - (intOf i).toNat)
      case atStart => exact ⟨0, Nat.zero_le _, rfl, by rw [datL_zero]; exact HK1.out, HB1.out⟩
      case round =>
        obtain ⟨k, hk, rfl, hbk, hbel⟩ := hrel
        have HK := keepHid hbk
        have HB := keepHid hbel
        by_cases hlt : k < N
        · obtain ⟨j, hj⟩ : ∃ j, k % n = j := ⟨_, rfl⟩
          obtain ⟨q, hq⟩ : ∃ q, k / n = q := ⟨_, rfl⟩
          have hjn : j < n := by rw [← hj]; exact Nat.mod_lt _ h0
          obtain ⟨ad, x, rfl, _, hx, hc⟩ := (H.out.below hbel).at_ hjn
          obtain ⟨y, hy1, hy2⟩ := byteVals_at (cs := datL bs N k) (i := k) (by rw [datL_len bs hk]; exact hlt)
          have hcell := (hbk.cell k).trans hy2
          have hfz := hbk.frozen k
          have hmod : (k : Int) % (n : Int) = (j : Int) := by rw [← hj]; rfl
          have hdiv : (k : Int) / (n : Int) = (q : Int) := by rw [← hq]; rfl
          have hqk : q ≤ k := by rw [← hq]; exact Nat.div_le_self _ _
          have HJ := keepHid hj
          have HQ := keepHid hq
          have HX := keepHid hx
          have hxl := u8lt x
          have hn0 : ((n : Int) == 0) = false := by simp; omega
          clear hy1 hy2 hx hbk hbel hj hq
          go_wp2
          go_region
          all_goals
            go_wp2
            go_roundw
            case rel =>
              have e : (byteVals (datL bs N k)).setIfInBounds k (.int .u8 (((x.toNat : Int) + (q : Int)) % 256)) = byteVals (datL bs N (k + 1)) := by
                rw [← datL_set bs hlt, ← byteVals_set]
                congr 2
                have : datAt bs k = x + UInt8.ofNat q := by
                  unfold datAt; rw [if_neg HLN.out, H.out.len, HJ.out, HQ.out, HX.out]; rfl
                rw [this, UInt8.toNat_add, UInt8.toNat_ofNat']
                omega
              refine ⟨k + 1, by omega, by go_num, ?_, ?_⟩
              · rw [← e]; exact (HK.out.put k _).drew
              · exact (HB.out.setCell (Nat.le_refl _) _).drew
            case measure => simp [intOf]; omega
        · obtain rfl : k = N := by omega
          clear hbk hbel
          go_wp2
          go_ret
          exact HFIN.out wr (by rw [← datL_full]; exact HK.out) HB.out

theorem enc_at0 (num : UInt8) (d : List UInt8) (crc : Bool) : (enc num d crc)[0]? = some (leadB d.length) := rfl
theorem enc_at1 (num : UInt8) (d : List UInt8) (crc : Bool) : (enc num d crc)[1]? = some num := rfl
theorem enc_at2 (num : UInt8) (d : List UInt8) (crc : Bool) : (enc num d crc)[2]? = some (255 - num) := rfl
end Go.Proofs.YtonloefjhofeeaaGreatDoor
