/-
  What the laws' own helpers answer: 'Data', 'made', 'awake'.
-/
import Derived.Test.YtahlllkmjibbpaaBlockUse
import Derived.Test.YtahlllkmjibbpaaBlockMake
namespace Go.Proofs.Ytahlllkmjibbpaa
open Go.RowKit
set_option linter.unusedVariables false

/-- Data as far as they are filled. -/
def datL (b : List UInt8) (N k : Nat) : List UInt8 := dat b k ++ zeros (N - k)
theorem datL_len (b : List UInt8) {N k : Nat} (h : k ≤ N) : (datL b N k).length = N := by simp [datL, dat_len, zeros_len]; omega
theorem datL_zero (b : List UInt8) (N : Nat) : datL b N 0 = zeros N := by simp [datL, dat]
theorem datL_full (b : List UInt8) (N : Nat) : datL b N N = dat b N := by simp [datL, zeros]
theorem dat_succ (b : List UInt8) (k : Nat) : dat b (k + 1) = dat b k ++ [datAt b k] := by simp [dat, List.range_succ]
theorem datL_set (b : List UInt8) {N k : Nat} (h : k < N) : (datL b N k).set k (datAt b k) = datL b N (k + 1) := by
  have e : zeros (N - k) = 0 :: zeros (N - (k + 1)) := by
    unfold zeros; rw [show N - k = (N - (k + 1)) + 1 by omega, List.replicate_succ]
  unfold datL
  rw [e, dat_succ, List.set_append_right _ _ (by rw [dat_len]; exact Nat.le_refl _), dat_len, Nat.sub_self]
  simp
theorem datL_nil (N k : Nat) (h : k ≤ N) : datL [] N k = zeros N := by
  have e : ∀ k, dat [] k = zeros k := by
    intro k
    induction k with
    | zero => rfl
    | succ k ih => rw [dat_succ, ih]; unfold zeros; rw [List.replicate_succ']; rfl
  unfold datL
  rw [e]
  unfold zeros
  rw [List.replicate_append_replicate]
  congr 1
  omega
theorem data_any (A : Option Addr) (n c B : Nat) (bs : List UInt8) (long : Bool) (w : World) (h : Bys w B A n bs) (hB : B ≤ w.heap.size) :
    Calls Try.prog 11 #[.slice A n c, .bool long] w (RetB w (dat bs (longN long))) := by
  obtain ⟨N, hN⟩ : ∃ N, longN long = N := ⟨_, rfl⟩
  have hN2 : N ≤ 1024 ∧ 128 ≤ N := by rcases longN_or long with h | h <;> omega
  have hmk := run_mkbs (N : Int) (N : Int) N N rfl rfl (Nat.le_refl _) (by omega) w
  obtain ⟨w1, hw1⟩ : ∃ w1, w.alloc (.cells (zrow N) 5) = w1 := ⟨_, rfl⟩
  rw [hw1] at hmk
  have hk1 : Blk w1 w.heap.size 5 (zrow N) := by rw [← hw1]; exact Blk.new w _ _
  have hb1 : Below w.heap.size w w1 := by rw [← hw1]; exact (Below.refl _ _).alloc (Nat.le_refl _) _
  have HK1 := keepHid hk1
  have HB1 := keepHid hb1
  have H := keepHid (h.more hB)
  have hfin : ∀ w', Blk w' w.heap.size 5 (byteVals (dat bs N)) → Below w.heap.size w w' → RetB w (dat bs N) (.returned (.slice (some ⟨w.heap.size, 0, none⟩) N N)) w' := fun w' hk hb =>
    ⟨some ⟨w.heap.size, 0, none⟩, N, by rw [dat_len], by rw [dat_len]; exact own_blk hk (Nat.le_refl _) (dat_len _ _) (by omega), by rw [dat_len]; exact Nat.le_refl _, by omega, hb⟩
  have HFIN := keepHid hfin
  have hnm := h.max
  clear hk1 hb1 h hfin hw1
  have hNi : (N : Int) ≤ 1024 := by omega
  rcases Nat.eq_zero_or_pos n with h0 | h0
  · subst h0
    obtain rfl : bs = [] := List.eq_nil_of_length_eq_zero H.out.len
    have hz : byteVals (dat [] N) = zrow N := by rw [← datL_full, datL_nil N N (Nat.le_refl _)]; rfl
    have HZ := keepHid hz
    clear hz
    rw [hN]
    cases long
    · have hm2 : (Instr.makeSlice 22 (.int .i64 128) (.int .i64 128)).run Try.prog w = .ok (.slice (some ⟨w.heap.size, 0, none⟩) N N) w1 := by
        rw [show (128 : Int) = (N : Int) by rw [← hN]; rfl]; exact hmk
      clear hmk hN
      go_enter Try.func11, Try.ntmps11
      go_wp2
      go_loop [13] (fun i => ∃ k : Nat, k ≤ N ∧ i = .int .i64 k) (fun i => N - (intOf i).toNat)
      case atStart => exact ⟨0, Nat.zero_le _, rfl⟩
      case round =>
        obtain ⟨k, hk, rfl⟩ := hrel
        by_cases hlt : k < N
        · go_wp2
          go_round
          case rel => exact ⟨k + 1, by omega, by go_num⟩
          case measure => simp [intOf]; omega
        · go_wp2
          go_ret
          exact HFIN.out w1 (by rw [HZ.out]; exact HK1.out) HB1.out
    · have hm2 : (Instr.makeSlice 22 (.int .i64 1024) (.int .i64 1024)).run Try.prog w = .ok (.slice (some ⟨w.heap.size, 0, none⟩) N N) w1 := by
        rw [show (1024 : Int) = (N : Int) by rw [← hN]; rfl]; exact hmk
      clear hmk hN
      go_enter Try.func11, Try.ntmps11
      go_wp2
      go_loop [13] (fun i => ∃ k : Nat, k ≤ N ∧ i = .int .i64 k) (fun i => N - (intOf i).toNat)
      case atStart => exact ⟨0, Nat.zero_le _, rfl⟩
      case round =>
        obtain ⟨k, hk, rfl⟩ := hrel
        by_cases hlt : k < N
        · go_wp2
          go_round
          case rel => exact ⟨k + 1, by omega, by go_num⟩
          case measure => simp [intOf]; omega
        · go_wp2
          go_ret
          exact HFIN.out w1 (by rw [HZ.out]; exact HK1.out) HB1.out
  · have hln : bs.length ≠ 0 := by rw [H.out.len]; omega
    have HLN := keepHid hln
    clear hln
    rw [hN]
    cases long
    · have hm2 : (Instr.makeSlice 22 (.int .i64 128) (.int .i64 128)).run Try.prog w = .ok (.slice (some ⟨w.heap.size, 0, none⟩) N N) w1 := by
        rw [show (128 : Int) = (N : Int) by rw [← hN]; rfl]; exact hmk
      clear hmk hN
      go_enter Try.func11, Try.ntmps11
      go_wp2
      go_loopw [13] (fun i wr => ∃ k : Nat, k ≤ N ∧ i = .int .i64 k ∧ Blk wr w.heap.size 5 (byteVals (datL bs N k)) ∧ Below w.heap.size w wr) (fun i _ => N - (intOf i).toNat)
      case atStart => exact ⟨0, Nat.zero_le _, rfl, by rw [datL_zero]; exact HK1.out, HB1.out⟩
      case round =>
        obtain ⟨k, hk, rfl, hbk, hbel⟩ := hrel
        have HK := keepHid hbk
        have HB := keepHid hbel
        by_cases hlt : k < N
        · obtain ⟨j, hj⟩ : ∃ j, k % n = j := ⟨_, rfl⟩
          obtain ⟨q, hq⟩ : ∃ q, k / n = q := ⟨_, rfl⟩
          have hjn : j < n := by rw [← hj]; exact Nat.mod_lt _ h0
          obtain ⟨ad, x, rfl, _, hx, hc⟩ := (H.out.below hbel).at_ hjn
          obtain ⟨y, hy1, hy2⟩ := byteVals_at (cs := datL bs N k) (i := k) (by rw [datL_len bs hk]; exact hlt)
          have hcell := (hbk.cell k).trans hy2
          have hfz := hbk.frozen k
          have hmod : (k : Int) % (n : Int) = (j : Int) := by rw [← hj]; rfl
          have hdiv : (k : Int) / (n : Int) = (q : Int) := by rw [← hq]; rfl
          have hqk : q ≤ k := by rw [← hq]; exact Nat.div_le_self _ _
          have HJ := keepHid hj
          have HQ := keepHid hq
          have HX := keepHid hx
          have hxl := u8lt x
          have hn0 : ((n : Int) == 0) = false := by simp; omega
          clear hy1 hy2 hx hbk hbel hj hq
          go_wp2
          go_region
          all_goals
            go_wp2
            go_roundw
            case rel =>
              have e : (byteVals (datL bs N k)).setIfInBounds k (.int .u8 (((x.toNat : Int) + (q : Int)) % 256)) = byteVals (datL bs N (k + 1)) := by
                rw [← datL_set bs hlt, ← byteVals_set]
                congr 2
                have : datAt bs k = x + UInt8.ofNat q := by
                  unfold datAt; rw [if_neg HLN.out, H.out.len, HJ.out, HQ.out, HX.out]; rfl
                rw [this, UInt8.toNat_add, UInt8.toNat_ofNat']
                omega
              refine ⟨k + 1, by omega, by go_num, ?_, ?_⟩
              · rw [← e]; exact (HK.out.put k _).drew
              · exact (HB.out.setCell (Nat.le_refl _) _).drew
            case measure => simp [intOf]; omega
        · obtain rfl : k = N := by omega
          clear hbk hbel
          go_wp2
          go_ret
          exact HFIN.out wr (by rw [← datL_full]; exact HK.out) HB.out
    · have hm2 : (Instr.makeSlice 22 (.int .i64 1024) (.int .i64 1024)).run Try.prog w = .ok (.slice (some ⟨w.heap.size, 0, none⟩) N N) w1 := by
        rw [show (1024 : Int) = (N : Int) by rw [← hN]; rfl]; exact hmk
      clear hmk hN
      go_enter Try.func11, Try.ntmps11
      go_wp2
      go_loopw [13] (fun i wr => ∃ k : Nat, k ≤ N ∧ i = .int .i64 k ∧ Blk wr w.heap.size 5 (byteVals (datL bs N k)) ∧ Below w.heap.size w wr) (fun i _ => N - (intOf i).toNat)
      case atStart => exact ⟨0, Nat.zero_le _, rfl, by rw [datL_zero]; exact HK1.out, HB1.out⟩
      case round =>
        obtain ⟨k, hk, rfl, hbk, hbel⟩ := hrel
        have HK := keepHid hbk
        have HB := keepHid hbel
        by_cases hlt : k < N
        · obtain ⟨j, hj⟩ : ∃ j, k % n = j := ⟨_, rfl⟩
          obtain ⟨q, hq⟩ : ∃ q, k / n = q := ⟨_, rfl⟩
          have hjn : j < n := by rw [← hj]; exact Nat.mod_lt _ h0
          obtain ⟨ad, x, rfl, _, hx, hc⟩ := (H.out.below hbel).at_ hjn
          obtain ⟨y, hy1, hy2⟩ := byteVals_at (cs := datL bs N k) (i := k) (by rw [datL_len bs hk]; exact hlt)
          have hcell := (hbk.cell k).trans hy2
          have hfz := hbk.frozen k
          have hmod : (k : Int) % (n : Int) = (j : Int) := by rw [← hj]; rfl
          have hdiv : (k : Int) / (n : Int) = (q : Int) := by rw [← hq]; rfl
          have hqk : q ≤ k := by rw [← hq]; exact Nat.div_le_self _ _
          have HJ := keepHid hj
          have HQ := keepHid hq
          have HX := keepHid hx
          have hxl := u8lt x
          have hn0 : ((n : Int) == 0) = false := by simp; omega
          clear hy1 hy2 hx hbk hbel hj hq
          go_wp2
          go_region
          all_goals
            go_wp2
            go_roundw
            case rel =>
              have e : (byteVals (datL bs N k)).setIfInBounds k (.int .u8 (((x.toNat : Int) + (q : Int)) % 256)) = byteVals (datL bs N (k + 1)) := by
                rw [← datL_set bs hlt, ← byteVals_set]
                congr 2
                have : datAt bs k = x + UInt8.ofNat q := by
                  unfold datAt; rw [if_neg HLN.out, H.out.len, HJ.out, HQ.out, HX.out]; rfl
                rw [this, UInt8.toNat_add, UInt8.toNat_ofNat']
                omega
              refine ⟨k + 1, by omega, by go_num, ?_, ?_⟩
              · rw [← e]; exact (HK.out.put k _).drew
              · exact (HB.out.setCell (Nat.le_refl _) _).drew
            case measure => simp [intOf]; omega
        · obtain rfl : k = N := by omega
          clear hbk hbel
          go_wp2
          go_ret
          exact HFIN.out wr (by rw [← datL_full]; exact HK.out) HB.out

theorem made_any (num : UInt8) (A : Option Addr) (n c : Nat) (bs : List UInt8) (crc : Bool) (w : World) (h : Bys w w.heap.size A n bs) (hn : n ≤ 140737488355328) :
    Calls Try.prog 13 #[.int .u8 (num.toNat : Int), .slice A n c, .bool crc] w fun e w' => e = .returned (.string (strB (enc num bs crc))) ∧ Below w.heap.size w w' := by
  have H := keepHid h
  have hu := u8lt num
  by_cases h1 : n = 1024
  · subst h1
    obtain ⟨w1, hw1⟩ : ∃ w1, w.alloc (.cells #[.int .u8 2, .int .u8 (num.toNat : Int), .int .u8 (255 - (num.toNat : Int))] 5) = w1 := ⟨_, rfl⟩
    have hcv : (convert 22 9 (.slice (some ⟨w.heap.size, 0, none⟩) 3 3)).run Try.prog w1 = .ok (.string (strB [2, num, 255 - num])) w1 := by
      rw [← hw1]; exact conv_new w _ rfl _ [2, num, 255 - num] 3 rfl (by simp [byteVals, not8]) (by omega)
    have hb1 : Below w.heap.size w w1 := by rw [← hw1]; exact (Below.refl _ _).alloc (Nat.le_refl _) _
    have H1 := keepHid (H.out.below hb1)
    have HB1 := keepHid hb1
    have hda : (convert 22 9 (.slice A 1024 c)).run Try.prog w1 = .ok (.string (strB bs)) w1 := run_str 22 5 9 Try.underlying22 Try.underlying5 Try.underlying9 H1.out
    have hl := H.out.len
    have had := run_strAdd (P := Try.prog) [2, num, 255 - num] bs (by rw [hl]; simp only [List.length_cons, List.length_nil]; omega) w1
    have HENC : Hid ((2 :: num :: (255 - num) :: bs) ++ trl crc bs = enc num bs crc) := keepHid (by unfold enc; rw [hl]; simp [leadB]; try omega)
    have HL := keepHid hl
    clear hb1 h hl
    cases crc
    all_goals
      go_enter Try.func13, Try.ntmps13
      go_wp2_with fail
    · refine (check_any _ _ _ _ _ _ H1.out).mono ?_
      rintro e w' ⟨rfl, rfl⟩
      clear hw1 hcv hda had
      obtain ⟨w2, hw2⟩ : ∃ w2, w1.alloc (.cells #[.int .u8 (chk bs : Nat)] 5) = w2 := ⟨_, rfl⟩
      have hcl := chk_lt bs
      have hct : (convert 22 9 (.slice (some ⟨w1.heap.size, 0, none⟩) 1 1)).run Try.prog w2 = .ok (.string (strB (trl false bs))) w2 := by
        rw [← hw2]; exact conv_new w1 _ rfl _ (trl false bs) 1 rfl (by simp [byteVals, trl]; omega) (by omega)
      have hae := run_strAdd (P := Try.prog) (2 :: num :: (255 - num) :: bs) (trl false bs) (by simp only [List.length_cons, HL.out, trl_len, szT]; simp; try omega) w2
      rw [HENC.out] at hae
      have HB2 : Hid (Below w.heap.size w w2) := keepHid (by rw [← hw2]; exact HB1.out.alloc HB1.out.size _)
      go_wp2
      go_ret
      exact ⟨rfl, HB2.out⟩
    · refine (crc_any _ _ _ _ _ _ H1.out).mono ?_
      rintro e w' ⟨rfl, rfl⟩
      clear hw1 hcv hda had
      have hcl := crc_lt bs
      obtain ⟨w2, hw2⟩ : ∃ w2, w1.alloc (.cells #[.int .u8 ((crcL bs : Int) / 256), .int .u8 ((crcL bs : Int) % 256)] 5) = w2 := ⟨_, rfl⟩
      have hct : (convert 22 9 (.slice (some ⟨w1.heap.size, 0, none⟩) 2 2)).run Try.prog w2 = .ok (.string (strB (trl true bs))) w2 := by
        rw [← hw2]; exact conv_new w1 _ rfl _ (trl true bs) 2 rfl (by simp [byteVals, trl]; omega) (by omega)
      have hae := run_strAdd (P := Try.prog) (2 :: num :: (255 - num) :: bs) (trl true bs) (by simp only [List.length_cons, HL.out, trl_len, szT]; simp; try omega) w2
      rw [HENC.out] at hae
      have HB2 : Hid (Below w.heap.size w w2) := keepHid (by rw [← hw2]; exact HB1.out.alloc HB1.out.size _)
      go_wp2
      go_ret
      exact ⟨rfl, HB2.out⟩
  · have hn1 : ((n : Int) == 1024) = false := by simp; omega
    obtain ⟨w1, hw1⟩ : ∃ w1, w.alloc (.cells #[.int .u8 1, .int .u8 (num.toNat : Int), .int .u8 (255 - (num.toNat : Int))] 5) = w1 := ⟨_, rfl⟩
    have hcv : (convert 22 9 (.slice (some ⟨w.heap.size, 0, none⟩) 3 3)).run Try.prog w1 = .ok (.string (strB [1, num, 255 - num])) w1 := by
      rw [← hw1]; exact conv_new w _ rfl _ [1, num, 255 - num] 3 rfl (by simp [byteVals, not8]) (by omega)
    have hb1 : Below w.heap.size w w1 := by rw [← hw1]; exact (Below.refl _ _).alloc (Nat.le_refl _) _
    have H1 := keepHid (H.out.below hb1)
    have HB1 := keepHid hb1
    have hda : (convert 22 9 (.slice A n c)).run Try.prog w1 = .ok (.string (strB bs)) w1 := run_str 22 5 9 Try.underlying22 Try.underlying5 Try.underlying9 H1.out
    have hl := H.out.len
    have had := run_strAdd (P := Try.prog) [1, num, 255 - num] bs (by rw [hl]; simp only [List.length_cons, List.length_nil]; omega) w1
    have HENC : Hid ((1 :: num :: (255 - num) :: bs) ++ trl crc bs = enc num bs crc) := keepHid (by unfold enc; rw [hl]; simp [leadB]; try omega)
    have HL := keepHid hl
    clear hb1 h hl
    cases crc
    all_goals
      go_enter Try.func13, Try.ntmps13
      go_wp2_with fail
    · refine (check_any _ _ _ _ _ _ H1.out).mono ?_
      rintro e w' ⟨rfl, rfl⟩
      clear hw1 hcv hda had
      obtain ⟨w2, hw2⟩ : ∃ w2, w1.alloc (.cells #[.int .u8 (chk bs : Nat)] 5) = w2 := ⟨_, rfl⟩
      have hcl := chk_lt bs
      have hct : (convert 22 9 (.slice (some ⟨w1.heap.size, 0, none⟩) 1 1)).run Try.prog w2 = .ok (.string (strB (trl false bs))) w2 := by
        rw [← hw2]; exact conv_new w1 _ rfl _ (trl false bs) 1 rfl (by simp [byteVals, trl]; omega) (by omega)
      have hae := run_strAdd (P := Try.prog) (1 :: num :: (255 - num) :: bs) (trl false bs) (by simp only [List.length_cons, HL.out, trl_len, szT]; simp; try omega) w2
      rw [HENC.out] at hae
      have HB2 : Hid (Below w.heap.size w w2) := keepHid (by rw [← hw2]; exact HB1.out.alloc HB1.out.size _)
      go_wp2
      go_ret
      exact ⟨rfl, HB2.out⟩
    · refine (crc_any _ _ _ _ _ _ H1.out).mono ?_
      rintro e w' ⟨rfl, rfl⟩
      clear hw1 hcv hda had
      have hcl := crc_lt bs
      obtain ⟨w2, hw2⟩ : ∃ w2, w1.alloc (.cells #[.int .u8 ((crcL bs : Int) / 256), .int .u8 ((crcL bs : Int) % 256)] 5) = w2 := ⟨_, rfl⟩
      have hct : (convert 22 9 (.slice (some ⟨w1.heap.size, 0, none⟩) 2 2)).run Try.prog w2 = .ok (.string (strB (trl true bs))) w2 := by
        rw [← hw2]; exact conv_new w1 _ rfl _ (trl true bs) 2 rfl (by simp [byteVals, trl]; omega) (by omega)
      have hae := run_strAdd (P := Try.prog) (1 :: num :: (255 - num) :: bs) (trl true bs) (by simp only [List.length_cons, HL.out, trl_len, szT]; simp; try omega) w2
      rw [HENC.out] at hae
      have HB2 : Hid (Below w.heap.size w w2) := keepHid (by rw [← hw2]; exact HB1.out.alloc HB1.out.size _)
      go_wp2
      go_ret
      exact ⟨rfl, HB2.out⟩

theorem enc_at0 (num : UInt8) (d : List UInt8) (crc : Bool) : (enc num d crc)[0]? = some (leadB d.length) := rfl
theorem enc_at1 (num : UInt8) (d : List UInt8) (crc : Bool) : (enc num d crc)[1]? = some num := rfl
theorem enc_at2 (num : UInt8) (d : List UInt8) (crc : Bool) : (enc num d crc)[2]? = some (255 - num) := rfl
theorem ScanPost.is {w w' : World} {s : Nat} {x : UInt8} {d : List UInt8} {e : Ending} (h : ScanPost w (s, x, d) e w') :
    ∃ A c, e = .returned (.tuple #[.agg #[.int .u8 (x.toNat : Int), .slice A d.length c], .int .i64 (s : Int)]) ∧ OwnB w' w.heap.size 5 (.slice A d.length c) d.length d ∧ d.length ≤ c ∧ c ≤ 9223372036854775807 ∧ Below w.heap.size w w' := h

set_option maxRecDepth 100000 in
theorem awake_any (w : World) :
    Calls Try.prog 10 #[] w fun e w' => e = .returned (.bool true) ∧ Below w.heap.size w w' := by
  have hmk := run_mkbs 128 128 128 128 rfl rfl (Nat.le_refl _) (by omega) w
  obtain ⟨w1, hw1⟩ : ∃ w1, w.alloc (.cells (zrow 128) 5) = w1 := ⟨_, rfl⟩
  rw [hw1] at hmk
  have HZ : Hid (Bys w1 w1.heap.size (some ⟨w.heap.size, 0, none⟩) 128 (zeros 128)) := keepHid (by
    rw [← hw1]; exact (bys_new w _ (zeros 128) 128 (zeros_len _) (by decide) (zrow 128) rfl _ rfl).more (by simp))
  have HB1 : Hid (Below w.heap.size w w1) := keepHid (by rw [← hw1]; exact (Below.refl _ _).alloc (Nat.le_refl _) _)
  have hle : (enc 1 (zeros 128) false).length = 132 := by rw [enc_len, zeros_len]; rfl
  have HLE := keepHid hle
  have hsc : scanL (enc 1 (zeros 128) false) false = (2, 1, zeros 128) := by
    have := scan_enc 1 (zeros 128) false (.inl (zeros_len _)) []
    rwa [List.append_nil] at this
  have HSC := keepHid hsc
  clear hw1 hle hsc
  go_enter Try.func10, Try.ntmps10
  go_wp2_with fail
  refine (make_any 1 _ 128 128 _ _ false (.inl rfl) _ HZ.out (Nat.le_refl _)).mono ?_
  rintro e w2 ⟨A2, c2, rfl, ho2, hc1, hc2, hb2⟩
  rw [HLE.out] at hc1 ho2 ⊢
  obtain ⟨g2, _, hv, hg1, hg2, _, _⟩ := ho2.some_form (by omega)
  obtain rfl : A2 = some ⟨g2, 0, none⟩ := by injection hv
  have HO2 := keepHid ho2
  have HB2 := keepHid (HB1.out.trans (hb2.mono HB1.out.size))
  clear hv hmk ho2 hb2
  go_wp2_with fail
  refine (scan_any _ 132 _ _ _ false _ (HO2.out.bys (by omega)) (Nat.le_refl _) hc1 hc2).mono ?_
  rw [HSC.out]
  intro e w3 hsp
  obtain ⟨A3, c3, rfl, ho3, hc3, hc4, hb3⟩ := hsp.is
  have hcell : ∀ (i : Nat) (u : UInt8), (enc 1 (zeros 128) false)[i]? = some u → w3.cell? ⟨g2, i, none⟩ = some (.int .u8 (u.toNat : Int)) := fun i u hu => (hb3.cell (p := ⟨g2, i, none⟩) hg2).trans (HO2.out.cell hu)
  have h0 : w3.cell? ⟨g2, 0, none⟩ = some (.int .u8 1) := hcell 0 1 (by rw [enc_at0, zeros_len]; rfl)
  have h1 : w3.cell? ⟨g2, 1, none⟩ = some (.int .u8 1) := hcell 1 1 (enc_at1 _ _ _)
  have h2 : w3.cell? ⟨g2, 2, none⟩ = some (.int .u8 254) := hcell 2 254 (enc_at2 _ _ _)
  obtain ⟨w4, hw4⟩ : ∃ w4, w3.alloc (.cells #[.int .u8 1, .slice A3 128 c3] 28) = w4 := ⟨_, rfl⟩
  have hb34 : Below w3.heap.size w3 w4 := by rw [← hw4]; exact (Below.refl _ _).alloc (Nat.le_refl _) _
  have hk4 : Blk w4 w3.heap.size 28 #[.int .u8 1, .slice A3 128 c3] := by rw [← hw4]; exact Blk.new w3 _ _
  have HB3 := keepHid (HB2.out.trans (hb3.mono HB2.out.size))
  have i0 : w4.cell? ⟨g2, 0, none⟩ = some (.int .u8 1) := (hb34.cell (World.block_lt_of_cell? _ _ h0)).trans h0
  have i1 : w4.cell? ⟨g2, 1, none⟩ = some (.int .u8 1) := (hb34.cell (World.block_lt_of_cell? _ _ h1)).trans h1
  have i2 : w4.cell? ⟨g2, 2, none⟩ = some (.int .u8 254) := (hb34.cell (World.block_lt_of_cell? _ _ h2)).trans h2
  have k0 : w4.cell? ⟨w3.heap.size, 0, none⟩ = some (.int .u8 1) := hk4.cell 0
  have k1 : w4.cell? ⟨w3.heap.size, 1, none⟩ = some (.slice A3 128 c3) := hk4.cell 1
  have HB4 := keepHid (HB3.out.trans (hb34.mono HB3.out.size))
  clear h0 h1 h2 hb34 hk4 HB3
  rw [zeros_len, show (((1 : UInt8).toNat : Nat) : Int) = 1 from rfl, show ((2 : Nat) : Int) = 2 from rfl]
  clear hsp ho3 hc3 hb3 hcell
  go_wp2
  go_ret
  exact ⟨rfl, HB4.out⟩
end Go.Proofs.Ytahlllkmjibbpaa
