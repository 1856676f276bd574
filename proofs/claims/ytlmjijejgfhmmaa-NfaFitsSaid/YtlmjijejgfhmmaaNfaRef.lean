/-
  Stage 7's statements: their own Fits, told by trying all parts; and how many places a pattern has.
-/
import Derived.Test.YtlmjijejgfhmmaaNfaKit
import Derived.Lib.QuietBelow
import Derived.LoopTactic
namespace Go.Proofs.Ytlmjijejgfhmmaa
open Go.RowKit
set_option linter.unusedVariables false

theorem mt_thn {a b : Re} {s : List UInt8} : Mt (.thn a b) s ↔ ∃ k, k ≤ s.length ∧ Mt a (s.take k) ∧ Mt b (s.drop k) := by
  constructor
  · rintro ⟨u, v, rfl, h1, h2⟩
    exact ⟨u.length, by simp, by simpa using h1, by simpa using h2⟩
  · rintro ⟨k, hk, h1, h2⟩
    exact ⟨s.take k, s.drop k, (List.take_append_drop k s).symm, h1, h2⟩
theorem mt_star {a : Re} {s : List UInt8} (hs : s ≠ []) : Mt (.star a) s ↔ ∃ k, 1 ≤ k ∧ k ≤ s.length ∧ Mt a (s.take k) ∧ Mt (.star a) (s.drop k) := by
  constructor
  · rintro ⟨us, rfl, h⟩
    induction us with
    | nil => exact absurd rfl hs
    | cons u us ih =>
      cases u with
      | nil =>
        have e : (([] : List UInt8) :: us).flatten = us.flatten := by simp
        rw [e] at hs ⊢
        exact ih (fun v hv => h v (by simp [hv])) hs
      | cons c u =>
        refine ⟨(c :: u).length, by simp, by simp, by simpa using h (c :: u) (by simp), us, by simp, fun v hv => h v (by simp [hv])⟩
  · rintro ⟨k, _, hk, h1, us, h2, h3⟩
    refine ⟨s.take k :: us, ?_, fun u hu => ?_⟩
    · rw [List.flatten_cons, ← h2, List.take_append_drop]
    · rcases List.mem_cons.1 hu with rfl | hu
      · exact h1
      · exact h3 u hu
def LawFits (r : Re) : Prop := ∀ (S : Nat → Prop) (h : Hd) (w : World) (bs : List UInt8) (b : Bool), IsS w S h r → bs.length ≤ 1000000 → (b = true ↔ Mt r bs) →
  Calls Try.prog 13 #[hdV h, .string (strB bs)] w fun e w' => e = .returned (.bool b) ∧ Below w.heap.size w w'
theorem str_eq (bs : List UInt8) : ((strB bs).toList == (⟨#[]⟩ : ByteArray).toList) = bs.isEmpty := by
  rw [strB_toList, show (⟨#[]⟩ : ByteArray).toList = [] from strB_toList []]
  cases bs <;> rfl
theorem str_empty (bs : List UInt8) : (strB bs).toList.isEmpty = bs.isEmpty := by rw [strB_toList]
set_option maxHeartbeats 1000000 in
theorem fits_nil : LawFits .nil := by
  intro S h w bs b hi hl hb
  obtain rfl : h = hd0 := hi
  have hb' : b = bs.isEmpty := by
    rw [Bool.eq_iff_iff, hb]
    simp [Mt]
  subst hb'
  have he := str_empty bs
  have he2 := str_eq bs
  have htl := strB_toList bs
  generalize hE : bs.isEmpty = E at *
  rw [hdV_hd0]
  clear hb hl
  cases E
  · have hn : ¬ (strB bs).toList = [] := by rw [htl]; intro e; rw [e] at hE; cases hE
    generalize strB bs = X at *
    clear htl hE
    go_enter Try.func13, Try.ntmps13
    go_wp2
    go_ret
    exact ⟨rfl, (Below.refl _ _).alloc (Nat.le_refl _) _⟩
  · have hn : (strB bs).toList = [] := by rw [htl]; cases bs with | nil => rfl | cons c l => cases hE
    generalize strB bs = X at *
    clear htl hE
    go_enter Try.func13, Try.ntmps13
    go_wp2
    go_ret
    exact ⟨rfl, (Below.refl _ _).alloc (Nat.le_refl _) _⟩

set_option maxHeartbeats 2000000 in
theorem fits_one (x : St) : LawFits (.one x) := by
  intro S h w bs b hi hl hb
  obtain rfl : h = ⟨1, x, none, 0, 0⟩ := hi
  obtain ⟨w1, hw1⟩ : ∃ w1, w.alloc (.cells (hdC ⟨1, x, none, 0, 0⟩) 30) = w1 := ⟨_, rfl⟩
  have hb1 : Below w.heap.size w w1 := by rw [← hw1]; exact (Below.refl _ _).alloc (Nat.le_refl _) _
  have hk1 : Blk w1 w.heap.size 30 (hdC ⟨1, x, none, 0, 0⟩) := by rw [← hw1]; exact Blk.new _ _ _
  have hsz : (strB bs).size = bs.length := strB_size bs
  unfold hdC at hk1 hw1
  obtain ⟨n0, n1, n2, n3, n4, n5, nf⟩ := blk6 hk1
  have HB1 := keepHid hb1
  have q1 := fun d os => cell_regrown n1 d os
  have q2 := fun d os => cell_regrown n2 d os
  have q3 := fun d os => cell_regrown n3 d os
  have q4 := fun d os => cell_regrown n4 d os
  clear hk1 hb1 n1 n2 n3 n4 n5 nf
  unfold hdV
  by_cases h1 : bs.length = 1
  · obtain ⟨c, rfl⟩ : ∃ c, bs = [c] := by
      match bs, h1 with
      | [c], _ => exact ⟨c, rfl⟩
    have hb' : b = hasS x c.toNat := by
      rw [Bool.eq_iff_iff, hb]
      simp [Mt]
    subst hb'
    have hix := run_idx (l := [c]) (k := 0) (c := c) rfl 0 rfl
    have hln : (([c] : List UInt8).length : Int) = 1 := rfl
    have C0 := keepHid (fun d os => Calls.regrown_of (has_any x c.toNat (u8lt c) (Sort.grow (redrawn w1 d) os)))
    unfold stV at C0
    generalize hasS x c.toNat = R at *
    clear hb hl h1
    have hsz' : (strB [c]).size = 1 := hsz
    clear hsz hln
    generalize strB [c] = X at *
    go_enter Try.func13, Try.ntmps13
    go_wp2_with fail
    refine wp_region_quiet_below (by kernel_rfl) (by kernel_rfl) ?_
    repeat (go_big_quiet_step (with_reducible exact C0.out _ _))
    refine wpQuiet_nil ?_
    intro _ hw'
    obtain ⟨⟨dq, osq⟩, hw''⟩ := hw'
    subst hw''
    have hbr := below_regrown w1 dq osq
    go_wp2
    go_ret
    exact ⟨rfl, HB1.out.trans (hbr.mono HB1.out.size)⟩
  · have hb' : b = false := by
      rw [Bool.eq_false_iff]
      intro e
      obtain ⟨c, e2, _⟩ := hb.1 e
      rw [e2] at h1
      exact h1 rfl
    subst hb'
    have hne : ((bs.length : Int) == 1) = false := by simp only [beq_eq_false_iff_ne, ne_eq]; omega
    generalize hn : bs.length = n at *
    clear hb hl h1
    go_enter Try.func13, Try.ntmps13
    go_wp2_with fail
    refine wp_region_quiet_below (by kernel_rfl) (by kernel_rfl) ?_
    repeat (go_big_quiet_step (fail))
    refine wpQuiet_nil ?_
    intro _ hw'
    obtain ⟨⟨dq, osq⟩, hw''⟩ := hw'
    subst hw''
    have hbr := below_regrown w1 dq osq
    go_wp2
    go_ret
    exact ⟨rfl, HB1.out.trans (hbr.mono HB1.out.size)⟩

/-- Whatever it is: yes or no. -/
theorem bool_of (p : Prop) : ∃ b : Bool, b = true ↔ p := by
  rcases Classical.em p with h | h
  · exact ⟨true, by simp [h]⟩
  · exact ⟨false, by simp [h]⟩
set_option maxHeartbeats 2000000 in
theorem fits_alt {a c : Re} (HA : LawFits a) (HC : LawFits c) : LawFits (.alt a c) := by
  intro S h w bs b hi hl hb
  obtain ⟨G, cap, x, y, rfl, hc1, hcm, hG, hx, hy, hix, hiy⟩ := hi
  obtain ⟨ba, hba⟩ := bool_of (Mt a bs)
  obtain ⟨bc, hbc⟩ := bool_of (Mt c bs)
  have hb' : b = (ba || bc) := by
    rw [Bool.eq_iff_iff, hb, Bool.or_eq_true, hba, hbc]
    exact Iff.rfl
  subst hb'
  obtain ⟨w1, hw1⟩ : ∃ w1, w.alloc (.cells #[.int .i64 3, .int .u64 0, .int .u64 0, .int .u64 0, .int .u64 0, .slice (some ⟨G, 0, none⟩) 2 cap] 30) = w1 := ⟨_, rfl⟩
  have hb1 : Below w.heap.size w w1 := by rw [← hw1]; exact (Below.refl _ _).alloc (Nat.le_refl _) _
  have hk1 : Blk w1 w.heap.size 30 #[.int .i64 3, .int .u64 0, .int .u64 0, .int .u64 0, .int .u64 0, .slice (some ⟨G, 0, none⟩) 2 cap] := by rw [← hw1]; exact Blk.new _ _ _
  obtain ⟨n0, n1, n2, n3, n4, n5, nf⟩ := blk6 hk1
  obtain ⟨x0, x1, x2, x3, x4, x5⟩ := at0 (hx.keep (hb1.block G hx.lt))
  have HX := keepHid (HA S x w1 bs ba (hix.below hb1) hl hba)
  have HY := keepHid (fun w2 (h12 : Below w1.heap.size w1 w2) => HC S y w2 bs bc ((hiy.below hb1).below h12) hl hbc)
  have HYC := keepHid (fun w2 (h12 : Below w1.heap.size w1 w2) => at6 ((hy.keep (hb1.block G hy.lt)).keep (h12.block G (Nat.lt_of_lt_of_le hy.lt hb1.size))))
  have HB1 := keepHid hb1
  have HK1 := keepHid hk1
  clear hb1 hk1 hx hy hix hiy hl hb hba hbc HA HC
  rw [hdV_st0]
  unfold hdV at HX HY
  cases ba
  · go_enter Try.func13, Try.ntmps13
    go_wp2_with fail
    with_reducible refine HX.out.mono ?_
    rintro e w2 ⟨rfl, hb2⟩
    obtain ⟨y0, y1, y2, y3, y4, y5⟩ := HYC.out w2 hb2
    have HY2 := keepHid (HY.out w2 hb2)
    obtain ⟨m0, m1, m2, m3, m4, m5, mf⟩ := blk6 (HK1.out.below hb2 HK1.out.lt)
    have HB2 := keepHid (HB1.out.trans (hb2.mono HB1.out.size))
    clear hb2 n0 n1 n2 n3 n4 n5 nf x0 x1 x2 x3 x4 x5 hw1
    go_wp2_with fail
    with_reducible refine HY2.out.mono ?_
    rintro e w3 ⟨rfl, hb3⟩
    go_wp2
    go_ret
    exact ⟨rfl, HB2.out.trans (hb3.mono HB2.out.size)⟩
  · go_enter Try.func13, Try.ntmps13
    go_wp2_with fail
    with_reducible refine HX.out.mono ?_
    rintro e w2 ⟨rfl, hb2⟩
    go_wp2
    go_ret
    exact ⟨rfl, HB1.out.trans (hb2.mono HB1.out.size)⟩


set_option maxHeartbeats 4000000 in
theorem fits_thn {a c : Re} (HA : LawFits a) (HC : LawFits c) : LawFits (.thn a c) := by
  intro S h w bs b hi hl hb
  obtain ⟨G, cap, x, y, rfl, hc1, hcm, hG, hx, hy, hix, hiy⟩ := hi
  rw [mt_thn] at hb
  obtain ⟨w1, hw1⟩ : ∃ w1, w.alloc (.cells #[.int .i64 2, .int .u64 0, .int .u64 0, .int .u64 0, .int .u64 0, .slice (some ⟨G, 0, none⟩) 2 cap] 30) = w1 := ⟨_, rfl⟩
  have hb1 : Below w.heap.size w w1 := by rw [← hw1]; exact (Below.refl _ _).alloc (Nat.le_refl _) _
  have hk1 : Blk w1 w.heap.size 30 #[.int .i64 2, .int .u64 0, .int .u64 0, .int .u64 0, .int .u64 0, .slice (some ⟨G, 0, none⟩) 2 cap] := by rw [← hw1]; exact Blk.new _ _ _
  obtain ⟨n0, n1, n2, n3, n4, n5, nf⟩ := blk6 hk1
  have HX := keepHid (fun w2 (h12 : Below w1.heap.size w1 w2) (l : List UInt8) (bx : Bool) (hl : l.length ≤ 1000000) (hb : bx = true ↔ Mt a l) => HA S x w2 l bx ((hix.below hb1).below h12) hl hb)
  have HY := keepHid (fun w2 (h12 : Below w1.heap.size w1 w2) (l : List UInt8) (bx : Bool) (hl : l.length ≤ 1000000) (hb : bx = true ↔ Mt c l) => HC S y w2 l bx ((hiy.below hb1).below h12) hl hb)
  have HXC := keepHid (fun w2 (h12 : Below w1.heap.size w1 w2) => at0 ((hx.keep (hb1.block G hx.lt)).keep (h12.block G (Nat.lt_of_lt_of_le hx.lt hb1.size))))
  have HYC := keepHid (fun w2 (h12 : Below w1.heap.size w1 w2) => at6 ((hy.keep (hb1.block G hy.lt)).keep (h12.block G (Nat.lt_of_lt_of_le hy.lt hb1.size))))
  have HB1 := keepHid hb1
  have HK1 := keepHid hk1
  have HBS := keepHid hb
  obtain ⟨n, hn⟩ : ∃ n, bs.length = n := ⟨_, rfl⟩
  have hsz : (strB bs).size = n := by rw [strB_size, hn]
  have HN := keepHid hn
  rw [hn] at hl
  have HL := keepHid hl
  have hli : (n : Int) ≤ 1000000 := by omega
  clear hb1 hk1 hx hy hix hiy hl hb hn HA HC
  rw [hdV_st0]
  go_enter Try.func13, Try.ntmps13
  go_wp2
  try rw [hw1]
  clear hw1 n0 n1 n2 n3 n4 n5 nf
  go_loopw [5] (fun i wr => ∃ j : Nat, j ≤ n + 1 ∧ i = .int .i64 j ∧ Hid (∀ i, i < j → ¬ (Mt a (bs.take i) ∧ Mt c (bs.drop i))) ∧ Hid (Below w1.heap.size w1 wr)) (fun i _ => n + 1 - (intOf i).toNat)
  case atStart => exact ⟨0, Nat.zero_le _, rfl, keepHid (fun i hi => by omega), keepHid (Below.refl _ _)⟩
  case round =>
    obtain ⟨j, hj, rfl, HNO, HBR⟩ := hrel
    rcases Nat.lt_or_ge n j with hgt | hle
    · have hji : ¬ (j : Int) ≤ (n : Int) := by omega
      go_wp2
      go_ret
      have hbf : b = false := by
        rw [Bool.eq_false_iff]
        intro e
        obtain ⟨k, hk, h1, h2⟩ := HBS.out.1 e
        rw [HN.out] at hk
        exact HNO.out k (by omega) ⟨h1, h2⟩
      subst hbf
      exact ⟨rfl, HB1.out.trans (HBR.out.mono HB1.out.size)⟩
    · have hji : (j : Int) ≤ (n : Int) := by omega
      obtain ⟨ba, hba⟩ := bool_of (Mt a (bs.take j))
      obtain ⟨bc, hbc⟩ := bool_of (Mt c (bs.drop j))
      have hs1 := run_head (l := bs) (k := j) (by rw [HN.out]; exact hle) (j : Int) rfl
      have hs2 := run_tail (l := bs) (k := j) (by rw [HN.out]; exact hle) (j : Int) rfl
      obtain ⟨n0, n1, n2, n3, n4, n5, nf⟩ := blk6 (HK1.out.below HBR.out HK1.out.lt)
      obtain ⟨x0, x1, x2, x3, x4, x5⟩ := HXC.out wr HBR.out
      obtain ⟨y0, y1, y2, y3, y4, y5⟩ := HYC.out wr HBR.out
      have r5 := fun d os => cell_regrown n5 d os
      have q0 := fun d os => cell_regrown x0 d os
      have q1 := fun d os => cell_regrown x1 d os
      have q2 := fun d os => cell_regrown x2 d os
      have q3 := fun d os => cell_regrown x3 d os
      have q4 := fun d os => cell_regrown x4 d os
      have q5 := fun d os => cell_regrown x5 d os
      have p0 := fun d os => cell_regrown y0 d os
      have p1 := fun d os => cell_regrown y1 d os
      have p2 := fun d os => cell_regrown y2 d os
      have p3 := fun d os => cell_regrown y3 d os
      have p4 := fun d os => cell_regrown y4 d os
      have p5 := fun d os => cell_regrown y5 d os
      have C0 := keepHid (fun d os => Calls.regrown_of (HX.out (Sort.grow (redrawn wr d) os) (HBR.out.trans ((below_regrown wr d os).mono HBR.out.size)) (bs.take j) ba (by have := HL.out; have := HN.out; simp; omega) hba))
      have C1 := keepHid (fun d os => Calls.regrown_of (HY.out (Sort.grow (redrawn wr d) os) (HBR.out.trans ((below_regrown wr d os).mono HBR.out.size)) (bs.drop j) bc (by have := HL.out; have := HN.out; simp; omega) hbc))
      unfold hdV at C0 C1
      have HBA := keepHid hba
      have HBC := keepHid hbc
      clear n0 n1 n2 n3 n4 n5 nf x0 x1 x2 x3 x4 x5 y0 y1 y2 y3 y4 y5 hba hbc
      generalize wr = wq at *
      have hpick : (bs.take j).length ≤ n := by simp; have := HN.out; omega
      cases ba
      · go_wp2_with fail
        refine wp_region_quiet_below (by kernel_rfl) (by kernel_rfl) ?_
        repeat (go_big_quiet_step (first | (with_reducible exact C0.out _ _) | (with_reducible exact C1.out _ _)))
        refine wpQuiet_nil ?_
        intro _ hw'
        obtain ⟨⟨dq, osq⟩, hw''⟩ := hw'
        subst hw''
        have hbr := HBR.out.trans ((below_regrown wq dq osq).mono HBR.out.size)
        go_wp2
        go_roundw
        case rel => exact ⟨j + 1, by omega, by go_num, keepHid (fun i hi => by
          rcases Nat.lt_or_ge i j with h | h
          · exact HNO.out i h
          · obtain rfl : i = j := by omega
            exact fun hh => absurd (HBA.out.2 hh.1) (by simp)), keepHid hbr⟩
        case measure => simp [intOf]; omega
      · cases bc
        · go_wp2_with fail
          refine wp_region_quiet_below (by kernel_rfl) (by kernel_rfl) ?_
          repeat (go_big_quiet_step (first | (with_reducible exact C0.out _ _) | (with_reducible exact C1.out _ _)))
          refine wpQuiet_nil ?_
          intro _ hw'
          obtain ⟨⟨dq, osq⟩, hw''⟩ := hw'
          subst hw''
          have hbr := HBR.out.trans ((below_regrown wq dq osq).mono HBR.out.size)
          go_wp2
          go_roundw
          case rel => exact ⟨j + 1, by omega, by go_num, keepHid (fun i hi => by
            rcases Nat.lt_or_ge i j with h | h
            · exact HNO.out i h
            · obtain rfl : i = j := by omega
              exact fun hh => absurd (HBC.out.2 hh.2) (by simp)), keepHid hbr⟩
          case measure => simp [intOf]; omega
        · go_wp2_with fail
          refine wp_region_quiet_below (by kernel_rfl) (by kernel_rfl) ?_
          repeat (go_big_quiet_step (first | (with_reducible exact C0.out _ _) | (with_reducible exact C1.out _ _)))
          refine wpQuiet_nil ?_
          intro _ hw'
          obtain ⟨⟨dq, osq⟩, hw''⟩ := hw'
          subst hw''
          have hbr := HBR.out.trans ((below_regrown wq dq osq).mono HBR.out.size)
          have hbt : b = true := HBS.out.2 ⟨j, by rw [HN.out]; exact hle, HBA.out.1 (by simp), HBC.out.1 (by simp)⟩
          have HBT := keepHid hbt
          clear hbt
          go_wp2
          go_ret
          exact ⟨by rw [HBT.out]; rfl, HB1.out.trans (hbr.mono HB1.out.size)⟩

set_option maxHeartbeats 4000000 in
theorem fits_star_step {a : Re} (HA : LawFits a) (N0 : Nat) (HC : ∀ (S : Nat → Prop) (h : Hd) (w : World) (bs : List UInt8) (b : Bool), IsS w S h (.star a) → bs.length < N0 → bs.length ≤ 1000000 → (b = true ↔ Mt (.star a) bs) →
    Calls Try.prog 13 #[hdV h, .string (strB bs)] w fun e w' => e = .returned (.bool b) ∧ Below w.heap.size w w') (S : Nat → Prop) (h : Hd) (w : World) (bs : List UInt8) (b : Bool) (hi : IsS w S h (.star a)) (hlN : bs.length = N0) (hl : bs.length ≤ 1000000) (hb : b = true ↔ Mt (.star a) bs) (hne : bs ≠ []) :
    Calls Try.prog 13 #[hdV h, .string (strB bs)] w fun e w' => e = .returned (.bool b) ∧ Below w.heap.size w w' := by
  have hi0 := hi
  obtain ⟨G, cap, x, rfl, hc1, hcm, hG, hx, hix⟩ := hi
  rw [mt_star hne] at hb
  have htl := strB_toList bs
  have he1 : ((strB bs).toList == (⟨#[]⟩ : ByteArray).toList) = false := by rw [str_eq]; cases bs with | nil => exact absurd rfl hne | cons c l => rfl
  have he2 : ¬ (strB bs).toList = [] := by rw [htl]; exact hne
  have he3 : (strB bs).toList.isEmpty = false := by rw [htl]; cases bs with | nil => exact absurd rfl hne | cons c l => rfl
  have he4 : (!(strB bs).toList.isEmpty) = true := by rw [he3]; rfl
  obtain ⟨w1, hw1⟩ : ∃ w1, w.alloc (.cells #[.int .i64 4, .int .u64 0, .int .u64 0, .int .u64 0, .int .u64 0, .slice (some ⟨G, 0, none⟩) 1 cap] 30) = w1 := ⟨_, rfl⟩
  have hb1 : Below w.heap.size w w1 := by rw [← hw1]; exact (Below.refl _ _).alloc (Nat.le_refl _) _
  have hk1 : Blk w1 w.heap.size 30 #[.int .i64 4, .int .u64 0, .int .u64 0, .int .u64 0, .int .u64 0, .slice (some ⟨G, 0, none⟩) 1 cap] := by rw [← hw1]; exact Blk.new _ _ _
  obtain ⟨n0, n1, n2, n3, n4, n5, nf⟩ := blk6 hk1
  have HX := keepHid (fun w2 (h12 : Below w1.heap.size w1 w2) (l : List UInt8) (bx : Bool) (hl : l.length ≤ 1000000) (hb : bx = true ↔ Mt a l) => HA S x w2 l bx ((hix.below hb1).below h12) hl hb)
  have HY := keepHid (fun w2 (h12 : Below w1.heap.size w1 w2) (l : List UInt8) (bx : Bool) (hlt : l.length < N0) (hl : l.length ≤ 1000000) (hb : bx = true ↔ Mt (.star a) l) => HC S _ w2 l bx ((hi0.below hb1).below h12) hlt hl hb)
  have HXC := keepHid (fun w2 (h12 : Below w1.heap.size w1 w2) => at0 ((hx.keep (hb1.block G hx.lt)).keep (h12.block G (Nat.lt_of_lt_of_le hx.lt hb1.size))))
  have HB1 := keepHid hb1
  have HK1 := keepHid hk1
  have HBS := keepHid hb
  obtain ⟨n, hn⟩ : ∃ n, bs.length = n := ⟨_, rfl⟩
  have hsz : (strB bs).size = n := by rw [strB_size, hn]
  have HN := keepHid hn
  rw [hn] at hl
  have HL := keepHid hl
  have hli : (n : Int) ≤ 1000000 := by omega
  have HLN := keepHid hlN
  clear hb1 hk1 hx hix hl hb hn HA HC hi0 hlN hne htl
  rw [hdV_st0]
  go_enter Try.func13, Try.ntmps13
  go_wp2
  try rw [hw1]
  clear hw1 n0 n1 n2 n3 n4 n5 nf
  go_loopw [6] (fun i wr => ∃ j : Nat, 1 ≤ j ∧ j ≤ n + 1 ∧ i = .int .i64 j ∧ Hid (∀ i, 1 ≤ i → i < j → ¬ (Mt a (bs.take i) ∧ Mt (.star a) (bs.drop i))) ∧ Hid (Below w1.heap.size w1 wr)) (fun i _ => n + 1 - (intOf i).toNat)
  case atStart => exact ⟨1, Nat.le_refl _, by omega, rfl, keepHid (fun i h1 hi => by omega), keepHid (Below.refl _ _)⟩
  case round =>
    obtain ⟨j, hj1, hj, rfl, HNO, HBR⟩ := hrel
    rcases Nat.lt_or_ge n j with hgt | hle
    · have hji : ¬ (j : Int) ≤ (n : Int) := by omega
      go_wp2
      go_ret
      have hbf : b = false := by
        rw [Bool.eq_false_iff]
        intro e
        obtain ⟨k, hk1, hk, h1, h2⟩ := HBS.out.1 e
        rw [HN.out] at hk
        exact HNO.out k hk1 (by omega) ⟨h1, h2⟩
      subst hbf
      exact ⟨rfl, HB1.out.trans (HBR.out.mono HB1.out.size)⟩
    · have hji : (j : Int) ≤ (n : Int) := by omega
      obtain ⟨ba, hba⟩ := bool_of (Mt a (bs.take j))
      obtain ⟨bc, hbc⟩ := bool_of (Mt (.star a) (bs.drop j))
      have hs1 := run_head (l := bs) (k := j) (by rw [HN.out]; exact hle) (j : Int) rfl
      have hs2 := run_tail (l := bs) (k := j) (by rw [HN.out]; exact hle) (j : Int) rfl
      obtain ⟨n0, n1, n2, n3, n4, n5, nf⟩ := blk6 (HK1.out.below HBR.out HK1.out.lt)
      obtain ⟨x0, x1, x2, x3, x4, x5⟩ := HXC.out wr HBR.out
      have r0 := fun d os => cell_regrown n0 d os
      have r1 := fun d os => cell_regrown n1 d os
      have r2 := fun d os => cell_regrown n2 d os
      have r3 := fun d os => cell_regrown n3 d os
      have r4 := fun d os => cell_regrown n4 d os
      have r5 := fun d os => cell_regrown n5 d os
      have q0 := fun d os => cell_regrown x0 d os
      have q1 := fun d os => cell_regrown x1 d os
      have q2 := fun d os => cell_regrown x2 d os
      have q3 := fun d os => cell_regrown x3 d os
      have q4 := fun d os => cell_regrown x4 d os
      have q5 := fun d os => cell_regrown x5 d os
      have C0 := keepHid (fun d os => Calls.regrown_of (HX.out (Sort.grow (redrawn wr d) os) (HBR.out.trans ((below_regrown wr d os).mono HBR.out.size)) (bs.take j) ba (by have := HL.out; have := HN.out; simp; omega) hba))
      have C1 := keepHid (fun d os => Calls.regrown_of (HY.out (Sort.grow (redrawn wr d) os) (HBR.out.trans ((below_regrown wr d os).mono HBR.out.size)) (bs.drop j) bc (by have := HLN.out; have := HN.out; simp; omega) (by have := HL.out; have := HN.out; simp; omega) hbc))
      rw [hdV_st0] at C1
      unfold hdV at C0
      have HBA := keepHid hba
      have HBC := keepHid hbc
      clear n0 n1 n2 n3 n4 n5 nf x0 x1 x2 x3 x4 x5 hba hbc
      generalize wr = wq at *
      have hpick : (bs.take j).length ≤ n := by simp; have := HN.out; omega
      cases ba
      · go_wp2_with fail
        refine wp_region_quiet_below (by kernel_rfl) (by kernel_rfl) ?_
        repeat (go_big_quiet_step (first | (with_reducible exact C0.out _ _) | (with_reducible exact C1.out _ _)))
        refine wpQuiet_nil ?_
        intro _ hw'
        obtain ⟨⟨dq, osq⟩, hw''⟩ := hw'
        subst hw''
        have hbr := HBR.out.trans ((below_regrown wq dq osq).mono HBR.out.size)
        go_wp2
        go_roundw
        case rel => exact ⟨j + 1, by omega, by omega, by go_num, keepHid (fun i hi1 hi => by
          rcases Nat.lt_or_ge i j with h | h
          · exact HNO.out i hi1 h
          · obtain rfl : i = j := by omega
            exact fun hh => absurd (HBA.out.2 hh.1) (by simp)), keepHid hbr⟩
        case measure => simp [intOf]; omega
      · cases bc
        · go_wp2_with fail
          refine wp_region_quiet_below (by kernel_rfl) (by kernel_rfl) ?_
          repeat (go_big_quiet_step (first | (with_reducible exact C0.out _ _) | (with_reducible exact C1.out _ _)))
          refine wpQuiet_nil ?_
          intro _ hw'
          obtain ⟨⟨dq, osq⟩, hw''⟩ := hw'
          subst hw''
          have hbr := HBR.out.trans ((below_regrown wq dq osq).mono HBR.out.size)
          go_wp2
          go_roundw
          case rel => exact ⟨j + 1, by omega, by omega, by go_num, keepHid (fun i hi1 hi => by
            rcases Nat.lt_or_ge i j with h | h
            · exact HNO.out i hi1 h
            · obtain rfl : i = j := by omega
              exact fun hh => absurd (HBC.out.2 hh.2) (by simp)), keepHid hbr⟩
          case measure => simp [intOf]; omega
        · go_wp2_with fail
          refine wp_region_quiet_below (by kernel_rfl) (by kernel_rfl) ?_
          repeat (go_big_quiet_step (first | (with_reducible exact C0.out _ _) | (with_reducible exact C1.out _ _)))
          refine wpQuiet_nil ?_
          intro _ hw'
          obtain ⟨⟨dq, osq⟩, hw''⟩ := hw'
          subst hw''
          have hbr := HBR.out.trans ((below_regrown wq dq osq).mono HBR.out.size)
          have hbt : b = true := HBS.out.2 ⟨j, hj1, by rw [HN.out]; exact hle, HBA.out.1 (by simp), HBC.out.1 (by simp)⟩
          have HBT := keepHid hbt
          clear hbt
          go_wp2
          go_ret
          exact ⟨by rw [HBT.out]; rfl, HB1.out.trans (hbr.mono HB1.out.size)⟩

set_option maxHeartbeats 1000000 in
theorem fits_star_nil {a : Re} {S : Nat → Prop} {h : Hd} {w : World} (hi : IsS w S h (.star a)) :
    Calls Try.prog 13 #[hdV h, .string (strB [])] w fun e w' => e = .returned (.bool true) ∧ Below w.heap.size w w' := by
  obtain ⟨G, cap, x, rfl, hc1, hcm, hG, hx, hix⟩ := hi
  have he1 : (strB ([] : List UInt8)).toList = [] := strB_toList []
  have he2 : (strB ([] : List UInt8)).toList.isEmpty = true := by rw [he1]; rfl
  have he3 : ((strB ([] : List UInt8)).toList == (⟨#[]⟩ : ByteArray).toList) = true := by rw [str_eq]; rfl
  rw [hdV_st0]
  generalize strB ([] : List UInt8) = X at *
  clear hc1 hcm hG hx hix
  go_enter Try.func13, Try.ntmps13
  go_wp2
  go_ret
  exact ⟨rfl, (Below.refl _ _).alloc (Nat.le_refl _) _⟩
theorem fits_star_all {a : Re} (HA : LawFits a) : ∀ (N0 : Nat) (S : Nat → Prop) (h : Hd) (w : World) (bs : List UInt8) (b : Bool), IsS w S h (.star a) → bs.length < N0 → bs.length ≤ 1000000 → (b = true ↔ Mt (.star a) bs) →
    Calls Try.prog 13 #[hdV h, .string (strB bs)] w fun e w' => e = .returned (.bool b) ∧ Below w.heap.size w w'
  | 0, _, _, _, _, _, _, h, _, _ => absurd h (by omega)
  | N0 + 1, S, h, w, bs, b, hi, hlt, hl, hb => by
    by_cases hne : bs = []
    · subst hne
      obtain rfl : b = true := hb.2 ⟨[], rfl, by simp⟩
      exact fits_star_nil hi
    · exact fits_star_step HA bs.length (fun S h w l b hi h1 h2 h3 => fits_star_all HA N0 S h w l b hi (by omega) h2 h3) S h w bs b hi rfl hl hb hne
theorem fits_all : ∀ r, LawFits r
  | .nil => fits_nil
  | .one x => fits_one x
  | .thn a b => fits_thn (fits_all a) (fits_all b)
  | .alt a b => fits_alt (fits_all a) (fits_all b)
  | .star a => fun S h w bs b hi hl hb => fits_star_all (fits_all a) (bs.length + 1) S h w bs b hi (by omega) hl hb


def PlSpec (r : Re) : Prop := ∀ (S : Nat → Prop) (h : Hd) (w : World), IsS w S h r → nds r ≤ 200000 →
  Calls Try.prog 16 #[hdV h] w fun e w' => e = .returned (.int .i64 (sz r : Int)) ∧ Below w.heap.size w w'
set_option maxHeartbeats 1000000 in
theorem pl_nil : PlSpec .nil := by
  intro S h w hi hs
  obtain rfl : h = hd0 := hi
  rw [hdV_hd0]
  go_enter Try.func16, Try.ntmps16
  go_wp2_with fail
  refine wp_loop_rounds 1 ?_
  rw [rounds_succ]
  go_wp2
  go_ret
  exact ⟨rfl, (Below.refl _ _).alloc (Nat.le_refl _) _⟩
set_option maxHeartbeats 1000000 in
theorem pl_one (x : St) : PlSpec (.one x) := by
  intro S h w hi hs
  obtain rfl : h = ⟨1, x, none, 0, 0⟩ := hi
  unfold hdV
  go_enter Try.func16, Try.ntmps16
  go_wp2
  go_ret
  exact ⟨rfl, (Below.refl _ _).alloc (Nat.le_refl _) _⟩
set_option maxHeartbeats 2000000 in
theorem pl_two {a b : Re} (HA : PlSpec a) (HB : PlSpec b) {S : Nat → Prop} {k : Int} {G cap : Nat} {x y : Hd} {w : World} (hk : k = 2 ∨ k = 3) (hx : AtHd w G 0 x) (hy : AtHd w G 6 y) (hix : IsS w S x a) (hiy : IsS w S y b) (hna : nds a ≤ 200000) (hnb : nds b ≤ 200000) :
    Calls Try.prog 16 #[hdV ⟨k, st0, some ⟨G, 0, none⟩, 2, cap⟩] w fun e w' => e = .returned (.int .i64 ((sz a + sz b : Nat) : Int)) ∧ Below w.heap.size w w' := by
  obtain ⟨w1, hw1⟩ : ∃ w1, w.alloc (.cells #[.int .i64 k, .int .u64 0, .int .u64 0, .int .u64 0, .int .u64 0, .slice (some ⟨G, 0, none⟩) 2 cap] 30) = w1 := ⟨_, rfl⟩
  have hb1 : Below w.heap.size w w1 := by rw [← hw1]; exact (Below.refl _ _).alloc (Nat.le_refl _) _
  have hk1 : Blk w1 w.heap.size 30 #[.int .i64 k, .int .u64 0, .int .u64 0, .int .u64 0, .int .u64 0, .slice (some ⟨G, 0, none⟩) 2 cap] := by rw [← hw1]; exact Blk.new _ _ _
  obtain ⟨n0, n1, n2, n3, n4, n5, nf⟩ := blk6 hk1
  obtain ⟨x0, x1, x2, x3, x4, x5⟩ := at0 (hx.keep (hb1.block G hx.lt))
  have hza := Nat.le_trans (sz_nds a) hna
  have hzb := Nat.le_trans (sz_nds b) hnb
  obtain ⟨w2, hw2⟩ : ∃ w2, w1.alloc (.cells #[.int .i64 x.k, .int .u64 (x.s.a.toNat : Int), .int .u64 (x.s.b.toNat : Int), .int .u64 (x.s.c.toNat : Int), .int .u64 (x.s.d.toNat : Int), .slice x.A x.n x.c] 30) = w2 := ⟨_, rfl⟩
  have hb2 : Below w1.heap.size w1 w2 := by rw [← hw2]; exact (Below.refl _ _).alloc (Nat.le_refl _) _
  have hk2 : Blk w2 w1.heap.size 30 #[.int .i64 x.k, .int .u64 (x.s.a.toNat : Int), .int .u64 (x.s.b.toNat : Int), .int .u64 (x.s.c.toNat : Int), .int .u64 (x.s.d.toNat : Int), .slice x.A x.n x.c] := by rw [← hw2]; exact Blk.new _ _ _
  obtain ⟨m0, m1, m2, m3, m4, m5, mf⟩ := blk6 hk2
  have HB2 := keepHid (hb1.trans (hb2.mono hb1.size))
  have HX := keepHid (HA S x w2 (hix.below HB2.out) hna)
  have HY := keepHid (fun w3 (h23 : Below w.heap.size w w3) => HB S y w3 (hiy.below h23) hnb)
  have HYC := keepHid (fun w3 (h23 : Below w.heap.size w w3) => at6 (hy.keep (h23.block G hy.lt)))
  have hki : (k == 1) = false := by rcases hk with rfl | rfl <;> rfl
  have ha2 : (sz a : Int) ≤ 200000 := by omega
  have hb2' : (sz b : Int) ≤ 200000 := by omega
  have HSUM : Hid (((sz a + sz b : Nat) : Int) = (sz a : Int) + (sz b : Int)) := keepHid (by omega)
  generalize sz a = za at *
  generalize sz b = zb at *
  have HW2 := keepHid hw2
  clear hb1 hk1 hx hy hix hiy hna hnb hza hzb hb2 hk2 HA HB hk hw2
  rw [hdV_st0]
  unfold hdV at HX HY
  go_enter Try.func16, Try.ntmps16
  go_wp2_with fail
  refine wp_loop_rounds 3 ?_
  rw [rounds_succ]
  go_wp2_with fail
  try rw [HW2.out]
  with_reducible refine HX.out.mono ?_
  rintro e w3 ⟨rfl, hb3⟩
  have hbw3 := HB2.out.trans (hb3.mono HB2.out.size)
  obtain ⟨y0, y1, y2, y3, y4, y5⟩ := HYC.out w3 hbw3
  obtain ⟨w4, hw4⟩ : ∃ w4, w3.alloc (.cells #[.int .i64 y.k, .int .u64 (y.s.a.toNat : Int), .int .u64 (y.s.b.toNat : Int), .int .u64 (y.s.c.toNat : Int), .int .u64 (y.s.d.toNat : Int), .slice y.A y.n y.c] 30) = w4 := ⟨_, rfl⟩
  have hb4 : Below w3.heap.size w3 w4 := by rw [← hw4]; exact (Below.refl _ _).alloc (Nat.le_refl _) _
  have hk4 : Blk w4 w3.heap.size 30 #[.int .i64 y.k, .int .u64 (y.s.a.toNat : Int), .int .u64 (y.s.b.toNat : Int), .int .u64 (y.s.c.toNat : Int), .int .u64 (y.s.d.toNat : Int), .slice y.A y.n y.c] := by rw [← hw4]; exact Blk.new _ _ _
  obtain ⟨q0, q1, q2, q3, q4, q5, qf⟩ := blk6 hk4
  have HB4 := keepHid (hbw3.trans (hb4.mono hbw3.size))
  have HY4 := keepHid (HY.out w4 HB4.out)
  have HW4 := keepHid hw4
  clear hb3 hbw3 hb4 hk4 hw4 x0 x1 x2 x3 x4 x5 m0 m1 m2 m3 m4 m5 mf n0 n1 n2 n3 n4 n5 nf
  go_wp2_with fail
  rw [rounds_succ]
  go_wp2_with fail
  try rw [HW4.out]
  with_reducible refine HY4.out.mono ?_
  rintro e w5 ⟨rfl, hb5⟩
  have HB5 := keepHid (HB4.out.trans (hb5.mono HB4.out.size))
  clear hb5 y0 y1 y2 y3 y4 y5 q0 q1 q2 q3 q4 q5 qf
  go_wp2_with fail
  rw [rounds_succ]
  go_wp2
  go_ret
  exact ⟨by rw [HSUM.out]; rfl, HB5.out⟩
set_option maxHeartbeats 2000000 in
theorem pl_star {a : Re} (HA : PlSpec a) {S : Nat → Prop} {k : Int} {G cap : Nat} {x : Hd} {w : World} (hk : k = 4) (hx : AtHd w G 0 x) (hix : IsS w S x a) (hna : nds a ≤ 200000) :
    Calls Try.prog 16 #[hdV ⟨k, st0, some ⟨G, 0, none⟩, 1, cap⟩] w fun e w' => e = .returned (.int .i64 (sz a : Int)) ∧ Below w.heap.size w w' := by
  obtain ⟨w1, hw1⟩ : ∃ w1, w.alloc (.cells #[.int .i64 k, .int .u64 0, .int .u64 0, .int .u64 0, .int .u64 0, .slice (some ⟨G, 0, none⟩) 1 cap] 30) = w1 := ⟨_, rfl⟩
  have hb1 : Below w.heap.size w w1 := by rw [← hw1]; exact (Below.refl _ _).alloc (Nat.le_refl _) _
  have hk1 : Blk w1 w.heap.size 30 #[.int .i64 k, .int .u64 0, .int .u64 0, .int .u64 0, .int .u64 0, .slice (some ⟨G, 0, none⟩) 1 cap] := by rw [← hw1]; exact Blk.new _ _ _
  obtain ⟨n0, n1, n2, n3, n4, n5, nf⟩ := blk6 hk1
  obtain ⟨x0, x1, x2, x3, x4, x5⟩ := at0 (hx.keep (hb1.block G hx.lt))
  have hza := Nat.le_trans (sz_nds a) hna
  obtain ⟨w2, hw2⟩ : ∃ w2, w1.alloc (.cells #[.int .i64 x.k, .int .u64 (x.s.a.toNat : Int), .int .u64 (x.s.b.toNat : Int), .int .u64 (x.s.c.toNat : Int), .int .u64 (x.s.d.toNat : Int), .slice x.A x.n x.c] 30) = w2 := ⟨_, rfl⟩
  have hb2 : Below w1.heap.size w1 w2 := by rw [← hw2]; exact (Below.refl _ _).alloc (Nat.le_refl _) _
  have hk2 : Blk w2 w1.heap.size 30 #[.int .i64 x.k, .int .u64 (x.s.a.toNat : Int), .int .u64 (x.s.b.toNat : Int), .int .u64 (x.s.c.toNat : Int), .int .u64 (x.s.d.toNat : Int), .slice x.A x.n x.c] := by rw [← hw2]; exact Blk.new _ _ _
  obtain ⟨m0, m1, m2, m3, m4, m5, mf⟩ := blk6 hk2
  have HB2 := keepHid (hb1.trans (hb2.mono hb1.size))
  have HX := keepHid (HA S x w2 (hix.below HB2.out) hna)
  have hki : (k == 1) = false := by rw [hk]; rfl
  have ha2 : (sz a : Int) ≤ 200000 := by omega
  generalize sz a = za at *
  have HW2 := keepHid hw2
  clear hb1 hk1 hx hix hna hza hb2 hk2 HA hk hw2
  rw [hdV_st0]
  unfold hdV at HX
  go_enter Try.func16, Try.ntmps16
  go_wp2_with fail
  refine wp_loop_rounds 2 ?_
  rw [rounds_succ]
  go_wp2_with fail
  try rw [HW2.out]
  with_reducible refine HX.out.mono ?_
  rintro e w3 ⟨rfl, hb3⟩
  have hbw3 := HB2.out.trans (hb3.mono HB2.out.size)
  have HB5 := keepHid hbw3
  clear hb3 hbw3 x0 x1 x2 x3 x4 x5 m0 m1 m2 m3 m4 m5 mf n0 n1 n2 n3 n4 n5 nf
  go_wp2_with fail
  rw [rounds_succ]
  go_wp2
  go_ret
  exact ⟨by rfl, HB5.out⟩
theorem places_all : ∀ r, PlSpec r
  | .nil => pl_nil
  | .one x => pl_one x
  | .thn a b => fun S h w hi hs => by
    obtain ⟨G, cap, x, y, rfl, _, _, _, hx, hy, hix, hiy⟩ := hi
    simp only [nds] at hs
    exact pl_two (places_all a) (places_all b) (.inl rfl) hx hy hix hiy (by omega) (by omega)
  | .alt a b => fun S h w hi hs => by
    obtain ⟨G, cap, x, y, rfl, _, _, _, hx, hy, hix, hiy⟩ := hi
    simp only [nds] at hs
    exact pl_two (places_all a) (places_all b) (.inr rfl) hx hy hix hiy (by omega) (by omega)
  | .star a => fun S h w hi hs => by
    obtain ⟨G, cap, x, rfl, _, _, _, hx, hix⟩ := hi
    simp only [nds] at hs
    exact pl_star (places_all a) rfl hx hix (by omega)
end Go.Proofs.Ytlmjijejgfhmmaa
