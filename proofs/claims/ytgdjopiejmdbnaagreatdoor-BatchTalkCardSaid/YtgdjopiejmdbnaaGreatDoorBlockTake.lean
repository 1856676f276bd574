/-
  What 'Split' answers.
-/
import Derived.Test.YtgdjopiejmdbnaaGreatDoorBlockParts
import Derived.Test.YtgdjopiejmdbnaaGreatDoorBlockSplit
namespace Go.Proofs.YtgdjopiejmdbnaaGreatDoor
open Go.RowKit
set_option linter.unusedVariables false

theorem filled_128 (A : Option Addr) (n c B : Nat) (bs : List UInt8) (w : World) (h : Bys w B A n bs) (hB : B ≤ w.heap.size) (hS : n ≤ 128) :
    Calls Tryz.prog 46 #[.slice A n c, .int .i64 128] w (RetB w (fill bs 128)) := filled_any A n c B 128 bs w h hB hS (by omega)
theorem filled_1024 (A : Option Addr) (n c B : Nat) (bs : List UInt8) (w : World) (h : Bys w B A n bs) (hB : B ≤ w.heap.size) (hS : n ≤ 1024) :
    Calls Tryz.prog 46 #[.slice A n c, .int .i64 1024] w (RetB w (fill bs 1024)) := filled_any A n c B 1024 bs w h hB hS (by omega)
def lenV : Value → Nat
  | .slice _ n _ => n
  | _ => 0

/-- What 'Split' returns. -/
def SplitPost (w : World) (rows : List (List UInt8)) (e : Ending) (w' : World) : Prop :=
  ∃ P cap, e = .returned (.slice P rows.length cap) ∧ Rows' w' w.heap.size (.slice P rows.length cap) rows ∧ rows.length ≤ cap ∧ cap ≤ 9223372036854775807 ∧ Below w.heap.size w w'

set_option maxHeartbeats 4000000 in
theorem split_any (A0 : Option Addr) (n0 c0 B : Nat) (d0 : List UInt8) (large : Bool) (w : World) (h : Bys w B A0 n0 d0) (hB : B ≤ w.heap.size) (hnc : n0 ≤ c0) (hcm : c0 ≤ 9223372036854775807) (hm0 : n0 ≤ 140737488355328) :
    Calls Tryz.prog 22 #[.slice A0 n0 c0, .bool large] w (SplitPost w (parts large d0)) := by
  have H := keepHid (h.more hB)
  have hcnt := parts_count large d0.length d0 (Nat.le_refl _)
  rw [h.len] at hcnt
  have HCNT := keepHid hcnt
  clear h hcnt
  go_enter Tryz.func22, Tryz.ntmps22
  go_wp2
  go_loopw [0, 5] (fun dv pv wr => ∃ (A : Option Addr) (m c : Nat) (rest : List UInt8) (done : List (List UInt8)) (P : Option Addr) (cap : Nat), dv = .slice A m c ∧ pv = .slice P done.length cap ∧ m ≤ c ∧ c ≤ 9223372036854775807 ∧ Bys w w.heap.size A m rest ∧
    Rows' wr w.heap.size (.slice P done.length cap) done ∧ done ++ parts large rest = parts large d0 ∧ Below w.heap.size w wr) (fun dv _ _ => lenV dv)
  case atStart => exact ⟨A0, n0, c0, d0, [], none, 0, rfl, rfl, hnc, hcm, H.out, Rows'.nil _ _, rfl, Below.refl _ _⟩
  case round =>
    obtain ⟨A, m, c, rest, done, P, cap, rfl, rfl, hmc, hcm2, hd, hp, heq, hb⟩ := hrel
    have HD := keepHid hd
    have HP := keepHid hp
    have HB := keepHid hb
    have HEQ := keepHid heq
    have hl := hd.len
    have HL := keepHid hl
    have hfm : done.length ≤ cap ∧ cap ≤ 9223372036854775807 := by
      obtain ⟨P', cap', hv, h1, h2⟩ := hp.form
      have : cap = cap' := by injection hv
      omega
    clear hd hp hb heq
    rcases Nat.eq_zero_or_pos m with h0 | h0
    · subst h0
      obtain rfl : rest = [] := List.eq_nil_of_length_eq_zero hl
      obtain ⟨hpc, hpm⟩ := hfm
      clear hl
      go_wp2
      go_ret
      have he : done = parts large d0 := by have := HEQ.out; rwa [parts_nil, List.append_nil] at this
      exact ⟨P, cap, by rw [← he]; rfl, by rw [← he]; exact HP.out, by rw [← he]; exact hpc, hpm, HB.out⟩
    · have hne : rest.length ≠ 0 := by omega
      have hst := parts_step large rest hne
      have hcount : (done.length + 1) * 24 ≤ 140737488355328 := by
        have h1 := congrArg List.length HEQ.out
        rw [List.length_append, hst, List.length_cons] at h1
        have := HCNT.out
        omega
      rw [hl] at hst
      have HST := keepHid hst
      clear hst hl hfm
      by_cases hL : large = true ∧ 1024 ≤ m
      · obtain ⟨rfl, h24⟩ := hL
        have hps : psize true m = 1024 := by unfold psize; rw [if_pos ⟨rfl, h24⟩]
        have HPS := keepHid hps
        have hTm : 1024 ≤ m := h24
        have hd24 : decide ((1024 : Int) ≤ (m : Int)) = true := by simp; omega
        clear hps
        go_wp2_with fail
        refine (filled_1024 _ _ _ _ _ _ ((HD.out.below HB.out).head hTm) HB.out.size (by omega)).mono ?_
        rintro e w2 ⟨A2, c2, rfl, ho2, hc21, hc22, hb2⟩
        have hfl : (fill (rest.take 1024) 1024).length = 1024 := fill_len (by rw [List.length_take, HL.out]; omega)
        rw [hfl] at ho2 hc21 ⊢
        obtain ⟨g2, _, hv, hg1, hg2, _, _⟩ := ho2.some_form (by omega)
        obtain rfl : A2 = some ⟨g2, 0, none⟩ := by injection hv
        obtain ⟨w3, hw3⟩ : ∃ w3, w2.alloc (.cells #[.slice (some ⟨g2, 0, none⟩) 1024 c2] 24) = w3 := ⟨_, rfl⟩
        have hb23 : Below w2.heap.size w2 w3 := by rw [← hw3]; exact (Below.refl _ _).alloc (Nat.le_refl _) _
        have hk3 : Blk w3 w2.heap.size 24 #[.slice (some ⟨g2, 0, none⟩) 1024 c2] := by rw [← hw3]; exact Blk.new w2 _ _
        have hb13 : Below wr.heap.size wr w3 := hb2.trans (hb23.mono hb2.size)
        have HP3 := keepHid (HP.out.below hb13)
        have HF3 := keepHid (((ho2.bys (by omega)).below hb23).more hb23.size)
        have HB3 := keepHid (HB.out.trans (hb13.mono HB.out.size))
        have HC3 := keepHid (hk3.cell 0)
        have HFL := keepHid hfl
        have hs13 := hb13.size
        clear hv ho2 hb2 hb23 hk3 hb13 hfl
        go_wp2_with (at_builtin; go_loud (refine wpList_append_part _ rfl _ _ rfl w.heap.size _ done (by rfl) HP3.out w2.heap.size (by rfl) (some ⟨g2, 0, none⟩) c2 (fill (rest.take 1024) 1024) ?c1 ?c2 ?c3 hc22 ?c5 ?c6 ?c7 HB3.out.size ?_))
        case c1 => rw [HFL.out]; exact HC3.out
        case c2 => rw [HFL.out]; omega
        case c3 => rw [HFL.out]; exact hc21
        case c5 => rw [HFL.out]; exact HF3.out
        case c6 =>
          intro ad e
          obtain rfl := Option.some.inj e
          intro hh
          have := (HP.out.block hh).2
          simp only at this
          omega
        case c7 => exact hcount
        intro P4 cap4 w4 hr4 ht4
        have hb34 : Below w.heap.size w3 w4 := ht4.below (fun i hi => (HP.out.block hi).1) HB3.out.size
        have HB4 := keepHid (HB3.out.trans hb34)
        have HR4 := keepHid hr4
        clear hr4 ht4 hb34 hw3
        go_wp2
        go_roundw
        case rel =>
          refine ⟨_, m - 1024, c - 1024, rest.drop 1024, done ++ [fill (rest.take 1024) 1024], P4, cap4, rfl, by rw [List.length_append]; rfl, by omega, by omega, ?_, ?_, ?_, HB4.out⟩
          · have := HD.out.cut (k := 1024) (cap := c) hTm hmc
            exact this
          · have := HR4.out
            rw [List.length_append]
            exact this
          · have h1 := HST.out
            rw [HPS.out] at h1
            rw [List.append_assoc, ← HEQ.out, h1]
            rfl
        case measure => simp [lenV]; omega
      · have hps : psize large m = 128 := by unfold psize; rw [if_neg hL]
        have HPS := keepHid hps
        clear hps
        cases large
        all_goals
          rcases Nat.lt_or_ge m 128 with hs | hs
        · clear hL
          have hte : rest.take 128 = rest := List.take_of_length_le (by rw [HL.out]; omega)
          have hde : rest.drop 128 = rest.drop m := by rw [List.drop_eq_nil_of_le (by rw [HL.out]; omega), List.drop_eq_nil_of_le (by rw [HL.out]; omega)]
          have HTE := keepHid hte
          have HDE := keepHid hde
          have hTm : m ≤ m := Nat.le_refl _
          clear hte hde
          go_wp2_with fail
          refine (filled_128 _ _ _ _ _ _ (show Bys wr w.heap.size A m (rest.take 128) by rw [HTE.out]; exact HD.out.below HB.out) HB.out.size (by omega)).mono ?_
          rintro e w2 ⟨A2, c2, rfl, ho2, hc21, hc22, hb2⟩
          have hfl : (fill (rest.take 128) 128).length = 128 := fill_len (by rw [List.length_take, HL.out]; omega)
          rw [hfl] at ho2 hc21 ⊢
          obtain ⟨g2, _, hv, hg1, hg2, _, _⟩ := ho2.some_form (by omega)
          obtain rfl : A2 = some ⟨g2, 0, none⟩ := by injection hv
          obtain ⟨w3, hw3⟩ : ∃ w3, w2.alloc (.cells #[.slice (some ⟨g2, 0, none⟩) 128 c2] 24) = w3 := ⟨_, rfl⟩
          have hb23 : Below w2.heap.size w2 w3 := by rw [← hw3]; exact (Below.refl _ _).alloc (Nat.le_refl _) _
          have hk3 : Blk w3 w2.heap.size 24 #[.slice (some ⟨g2, 0, none⟩) 128 c2] := by rw [← hw3]; exact Blk.new w2 _ _
          have hb13 : Below wr.heap.size wr w3 := hb2.trans (hb23.mono hb2.size)
          have HP3 := keepHid (HP.out.below hb13)
          have HF3 := keepHid (((ho2.bys (by omega)).below hb23).more hb23.size)
          have HB3 := keepHid (HB.out.trans (hb13.mono HB.out.size))
          have HC3 := keepHid (hk3.cell 0)
          have HFL := keepHid hfl
          have hs13 := hb13.size
          clear hv ho2 hb2 hb23 hk3 hb13 hfl
          go_wp2_with (at_builtin; go_loud (refine wpList_append_part _ rfl _ _ rfl w.heap.size _ done (by rfl) HP3.out w2.heap.size (by rfl) (some ⟨g2, 0, none⟩) c2 (fill (rest.take 128) 128) ?c1 ?c2 ?c3 hc22 ?c5 ?c6 ?c7 HB3.out.size ?_))
          case c1 => rw [HFL.out]; exact HC3.out
          case c2 => rw [HFL.out]; omega
          case c3 => rw [HFL.out]; exact hc21
          case c5 => rw [HFL.out]; exact HF3.out
          case c6 =>
            intro ad e
            obtain rfl := Option.some.inj e
            intro hh
            have := (HP.out.block hh).2
            simp only at this
            omega
          case c7 => exact hcount
          intro P4 cap4 w4 hr4 ht4
          have hb34 : Below w.heap.size w3 w4 := ht4.below (fun i hi => (HP.out.block hi).1) HB3.out.size
          have HB4 := keepHid (HB3.out.trans hb34)
          have HR4 := keepHid hr4
          clear hr4 ht4 hb34 hw3
          go_wp2
          go_roundw
          case rel =>
            refine ⟨_, _, c - m, rest.drop 128, done ++ [fill (rest.take 128) 128], P4, cap4, rfl, by rw [List.length_append]; rfl, by omega, by omega, ?_, ?_, ?_, HB4.out⟩
            · have := HD.out.cut (k := m) (cap := c) hTm hmc
              rw [← HDE.out, Nat.sub_self] at this
              exact this
            · have := HR4.out
              rw [List.length_append]
              exact this
            · have h1 := HST.out
              rw [HPS.out] at h1
              rw [List.append_assoc, ← HEQ.out, h1]
              rfl
          case measure => simp [lenV]; omega
        · clear hL
          have hTm : 128 ≤ m := hs
          go_wp2_with fail
          refine (filled_128 _ _ _ _ _ _ ((HD.out.below HB.out).head hTm) HB.out.size (by omega)).mono ?_
          rintro e w2 ⟨A2, c2, rfl, ho2, hc21, hc22, hb2⟩
          have hfl : (fill (rest.take 128) 128).length = 128 := fill_len (by rw [List.length_take, HL.out]; omega)
          rw [hfl] at ho2 hc21 ⊢
          obtain ⟨g2, _, hv, hg1, hg2, _, _⟩ := ho2.some_form (by omega)
          obtain rfl : A2 = some ⟨g2, 0, none⟩ := by injection hv
          obtain ⟨w3, hw3⟩ : ∃ w3, w2.alloc (.cells #[.slice (some ⟨g2, 0, none⟩) 128 c2] 24) = w3 := ⟨_, rfl⟩
          have hb23 : Below w2.heap.size w2 w3 := by rw [← hw3]; exact (Below.refl _ _).alloc (Nat.le_refl _) _
          have hk3 : Blk w3 w2.heap.size 24 #[.slice (some ⟨g2, 0, none⟩) 128 c2] := by rw [← hw3]; exact Blk.new w2 _ _
          have hb13 : Below wr.heap.size wr w3 := hb2.trans (hb23.mono hb2.size)
          have HP3 := keepHid (HP.out.below hb13)
          have HF3 := keepHid (((ho2.bys (by omega)).below hb23).more hb23.size)
          have HB3 := keepHid (HB.out.trans (hb13.mono HB.out.size))
          have HC3 := keepHid (hk3.cell 0)
          have HFL := keepHid hfl
          have hs13 := hb13.size
          clear hv ho2 hb2 hb23 hk3 hb13 hfl
          go_wp2_with (at_builtin; go_loud (refine wpList_append_part _ rfl _ _ rfl w.heap.size _ done (by rfl) HP3.out w2.heap.size (by rfl) (some ⟨g2, 0, none⟩) c2 (fill (rest.take 128) 128) ?c1 ?c2 ?c3 hc22 ?c5 ?c6 ?c7 HB3.out.size ?_))
          case c1 => rw [HFL.out]; exact HC3.out
          case c2 => rw [HFL.out]; omega
          case c3 => rw [HFL.out]; exact hc21
          case c5 => rw [HFL.out]; exact HF3.out
          case c6 =>
            intro ad e
            obtain rfl := Option.some.inj e
            intro hh
            have := (HP.out.block hh).2
            simp only at this
            omega
          case c7 => exact hcount
          intro P4 cap4 w4 hr4 ht4
          have hb34 : Below w.heap.size w3 w4 := ht4.below (fun i hi => (HP.out.block hi).1) HB3.out.size
          have HB4 := keepHid (HB3.out.trans hb34)
          have HR4 := keepHid hr4
          clear hr4 ht4 hb34 hw3
          go_wp2
          go_roundw
          case rel =>
            refine ⟨_, m - 128, c - 128, rest.drop 128, done ++ [fill (rest.take 128) 128], P4, cap4, rfl, by rw [List.length_append]; rfl, by omega, by omega, ?_, ?_, ?_, HB4.out⟩
            · have := HD.out.cut (k := 128) (cap := c) hTm hmc
              exact this
            · have := HR4.out
              rw [List.length_append]
              exact this
            · have h1 := HST.out
              rw [HPS.out] at h1
              rw [List.append_assoc, ← HEQ.out, h1]
              rfl
          case measure => simp [lenV]; omega
        · have hd24 : decide ((1024 : Int) ≤ (m : Int)) = false := by
            have : ¬ 1024 ≤ m := fun hh => hL ⟨rfl, hh⟩
            simp; omega
          clear hL
          have hte : rest.take 128 = rest := List.take_of_length_le (by rw [HL.out]; omega)
          have hde : rest.drop 128 = rest.drop m := by rw [List.drop_eq_nil_of_le (by rw [HL.out]; omega), List.drop_eq_nil_of_le (by rw [HL.out]; omega)]
          have HTE := keepHid hte
          have HDE := keepHid hde
          have hTm : m ≤ m := Nat.le_refl _
          clear hte hde
          go_wp2_with fail
          refine (filled_128 _ _ _ _ _ _ (show Bys wr w.heap.size A m (rest.take 128) by rw [HTE.out]; exact HD.out.below HB.out) HB.out.size (by omega)).mono ?_
          rintro e w2 ⟨A2, c2, rfl, ho2, hc21, hc22, hb2⟩
          have hfl : (fill (rest.take 128) 128).length = 128 := fill_len (by rw [List.length_take, HL.out]; omega)
          rw [hfl] at ho2 hc21 ⊢
          obtain ⟨g2, _, hv, hg1, hg2, _, _⟩ := ho2.some_form (by omega)
          obtain rfl : A2 = some ⟨g2, 0, none⟩ := by injection hv
          obtain ⟨w3, hw3⟩ : ∃ w3, w2.alloc (.cells #[.slice (some ⟨g2, 0, none⟩) 128 c2] 24) = w3 := ⟨_, rfl⟩
          have hb23 : Below w2.heap.size w2 w3 := by rw [← hw3]; exact (Below.refl _ _).alloc (Nat.le_refl _) _
          have hk3 : Blk w3 w2.heap.size 24 #[.slice (some ⟨g2, 0, none⟩) 128 c2] := by rw [← hw3]; exact Blk.new w2 _ _
          have hb13 : Below wr.heap.size wr w3 := hb2.trans (hb23.mono hb2.size)
          have HP3 := keepHid (HP.out.below hb13)
          have HF3 := keepHid (((ho2.bys (by omega)).below hb23).more hb23.size)
          have HB3 := keepHid (HB.out.trans (hb13.mono HB.out.size))
          have HC3 := keepHid (hk3.cell 0)
          have HFL := keepHid hfl
          have hs13 := hb13.size
          clear hv ho2 hb2 hb23 hk3 hb13 hfl
          go_wp2_with (at_builtin; go_loud (refine wpList_append_part _ rfl _ _ rfl w.heap.size _ done (by rfl) HP3.out w2.heap.size (by rfl) (some ⟨g2, 0, none⟩) c2 (fill (rest.take 128) 128) ?c1 ?c2 ?c3 hc22 ?c5 ?c6 ?c7 HB3.out.size ?_))
          case c1 => rw [HFL.out]; exact HC3.out
          case c2 => rw [HFL.out]; omega
          case c3 => rw [HFL.out]; exact hc21
          case c5 => rw [HFL.out]; exact HF3.out
          case c6 =>
            intro ad e
            obtain rfl := Option.some.inj e
            intro hh
            have := (HP.out.block hh).2
            simp only at this
            omega
          case c7 => exact hcount
          intro P4 cap4 w4 hr4 ht4
          have hb34 : Below w.heap.size w3 w4 := ht4.below (fun i hi => (HP.out.block hi).1) HB3.out.size
          have HB4 := keepHid (HB3.out.trans hb34)
          have HR4 := keepHid hr4
          clear hr4 ht4 hb34 hw3
          go_wp2
          go_roundw
          case rel =>
            refine ⟨_, _, c - m, rest.drop 128, done ++ [fill (rest.take 128) 128], P4, cap4, rfl, by rw [List.length_append]; rfl, by omega, by omega, ?_, ?_, ?_, HB4.out⟩
            · have := HD.out.cut (k := m) (cap := c) hTm hmc
              rw [← HDE.out, Nat.sub_self] at this
              exact this
            · have := HR4.out
              rw [List.length_append]
              exact this
            · have h1 := HST.out
              rw [HPS.out] at h1
              rw [List.append_assoc, ← HEQ.out, h1]
              rfl
          case measure => simp [lenV]; omega
        · have hd24 : decide ((1024 : Int) ≤ (m : Int)) = false := by
            have : ¬ 1024 ≤ m := fun hh => hL ⟨rfl, hh⟩
            simp; omega
          clear hL
          have hTm : 128 ≤ m := hs
          go_wp2_with fail
          refine (filled_128 _ _ _ _ _ _ ((HD.out.below HB.out).head hTm) HB.out.size (by omega)).mono ?_
          rintro e w2 ⟨A2, c2, rfl, ho2, hc21, hc22, hb2⟩
          have hfl : (fill (rest.take 128) 128).length = 128 := fill_len (by rw [List.length_take, HL.out]; omega)
          rw [hfl] at ho2 hc21 ⊢
          obtain ⟨g2, _, hv, hg1, hg2, _, _⟩ := ho2.some_form (by omega)
          obtain rfl : A2 = some ⟨g2, 0, none⟩ := by injection hv
          obtain ⟨w3, hw3⟩ : ∃ w3, w2.alloc (.cells #[.slice (some ⟨g2, 0, none⟩) 128 c2] 24) = w3 := ⟨_, rfl⟩
          have hb23 : Below w2.heap.size w2 w3 := by rw [← hw3]; exact (Below.refl _ _).alloc (Nat.le_refl _) _
          have hk3 : Blk w3 w2.heap.size 24 #[.slice (some ⟨g2, 0, none⟩) 128 c2] := by rw [← hw3]; exact Blk.new w2 _ _
          have hb13 : Below wr.heap.size wr w3 := hb2.trans (hb23.mono hb2.size)
          have HP3 := keepHid (HP.out.below hb13)
          have HF3 := keepHid (((ho2.bys (by omega)).below hb23).more hb23.size)
          have HB3 := keepHid (HB.out.trans (hb13.mono HB.out.size))
          have HC3 := keepHid (hk3.cell 0)
          have HFL := keepHid hfl
          have hs13 := hb13.size
          clear hv ho2 hb2 hb23 hk3 hb13 hfl
          go_wp2_with (at_builtin; go_loud (refine wpList_append_part _ rfl _ _ rfl w.heap.size _ done (by rfl) HP3.out w2.heap.size (by rfl) (some ⟨g2, 0, none⟩) c2 (fill (rest.take 128) 128) ?c1 ?c2 ?c3 hc22 ?c5 ?c6 ?c7 HB3.out.size ?_))
          case c1 => rw [HFL.out]; exact HC3.out
          case c2 => rw [HFL.out]; omega
          case c3 => rw [HFL.out]; exact hc21
          case c5 => rw [HFL.out]; exact HF3.out
          case c6 =>
            intro ad e
            obtain rfl := Option.some.inj e
            intro hh
            have := (HP.out.block hh).2
            simp only at this
            omega
          case c7 => exact hcount
          intro P4 cap4 w4 hr4 ht4
          have hb34 : Below w.heap.size w3 w4 := ht4.below (fun i hi => (HP.out.block hi).1) HB3.out.size
          have HB4 := keepHid (HB3.out.trans hb34)
          have HR4 := keepHid hr4
          clear hr4 ht4 hb34 hw3
          go_wp2
          go_roundw
          case rel =>
            refine ⟨_, m - 128, c - 128, rest.drop 128, done ++ [fill (rest.take 128) 128], P4, cap4, rfl, by rw [List.length_append]; rfl, by omega, by omega, ?_, ?_, ?_, HB4.out⟩
            · have := HD.out.cut (k := 128) (cap := c) hTm hmc
              exact this
            · have := HR4.out
              rw [List.length_append]
              exact this
            · have h1 := HST.out
              rw [HPS.out] at h1
              rw [List.append_assoc, ← HEQ.out, h1]
              rfl
          case measure => simp [lenV]; omega
end Go.Proofs.YtgdjopiejmdbnaaGreatDoor
