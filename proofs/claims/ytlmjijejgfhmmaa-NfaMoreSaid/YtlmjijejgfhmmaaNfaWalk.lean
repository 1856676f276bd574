/-
  nfa's Step, by contract.
-/
import Derived.Test.YtlmjijejgfhmmaaNfaCov
import Derived.LoopTactic
namespace Go.Proofs.Ytlmjijejgfhmmaa
open Go.RowKit
set_option linter.unusedVariables false

/-- Group i of a table, with its slice as it lies, in whatever world the table is. -/
theorem grp_at {w : World} {lo g : Nat} {v3 v4 v5 : Value} {T : TbD} (ht : Tab w lo g v3 v4 v5 T) (hs : Sm T) {i : Nat} (hi : i < T.groups.length) :
    ∃ G cap B c, w.cell? ⟨g, 1, none⟩ = some (.slice (some ⟨G, 0, none⟩) T.groups.length cap) ∧ w.cell? ⟨G, i, none⟩ = some (.slice B (T.grp i).length c) ∧ Sl natV w B (T.grp i).length (T.grp i) ∧ (∀ ad, B = some ad → ∃ cs, Blk w ad.block 3 cs) := by
  obtain ⟨vs, vg, M, vals, h⟩ := ht
  have hg : T.groups[i]? = some (T.grp i) := by simp [TbD.grp, List.getD, List.getElem?_eq_getElem hi]
  obtain ⟨G, cap, B, c, rfl, hc, hr⟩ := h.grp hg
  refine ⟨G, cap, B, c, h.blk.cell 1, hc, Sl.of_own hr (by have := hs.row hg; unfold maxLen; omega), fun ad e => ?_⟩
  subst e
  rcases hr.2 with ⟨hv, _⟩ | ⟨b, cap', cur, hv, hb, hgg, _⟩
  · cases hv
  · injection hv with h1 _ _
    injection h1 with h1
    subst h1
    exact ⟨cur, hgg⟩
theorem ranges_drewN {w : World} {M r n cnt : Nat} {D : DataW Unit} {left : Lit → Bool} (h : w.ranges Try.prog 66 unitElem M r n D left cnt) (j : Nat) : (w.drewN j).ranges Try.prog 66 unitElem M r n D left cnt :=
  h.kept (row := none) ⟨rfl, rfl, rfl, Nat.le_refl _, fun _ _ _ => rfl⟩ (by simp) (by simp)
theorem ranges_drew {w : World} {M r n cnt : Nat} {D : DataW Unit} {left : Lit → Bool} (h : w.ranges Try.prog 66 unitElem M r n D left cnt) : w.drew.ranges Try.prog 66 unitElem M r n D left cnt :=
  h.kept (row := none) ⟨rfl, rfl, rfl, Nat.le_refl _, fun _ _ _ => rfl⟩ (by simp) (by simp)
/-- Set j of a table, with its cells. -/
theorem set_at {w : World} {lo g : Nat} {v3 v4 v5 : Value} {T : TbD} (ht : Tab w lo g v3 v4 v5 T) {j : Nat} (hj : j < T.sets.length) :
    ∃ S cap, w.cell? ⟨g, 0, none⟩ = some (.slice (some ⟨S, 0, none⟩) T.sets.length cap) ∧ w.cell? ⟨S, j * 4, none⟩ = some (.int .u64 ((T.sets.getD j st0).a.toNat : Int)) ∧ w.cell? ⟨S, j * 4 + 1, none⟩ = some (.int .u64 ((T.sets.getD j st0).b.toNat : Int)) ∧
      w.cell? ⟨S, j * 4 + 2, none⟩ = some (.int .u64 ((T.sets.getD j st0).c.toNat : Int)) ∧ w.cell? ⟨S, j * 4 + 3, none⟩ = some (.int .u64 ((T.sets.getD j st0).d.toNat : Int)) := by
  obtain ⟨vs, vg, M, vals, h⟩ := ht
  obtain ⟨x, hx⟩ : ∃ x, T.sets[j]? = some x := ⟨_, List.getElem?_eq_getElem hj⟩
  have e : T.sets.getD j st0 = x := by simp [List.getD, hx]
  rw [e]
  have hs := h.sets
  have k0 := h.blk.cell 0
  rcases hs.2 with ⟨rfl, h0⟩ | ⟨S, cap, cur, rfl, _⟩
  · omega
  · have q := fun i (hi : i < 4) => (hs.cellAt (j * 4 + i) (by omega)).trans (flat_get T.sets j i x hx hi)
    exact ⟨S, cap, k0, q 0 (by omega), q 1 (by omega), q 2 (by omega), q 3 (by omega)⟩
theorem sets_at {w : World} {lo g : Nat} {v3 v4 v5 : Value} {T : TbD} (ht : Tab w lo g v3 v4 v5 T) : ∃ B cap, w.cell? ⟨g, 0, none⟩ = some (.slice B T.sets.length cap) ∧ ∀ S, 0 < T.sets.length → w.cell? ⟨g, 0, none⟩ = some (.slice (some ⟨S, 0, none⟩) T.sets.length cap) → B = some ⟨S, 0, none⟩ := by
  obtain ⟨vs, vg, M, vals, h⟩ := ht
  obtain ⟨B, cap, rfl, _, _⟩ := own_val h.sets
  refine ⟨B, cap, h.blk.cell 0, fun S _ e => ?_⟩
  have := (h.blk.cell 0).symm.trans e
  simpa using this
theorem bool_put (xs : List Bool) (p : Nat) (v : Bool) : (boolVals xs).setIfInBounds p (.bool v) = boolVals (xs.set p v) := by simp [boolVals, List.map_set]
set_option maxHeartbeats 8000000 in
theorem step_any {lo g n k : Nat} {A : Au} {At : Option Addr} {at_ : List Bool} (c : UInt8) (b : Bool) {w : World} (hA : TabA w lo g A) (wf : AuWf A) (ha : Sl Value.bool w At n at_) :
    Calls Try.prog 17 #[.pointer (some ⟨g, 0, none⟩), .slice At n k, .int .u8 (c.toNat : Int), .bool b] w (StepPost A at_ c b w) := by
  obtain ⟨F, c1, L, k1, ht, hf, hl⟩ := id hA
  obtain ⟨vs, vg, M, vals, h⟩ := id ht
  have hN : A.T.sets.length ≤ 900000 := wf.small.sets
  have HLEN := keepHid (tlen_any ht)
  unfold natV at HLEN
  obtain ⟨w1, hw1⟩ : ∃ w1, w.alloc (.cells (boolVals (List.replicate A.T.sets.length false)) 4) = w1 := ⟨_, rfl⟩
  have hb1 : Below w.heap.size w w1 := by rw [← hw1]; exact (Below.refl _ _).alloc (Nat.le_refl _) _
  have hk1 : Blk w1 w.heap.size 4 (boolVals (List.replicate A.T.sets.length false)) := by rw [← hw1]; exact Blk.new _ _ _
  have hmk := run_mkbool A.T.sets.length (by omega) w
  rw [hw1] at hmk
  have HM : Hid (b = true → Calls Try.prog 24 #[.slice (some ⟨w.heap.size, 0, none⟩) A.T.sets.length A.T.sets.length, .slice F A.first.length c1] w1
      fun e w' => e = .returned (.tuple #[]) ∧ Blk w' w.heap.size 4 (boolVals (markB (List.replicate A.T.sets.length false) A.first)) ∧ Only w.heap.size w1 w') := keepHid (fun _ =>
    mark_any hk1 (List.length_replicate) (Sl.of_own (own_keep hf fun i _ hl => hb1.block i hl) (by
      obtain ⟨A', c', e, e1, e2⟩ := own_val hf
      omega)) (fun ad e => by
        have := (hf.lt ad.block (by subst e; rfl)).2
        omega) wf.first (by omega))
  have HW1 := keepHid hw1
  have HB1 := keepHid hb1
  have HK1 := keepHid hk1
  have HA := keepHid hA
  have HAT := keepHid ha
  have WF := keepHid wf
  have g3 : w1.cell? ⟨g, 3, none⟩ = some (.slice F A.first.length c1) := (World.cell?_of_block (hb1.block g h.blk.lt)).trans (h.blk.cell 3)
  obtain ⟨D, nD, hD1, hD2, hD3⟩ := h.leads
  have HD := keepHid hD1
  have HD3 := keepHid hD3
  have HGB := keepHid h.blk
  have hi : (A.T.sets.length : Int) ≤ 900000 := by omega
  have HNG := keepHid hN
  clear hA ha wf ht hf hl h hN hb1 hk1 hD1 hD2 hD3 hw1
  generalize hNN : A.T.sets.length = N at *
  have HNN := keepHid hNN
  clear hNN
  obtain ⟨bb, hbb⟩ : ∃ bb, b = bb := ⟨_, rfl⟩
  have HBB := keepHid hbb
  clear hbb
  have HS0 : Hid (∀ xs : List Bool, xs.length = N → (∀ q, xs.getD q false = true ↔ (bb = true ∧ q ∈ A.first)) → Marks A at_ bb (Maps.has D) xs) := keepHid (fun xs h1 h2 =>
    marks_start (by rw [HNN.out]; exact h1) h2 (fun p hp => (HD3.out _).2 ⟨p, hp, rfl⟩))
  cases b
  case' false =>
    go_enter Try.func17, Try.ntmps17
    go_wp2_with fail
    with_reducible refine HLEN.out.mono ?_
    rintro e w' ⟨rfl, rfl⟩
    go_upto_region 4 with fail
    have HM0 : Hid (Marks A at_ bb (Maps.has D) (List.replicate N false)) := keepHid (HS0.out _ List.length_replicate (fun q => by rw [rep_get, ← HBB.out]; simp))
    generalize List.replicate N false = xs0 at *
    have HB2 := HB1
    have HX0 := HK1
    clear g3 hmk HW1 HM HS0 HB1 HK1 HLEN
    generalize w1 = w2 at *
  case' true =>
    go_enter Try.func17, Try.ntmps17
    go_wp2_with fail
    with_reducible refine HLEN.out.mono ?_
    rintro e w' ⟨rfl, rfl⟩
    go_wp2_with fail
    with_reducible refine (HM.out (by simp)).mono ?_
    rintro e w2 ⟨rfl, hb2, ho2⟩
    have HX0 := keepHid hb2
    have HB2 : Hid (Below w.heap.size w w2) := keepHid (HB1.out.trans (ho2.below (Nat.le_refl _) HB1.out.size))
    go_upto_region 4 with fail
    have HM0 : Hid (Marks A at_ bb (Maps.has D) (markB (List.replicate N false) A.first)) := keepHid (HS0.out _ (by rw [mark_len, List.length_replicate]) (fun q => by
      rw [mark_get _ _ _ (fun p hp => by rw [List.length_replicate, ← HNN.out]; exact WF.out.first p hp), rep_get, ← HBB.out]; simp))
    generalize markB (List.replicate N false) A.first = xs0 at *
    clear g3 hmk HW1 HM HS0 HB1 HK1 HLEN hb2 ho2
  all_goals
    have g2 : w2.cell? ⟨g, 2, none⟩ = some (.map (some M)) := (World.cell?_of_block (HB2.out.block g HGB.out.lt)).trans (HGB.out.cell 2)
    have HD2 : Hid (w2.ownsMap Try.prog 66 unitElem M nD D) := keepHid (by
      obtain ⟨es, ck, h1, h2⟩ := HD.out
      exact ⟨es, ck, (HB2.out.block M HD.out.lt).trans h1, h2⟩)
    have HSZ : Hid (w.heap.size < w2.heap.size) := keepHid HX0.out.lt
    go_wp2_with (first | (at_range; refine wpList_range_own _ rfl _ 54 rfl 66 _ lawK Try.underlying54 _ M nD D rfl HD2.out ?_; intro w3 hrg3 hg3 hs3))
    go_frame
    generalize hr : w2.heap.size = r at *
    have HR := keepHid hr
    clear hr
    have HRG3 := keepHid hrg3
    have HB3 : Hid (Below w.heap.size w w3) := keepHid (HB2.out.trans (below_grown hg3 (fun i hi => by cases hi) HB2.out.size))
    have HX3 : Hid (Blk w3 w.heap.size 4 (boolVals xs0)) := keepHid ((hg3.block _ HX0.out.lt (by simp)).trans HX0.out)
    clear hrg3 hg3 hs3 g2
    go_loopw [28] (fun _ wr => ∃ (left : Lit → Bool) (cnt : Nat) (xs : List Bool), wr.ranges Try.prog 66 unitElem M r nD D left cnt ∧ Marks A at_ bb left xs ∧ Blk wr w.heap.size 4 (boolVals xs) ∧ Below w.heap.size w wr) (fun _ wr => wr.rangeLeft M r)
    case atStart => exact ⟨_, _, xs0, HRG3.out, HM0.out, HX3.out, HB3.out⟩
    case round =>
      obtain ⟨left, cnt, xs, hrg, hmx, hxr, hbr⟩ := hrel
      go_wp2_with (first | (at_next; refine wpList_next_pairs rfl _ rfl M r nD D A.T.leads HD3.out (fun p hp => WF.out.num hp) _ _ rfl hrg ?_ ?_))
      · intro hl0
        have HMX := keepHid hmx
        have HL0 := keepHid hl0
        have HXR := keepHid hxr
        have HBR := keepHid hbr
        obtain ⟨F0, c0, L0, k0, ht0, _, _⟩ := HA.out
        have HT0 := keepHid ht0
        obtain ⟨B0, cap0, e0⟩ : ∃ B cap, w.cell? ⟨g, 0, none⟩ = some (.slice B N cap) := by
          obtain ⟨B, cap, h1, _⟩ := sets_at ht0
          rw [HNN.out] at h1
          exact ⟨B, cap, h1⟩
        have g0 : wr.cell? ⟨g, 0, none⟩ = some (.slice B0 N cap0) := (World.cell?_of_block (hbr.block g HGB.out.lt)).trans e0
        have HE0 := keepHid e0
        have HD0 : Hid (Done A at_ bb c 0 xs) := keepHid ⟨hmx.1, fun q => by rw [if_neg (by omega)]; exact marks_end hmx hl0 q⟩
        clear hrg hmx hxr hbr hl0 ht0 e0
        go_wp2
        clear g0
        go_loopw [57] (fun i wq => ∃ (j : Nat) (ys : List Bool), j ≤ N ∧ i = .int .i64 j ∧ Done A at_ bb c j ys ∧ Blk wq w.heap.size 4 (boolVals ys) ∧ Below w.heap.size w wq) (fun i _ => N - (intOf i).toNat)
        case atStart => exact ⟨0, xs, Nat.zero_le _, rfl, HD0.out, HXR.out, HBR.out⟩
        case round =>
          obtain ⟨j, ys, hj, rfl, hdn, hyb, hbq⟩ := hrel
          rcases Nat.lt_or_ge j N with hlt | hge
          · obtain ⟨S, cap, s0, q0, q1, q2, q3⟩ := set_at (HT0.out.keep hbq) (j := j) (by rw [HNN.out]; exact hlt)
            obtain ⟨rfl, rfl⟩ : B0 = some ⟨S, 0, none⟩ ∧ cap0 = cap := by
              have e := ((World.cell?_of_block (hbq.block g HGB.out.lt)).trans HE0.out).symm.trans s0
              injection e with e
              injection e with e1 _ e2
              exact ⟨e1, e2⟩
            have hlen : j < ys.length := by rw [hdn.1, HNN.out]; exact hlt
            obtain ⟨v, hv⟩ : ∃ v, ys[j]? = some v := ⟨_, List.getElem?_eq_getElem hlen⟩
            have HV : Hid (ys.getD j false = v) := keepHid (by simp [List.getD, hv])
            have HDN := keepHid hdn
            have HLT := keepHid hlt
            obtain ⟨w6, hw6⟩ : ∃ w6, wr.alloc (.cells #[.int .u64 ((A.T.sets.getD j st0).a.toNat : Int), .int .u64 ((A.T.sets.getD j st0).b.toNat : Int), .int .u64 ((A.T.sets.getD j st0).c.toNat : Int), .int .u64 ((A.T.sets.getD j st0).d.toNat : Int)] 27) = w6 := ⟨_, rfl⟩
            have hb6 : Below wr.heap.size wr w6 := by rw [← hw6]; exact (Below.refl _ _).alloc (Nat.le_refl _) _
            have hk6 : Blk w6 wr.heap.size 27 #[.int .u64 ((A.T.sets.getD j st0).a.toNat : Int), .int .u64 ((A.T.sets.getD j st0).b.toNat : Int), .int .u64 ((A.T.sets.getD j st0).c.toNat : Int), .int .u64 ((A.T.sets.getD j st0).d.toNat : Int)] := by rw [← hw6]; exact Blk.new _ _ _
            have hy6 := hyb.below hb6 hyb.lt
            have HY6 := keepHid hy6
            have HB6 := keepHid (hbq.trans (hb6.mono hbq.size))
            have hh := has_any (A.T.sets.getD j st0) c.toNat (u8lt c) w6
            have y6 : w6.cell? ⟨w.heap.size, j, none⟩ = some (.bool v) := by rw [hy6.cell]; simp [boolVals, hv]
            have f6 := hy6.frozen j
            have HBS := keepHid hbq.size
            obtain ⟨x0, x1, x2, x3, xf⟩ := blk4 hk6
            have HX : Hid (hasS (A.T.sets.getD j st0) c.toNat = hasS (A.T.sets.getD j st0) c.toNat) := keepHid rfl
            have hji : (j : Int) < (N : Int) := by omega
            clear s0 hdn hyb hbq hv hb6 hk6 hy6 hlen
            unfold stV at hh
            generalize hSS : A.T.sets.getD j st0 = SS at *
            have HSS := keepHid hSS
            have HH := keepHid hh
            clear hSS hh HX
            cases v
            · go_upto_region 12 with fail
              try rw [hw6]
              clear hw6 q0 q1 q2 q3
              go_wp2
              go_roundw
              case rel => exact ⟨j + 1, ys.set j false, by omega, by go_num, done_next HDN.out (by rw [HNN.out]; exact HLT.out) (by rw [HV.out]; rfl), by rw [← bool_put]; exact HY6.out.put j _, HB6.out.setCell (Nat.le_refl _) _⟩
              case measure => simp [intOf]; omega
            · go_upto_region 12 with fail
              try rw [hw6]
              clear hw6 q0 q1 q2 q3
              go_wp2_with fail
              with_reducible refine HH.out.mono ?_
              rintro e w7 ⟨rfl, hb7⟩
              have HY7 := keepHid (HY6.out.below hb7 HY6.out.lt)
              have HB7 := keepHid (HB6.out.trans (hb7.mono HB6.out.size))
              have y7 : w7.cell? ⟨w.heap.size, j, none⟩ = some (.bool true) := (World.cell?_of_block (hb7.block _ HY6.out.lt)).trans y6
              have f7 := HY7.out.frozen j
              clear y6 f6 x0 x1 x2 x3 xf hb7
              generalize hz : hasS SS c.toNat = z at *
              have HZ := keepHid hz
              clear hz
              go_wp2
              go_roundw
              case rel => exact ⟨j + 1, ys.set j z, by omega, by go_num, done_next HDN.out (by rw [HNN.out]; exact HLT.out) (by rw [HV.out, HSS.out, HZ.out]; rfl), by rw [← bool_put]; exact HY7.out.put j _, HB7.out.setCell (Nat.le_refl _) _⟩
              case measure => simp [intOf]; omega
          · go_wp2
            go_ret
            have e := HBB.out
            subst e
            have hjN : j = A.T.sets.length := by rw [HNN.out]; omega
            subst hjN
            have e2 := done_end hdn
            subst e2
            exact ⟨w.heap.size, by rw [← HNN.out]; rfl, hyb, Nat.le_refl _, hbq⟩
      · intro f t w4 cnt4 hp hrg4 hlt4 hg4 hs4 hen
        have HP : Hid ((f, t) ∈ A.T.leads) := keepHid hp
        have HL4 := keepHid hlt4
        have HMX := keepHid hmx
        have HEQ := keepHid hrg.left_eq
        have hends := WF.out.ends _ hp
        simp only at hends
        have hb4 : Below w.heap.size w w4 := hbr.trans (below_grown hg4 (fun i hi => by injection hi with hi; have := HSZ.out; omega) hbr.size)
        have hx4 : Blk w4 w.heap.size 4 (boolVals xs) := (hg4.block _ hxr.lt (fun e => by injection e with e; have := HSZ.out; omega)).trans hxr
        obtain ⟨w5, hw5⟩ : ∃ w5, w4.alloc (.cells #[.int .i64 (f : Int), .int .i64 (t : Int)] 66) = w5 := ⟨_, rfl⟩
        have hb45 : Below w4.heap.size w4 w5 := by rw [← hw5]; exact (Below.refl _ _).alloc (Nat.le_refl _) _
        have HRG5 : Hid (w5.ranges Try.prog 66 unitElem M r nD D (fun z => left z && !z.sameKey (klf (f, t))) cnt4) := keepHid (by rw [← hw5]; exact hrg4.alloc _)
        have hp5 : Blk w5 w4.heap.size 66 #[.int .i64 (f : Int), .int .i64 (t : Int)] := by rw [← hw5]; exact Blk.new _ _ _
        have HB5 : Hid (Below w.heap.size w w5) := keepHid (hb4.trans (hb45.mono hb4.size))
        have HX5 := keepHid (hx4.below hb45 hx4.lt)
        obtain ⟨F0, c0, L0, k0, ht0, _, _⟩ := HA.out
        have ht5 := ht0.keep HB5.out
        obtain ⟨GF, capF, BF, cF, cg, cf, hsf, _⟩ := grp_at ht5 WF.out.small hends.1
        obtain ⟨GT, capT, BT, cT, cg', ct, hst, hstb⟩ := grp_at ht5 WF.out.small hends.2
        obtain ⟨rfl, rfl⟩ : GF = GT ∧ capF = capT := by
          rw [cg] at cg'
          injection cg' with e1
          injection e1 with e1 _ e2
          injection e1 with e1
          injection e1 with e1
          exact ⟨e1, e2⟩
        obtain ⟨BB, hBB⟩ : ∃ BB, anyB at_ (A.T.grp f) = BB := ⟨_, rfl⟩
        have HANY : Hid (∀ j, Calls Try.prog 25 #[.slice At n k, .slice BF (A.T.grp f).length cF] (w5.drewN j) fun e w' => e = .returned (.bool BB) ∧ w5.drewN j = w') := keepHid (fun j => by
          rw [← hBB]
          exact anyOf_any ((HAT.out.below HB5.out).drewN j) (hsf.drewN j))
        have HBB2 := keepHid hBB
        have hgl : (A.T.groups.length : Int) ≤ 900000 := by have := WF.out.small.groups; omega
        obtain ⟨NG, hNG⟩ : ∃ NG, A.T.groups.length = NG := ⟨_, rfl⟩
        rw [hNG] at cg hends hgl
        have lf : (f : Int) < (NG : Int) := by omega
        have lt : (t : Int) < (NG : Int) := by omega
        obtain ⟨d0, d1⟩ : w5.cell? ⟨w4.heap.size, 0, none⟩ = some (.int .i64 (f : Int)) ∧ w5.cell? ⟨w4.heap.size, 1, none⟩ = some (.int .i64 (t : Int)) := ⟨hp5.cell 0, hp5.cell 1⟩
        have HST := keepHid hst
        have HSTB := keepHid hstb
        have hen' : (Instr.entry (.pointer (some ⟨r, 0, none⟩))).run Try.prog w4 = .ok (.tuple #[.agg #[.int .i64 (f : Int), .int .i64 (t : Int)], .agg #[]]) w4 := hen
        have HGC : Hid (w.heap.size < w4.heap.size) := keepHid hx4.lt
        clear hp hlt4 hmx hrg hb4 hx4 hxr hbr hg4 hs4 hrg4 hb45 hp5 ht0 ht5 hsf hst hstb cg' hBB hNG hends hen
        go_upto_region 7 with fail
        try rw [hw5]
        clear hw5 hen'
        generalize w4.heap.size = C at *
        cases BB
        · go_quiet ((go_at_call 25; exact quietL (HANY.out _)))
          go_wp2
          go_roundw
          case rel => exact ⟨_, cnt4, xs, ranges_drewN HRG5.out _, marks_skip WF.out HP.out HMX.out HBB2.out, HX5.out, below_drewN HB5.out _⟩
          case measure =>
            rw [(ranges_drewN HRG5.out _).left_eq, HEQ.out]
            exact HL4.out
        · go_quiet ((go_at_call 25; exact quietL (HANY.out _)))
          have hrg7 := ranges_drewN HRG5.out (nq + 1)
          have hx7 : Blk (w5.drewN (nq + 1)) w.heap.size 4 (boolVals xs) := HX5.out.drewN (nq + 1)
          have hb7 : Below w.heap.size w (w5.drewN (nq + 1)) := below_drewN HB5.out (nq + 1)
          have hst7 : Sl natV (w5.drewN (nq + 1)) BT (A.T.grp t).length (A.T.grp t) := HST.out.drewN (nq + 1)
          have HSS : Hid (∀ w', Only w.heap.size (w5.drewN (nq + 1)) w' → w'.cell? ⟨g, 1, none⟩ = some (.slice (some ⟨GF, 0, none⟩) NG capF) ∧ w'.cell? ⟨C, 1, none⟩ = some (.int .i64 (t : Int)) ∧ w'.cell? ⟨GF, t, none⟩ = some (.slice BT (A.T.grp t).length cT)) := keepHid (fun w' ho => by
            have hg' : g ≠ w.heap.size := by have := HGB.out.lt; omega
            have hf' : GF ≠ w.heap.size := by
              obtain ⟨F0, c0, L0, k0, ht0, _, _⟩ := HA.out
              obtain ⟨vs', vg', M', vals', h'⟩ := ht0
              have e1 := (World.cell?_of_block (HB5.out.block g h'.blk.lt)).trans (h'.blk.cell 1)
              rw [cg] at e1
              injection e1 with e1
              simp at e1
              have := (h'.groups.lt GF (by rw [← e1]; rfl)).2
              omega
            exact ⟨(World.cell?_of_block (ho.block g (World.block_lt_of_cell? w5 _ cg) (fun e => hg' (by injection e)))).trans cg,
              (World.cell?_of_block (ho.block C (World.block_lt_of_cell? w5 _ d1) (fun e => by injection e with e; have := HGC.out; omega))).trans d1,
              (World.cell?_of_block (ho.block GF (World.block_lt_of_cell? w5 _ ct) (fun e => hf' (by injection e)))).trans ct⟩)
          have HMK : Hid (Calls Try.prog 24 #[.slice (some ⟨w.heap.size, 0, none⟩) N N, .slice BT (A.T.grp t).length cT] (w5.drewN (nq + 1))
              fun e w' => e = .returned (.tuple #[]) ∧ Blk w' w.heap.size 4 (boolVals (markB xs (A.T.grp t))) ∧ Only w.heap.size (w5.drewN (nq + 1)) w') := keepHid (by
            refine mark_any hx7 (by rw [← HNN.out]; exact HMX.out.1) hst7 (fun ad e => ?_) (fun y hy => ?_) (by have := HNG.out; omega)
            · obtain ⟨cs, hcs⟩ := HSTB.out ad e
              exact blk_ne hcs HX5.out (by decide)
            · obtain ⟨x, hx, _⟩ := (any_iff _ _).1 HBB2.out
              rw [← HNN.out]
              exact WF.out.leads _ HP.out x hx y hy)
          have HRG7 := keepHid hrg7
          have HB7 := keepHid hb7
          clear hrg7 hx7 hb7 hst7
          have HS7 := keepHid (HSS.out _ (Only.refl _ _))
          go_wp2_with fail
          go_region_held3 (fun w' => w'.cell? ⟨g, 1, none⟩ = some (.slice (some ⟨GF, 0, none⟩) NG capF) ∧ w'.cell? ⟨C, 1, none⟩ = some (.int .i64 (t : Int)) ∧ w'.cell? ⟨GF, t, none⟩ = some (.slice BT (A.T.grp t).length cT)) (first | exact HS7.out | exact HS8.out) (first | (go_at_call 24; (with_reducible refine HMK.out.mono ?_); rintro e w8 ⟨rfl, hx8, ho8⟩; have HS8 := keepHid (HSS.out _ ho8); have HX8 := keepHid hx8; have HO8 := keepHid ho8; clear hx8 ho8))
          go_wp2
          have hrg8 := HRG7.out.kept HO8.out (fun e => by injection e with e; have := HD.out.lt; omega) (fun e => by injection e with e; have := HSZ.out; omega)
          go_roundw
          case rel => exact ⟨_, cnt4, _, hrg8, marks_mark WF.out HP.out HMX.out HBB2.out, HX8.out, HB7.out.trans (HO8.out.below (Nat.le_refl _) HB7.out.size)⟩
          case measure =>
            rw [hrg8.left_eq, HEQ.out]
            exact HL4.out
end Go.Proofs.Ytlmjijejgfhmmaa
