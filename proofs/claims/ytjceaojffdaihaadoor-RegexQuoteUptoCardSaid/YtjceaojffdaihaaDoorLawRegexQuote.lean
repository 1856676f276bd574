/-
  'lifelinelaw06.RegexQuote' answers true for every input of the row, and leaves its arguments as they were.
  Conditions: the arguments hold together at most 1048576 values and bytes, each counted each time that it is reached; the package-level variables that the row lists lie as the program's own text lays them (the card ties them to it; what is pinned is a constant of the library's).
-/
import Derived.Test.YtjceaojffdaihaaDoorRows
import Derived.Test.YtjceaojffdaihaaDoorRegexAwake
import Derived.Test.YtjceaojffdaihaaDoorRegexQuoted
import Derived.Test.YtjceaojffdaihaaDoorRegexSame
import Derived.Test.YtjceaojffdaihaaDoorRegexJoin
import Derived.Test.YtjceaojffdaihaaDoorFrame
import Derived.Test.YtjceaojffdaihaaDoorFrameRegex
import Derived.Test.YtjceaojffdaihaaDoorCards
import Derived.WalkKit
import Derived.ProofKit
import Derived.OpenShut
import Derived.ShutString
import Derived.ChangeOld
import Derived.Below
import Derived.Deep.DeepHandedRow
import Derived.Deep.DeepWitnessRowRef
namespace Go.Proofs.YtjceaojffdaihaaDoor.regexQuote
open Go.ChangeShapes Go.WideShapes Go.ChangeAt Go.RowKit
open Go.ChangeMaps (open_string shut_string)
set_option linter.unusedVariables false

theorem own : ownKnob Tryd.prog.godebug = none := by kernel_rfl
theorem laidOut : laidOutB Tryd.prog = true := by kernel_rfl

-- WALK BEGIN
theorem count_le (p : Nat) (c : UInt8) : (spcL.take p).count c ≤ 1 := Nat.le_trans ((List.take_sublist _ _).count_le _) (by rw [count_spc]; split <;> simp)
theorem cut_one {l : List UInt8} {k : Nat} {c : UInt8} (h : l[k]? = some c) : (strB l).extract k (k + 1) = strB [c] := by
  have hk : k < l.length := (List.getElem?_eq_some_iff.1 h).1
  have e : (strB l).extract k (k + 1) = strB ((l.drop k).take 1) := by
    apply ByteArray.ext
    apply Array.toList_inj.1
    simp [strB, ByteArray.data_extract]
  rw [e]
  have : (l.drop k).take 1 = [c] := by
    rw [List.drop_eq_getElem_cons hk]
    have := (List.getElem?_eq_some_iff.1 h).2
    simp [this]
  rw [this]
theorem run_cut1 {l : List UInt8} {k : Nat} {c : UInt8} (h : l[k]? = some c) (w : World) :
    (Instr.slice 9 (.string (strB l)) (some (.int .i64 (k : Int))) (some (.int .i64 ((k : Int) + 1))) none).run Tryd.prog w = .ok (.string (strB [c])) w := by
  have hk : k < l.length := (List.getElem?_eq_some_iff.1 h).1
  rw [run_slice_string w 9 (strB l) .i64 .i64 (k : Int) ((k : Int) + 1) Tryd.underlying9 (by omega) (by omega) (by rw [strB_size]; omega)]
  have h2 := cut_one h
  show Result.ok (Value.string ((strB l).extract _ _)) w = _
  rw [show ((k : Int)).toNat = k by omega, show ((k : Int) + 1).toNat = k + 1 by omega, h2]
theorem next_spc (w : World) (k p : Nat) (d : UInt8) (hd : spcL[p]? = some d) (hk : w.heap[k]? = some (.stringIter ⟨#[40, 41, 91, 93, 46, 42, 43, 63, 124, 92]⟩ p)) (ty : TypeId) :
    (Instr.next (.pointer (some ⟨k, 0, none⟩)) true ty).run Tryd.prog w = .ok (.tuple #[.bool true, .int .i64 (p : Int), .int .i32 (d.toNat : Int)]) (w.iterAt k ⟨#[40, 41, 91, 93, 46, 42, 43, 63, 124, 92]⟩ (p + 1)) := by
  have hp : p < 10 := by
    rcases Nat.lt_or_ge p 10 with h | h
    · exact h
    · rw [List.getElem?_eq_none (by exact h)] at hd; cases hd
  rcases (by omega : p = 0 ∨ p = 1 ∨ p = 2 ∨ p = 3 ∨ p = 4 ∨ p = 5 ∨ p = 6 ∨ p = 7 ∨ p = 8 ∨ p = 9) with rfl | rfl | rfl | rfl | rfl | rfl | rfl | rfl | rfl | rfl <;>
    (obtain rfl := (Option.some.inj hd); exact Lib.run_next_ascii_at w k _ _ ty hk (by decide) (by decide))
theorem count_next {p : Nat} {d c : UInt8} (hd : spcL[p]? = some d) : (spcL.take (p + 1)).count c = (spcL.take p).count c + if d == c then 1 else 0 := by
  rw [take_snoc hd, List.count_append, List.count_singleton]
set_option maxRecDepth 100000 in
set_option maxHeartbeats 4000000 in
theorem walk (b0 b1 : List UInt8) (w : World) (hT : ErrT w) (h0 : b0.length ≤ 1048576) (h1 : b1.length ≤ 1048576) :
    Calls Tryd.prog 5 #[.string (strB b0), .string (strB b1)] w fun e w' => e = .returned (.bool true) ∧ Below w.heap.size w w' := by
  have HA := keepHid (awake_any w hT)
  have H0 := keepHid h0
  have H1 := keepHid h1
  obtain ⟨N, hN⟩ : ∃ N, b0.length = N := ⟨_, rfl⟩
  have hsz : (strB b0).size = N := by rw [strB_size, hN]
  have HN := keepHid hN
  have hNb : N ≤ 1048576 := by omega
  clear hT h0 h1 hN
  go_enter Tryd.func5, Tryd.ntmps5
  go_wp2_with fail
  refine HA.out.mono ?_
  rintro e w1 ⟨rfl, hb1⟩
  have HB1 := keepHid hb1
  have HQ := keepHid (quote_any b0 w1 (by have := H0.out; omega))
  clear hb1 HA
  go_wp2_with fail
  refine HQ.out.mono ?_
  rintro e w2 ⟨rfl, hb2⟩
  have HB2 := keepHid (HB1.out.trans (hb2.mono HB1.out.size))
  clear hb2 HQ
  obtain ⟨Q, hQ⟩ : ∃ Q, strB (quo b0) = Q := ⟨_, rfl⟩
  have HQE := keepHid hQ
  have hQs : Q.size = (quo b0).length := by rw [← hQ, strB_size]
  have HQS := keepHid hQs
  rw [hQ]
  clear hQ hQs
  go_wp2_with fail
  go_loopw [6, 7] (fun sv iv wr => ∃ k : Nat, k ≤ N ∧ sv = .string (strB (quo (b0.take k))) ∧ iv = .int .i64 (k : Int) ∧ Below w.heap.size w wr) (fun _ iv _ => N - (intOf iv).toNat)
  case atStart => exact ⟨0, Nat.zero_le _, rfl, rfl, HB2.out⟩
  case round =>
    obtain ⟨k, hk, rfl, rfl, hb⟩ := hrel
    have HB := keepHid hb
    by_cases hlt : k < N
    · obtain ⟨c, hc⟩ : ∃ c, b0[k]? = some c := ⟨_, List.getElem?_eq_getElem (by rw [HN.out]; exact hlt)⟩
      have hix := run_idx hc (k : Int) rfl
      have hcut := run_cut1 hc
      have HT := keepHid (quo_take hc)
      have HLQ : Hid ((quo (b0.take k)).length ≤ 2097152) := keepHid (by
        have h1 := quo_len (b0.take k)
        have h2 : (b0.take k).length ≤ k := by simp; omega
        omega)
      have hk' : (k : Int) < (N : Int) := by omega
      clear hb hc
      generalize wr = wq at *
      go_wp2_with fail
      obtain ⟨B, hBq⟩ : ∃ B, wq.heap.size = B := ⟨_, rfl⟩
      have HW0 : Hid ((wq.iter ⟨#[40, 41, 91, 93, 46, 42, 43, 63, 124, 92]⟩ 0).heap[B]? = some (.stringIter ⟨#[40, 41, 91, 93, 46, 42, 43, 63, 124, 92]⟩ 0)) := keepHid (by rw [← hBq]; exact World.iter_heap _ _ _)
      have HWB : Hid (Below B wq (wq.iter ⟨#[40, 41, 91, 93, 46, 42, 43, 63, 124, 92]⟩ 0)) := keepHid (by rw [← hBq]; exact (Below.refl _ wq).alloc (Nat.le_refl _) _)
      have HBQ := keepHid hBq
      rw [hBq]
      clear hBq
      go_loopw [6] (fun sv wi => ∃ p : Nat, p ≤ 10 ∧ sv = .string (strB (quo (b0.take k) ++ List.replicate ((spcL.take p).count c) 92)) ∧ wi.heap[B]? = some (.stringIter ⟨#[40, 41, 91, 93, 46, 42, 43, 63, 124, 92]⟩ p) ∧ Below B wq wi) (fun _ wi => 10 - wi.iterPos B)
      case atStart => exact ⟨0, Nat.zero_le _, by simp, HW0.out, HWB.out⟩
      case round =>
        obtain ⟨p, hp, rfl, hit, hbi⟩ := hrel
        have HBI := keepHid hbi
        have HIT := keepHid hit
        have HCL := keepHid (count_le p c)
        by_cases hp10 : p < 10
        · obtain ⟨d, hd⟩ : ∃ d, spcL[p]? = some d := ⟨_, List.getElem?_eq_getElem hp10⟩
          have hnx := fun ty => next_spc wr B p d hd hit ty
          have HIT2 : Hid ((wr.iterAt B ⟨#[40, 41, 91, 93, 46, 42, 43, 63, 124, 92]⟩ (p + 1)).heap[B]? = some (.stringIter ⟨#[40, 41, 91, 93, 46, 42, 43, 63, 124, 92]⟩ (p + 1))) := keepHid (Lib.iterAt_heap wr B _ p (p + 1) hit)
          have HB2 : Hid (Below B wq (wr.iterAt B ⟨#[40, 41, 91, 93, 46, 42, 43, 63, 124, 92]⟩ (p + 1))) := keepHid (Lib.below_iterAt hbi (Nat.le_refl _) _ _)
          have HM : Hid (wr.iterPos B = p) := keepHid (by simp [World.iterPos, hit])
          have HM2 : Hid ((wr.iterAt B ⟨#[40, 41, 91, 93, 46, 42, 43, 63, 124, 92]⟩ (p + 1)).iterPos B = p + 1) := keepHid (by simp [World.iterPos, HIT2.out])
          have HC := keepHid (count_next (c := c) hd)
          obtain ⟨n, hn⟩ : ∃ n, (spcL.take p).count c = n := ⟨_, rfl⟩
          rw [hn] at HC ⊢
          have hadd : ∀ w, (Op.stringOp .add (strB (quo (b0.take k) ++ List.replicate n 92)) ⟨#[92]⟩).run Tryd.prog w = .ok (.string (strB (quo (b0.take k) ++ List.replicate (n + 1) 92))) w := fun w => by
            rw [List.replicate_succ', ← List.append_assoc]
            exact run_strAdd (quo (b0.take k) ++ List.replicate n 92) [92] (by have := HLQ.out; have := HCL.out; simp; omega) w
          obtain ⟨x, hx⟩ : ∃ x, d.toNat = x := ⟨_, rfl⟩
          obtain ⟨y, hy⟩ : ∃ y, c.toNat = y := ⟨_, rfl⟩
          have hx256 : x < 256 := by rw [← hx]; exact u8lt d
          have hdc : (d == c) = decide (y = x) := by
            rw [← hx, ← hy, Bool.eq_iff_iff]
            simp only [beq_iff_eq, decide_eq_true_eq, ← UInt8.toNat_inj]
            exact eq_comm
          rw [hdc] at HC
          rw [hx] at hnx
          rw [hy] at hix
          generalize wr.iterAt B ⟨#[40, 41, 91, 93, 46, 42, 43, 63, 124, 92]⟩ (p + 1) = wz at *
          clear hit hbi hd hn hx hdc hcut
          have hxm : (x : Int) % 256 = (x : Int) := by omega
          by_cases hyx : y = x
          · have hc1 : ((y : Int) == (x : Int)) = true := by rw [hyx]; simp
            have hc2 : (y : Int) = (x : Int) := by omega
            go_wp2_with fail
            go_roundw
            case rel => exact ⟨p + 1, by omega, by rw [HC.out, if_pos (by simpa using hyx)], HIT2.out, HB2.out⟩
            case measure => have := HM.out; have := HM2.out; omega
          · have hc1 : ((y : Int) == (x : Int)) = false := by simp; omega
            have hc2 : ¬ (y : Int) = (x : Int) := by omega
            go_wp2_with fail
            go_roundw
            case rel => exact ⟨p + 1, by omega, by rw [HC.out, if_neg (by simpa using hyx)]; rfl, HIT2.out, HB2.out⟩
            case measure => have := HM.out; have := HM2.out; omega
        · obtain rfl : p = 10 := by omega
          have hnx : ∀ ty, (Instr.next (.pointer (some ⟨B, 0, none⟩)) true ty).run Tryd.prog wr = .ok (.tuple #[.bool false]) wr := fun ty => Lib.run_next_end_at wr B _ 10 ty hit (by decide)
          have hadd : ∀ w, (Op.stringOp .add (strB (quo (b0.take k) ++ List.replicate ((spcL.take 10).count c) 92)) (strB [c])).run Tryd.prog w = .ok (.string (strB (quo (b0.take (k + 1))))) w := fun w => by
            rw [HT.out, quo1_count, ← List.append_assoc]
            exact run_strAdd (quo (b0.take k) ++ List.replicate ((spcL.take 10).count c) 92) [c] (by have := HLQ.out; have := HCL.out; simp; omega) w
          generalize strB (quo (b0.take k) ++ List.replicate ((spcL.take 10).count c) 92) = S1 at *
          have HB3 : Hid (Below w.heap.size w wr) := keepHid (HB.out.trans (hbi.mono (by rw [← HBQ.out]; exact HB.out.size)))
          clear hit hbi
          go_wp2_with fail
          go_roundw
          case rel => exact ⟨k + 1, by omega, rfl, by go_num, HB3.out⟩
          case measure => simp [intOf]; omega
    · obtain rfl : k = N := by omega
      have hall : b0.take k = b0 := List.take_of_length_le (by rw [HN.out]; exact Nat.le_refl _)
      rw [hall, HQE.out]
      clear hb hall
      by_cases h64 : 64 < (quo b0).length
      · have hq64 : (64 : Int) < (Q.size : Int) := by rw [HQS.out]; omega
        go_wp2_with fail
        go_ret
        exact ⟨rfl, HB.out⟩
      · have hq64 : ¬ (64 : Int) < (Q.size : Int) := by rw [HQS.out]; omega
        have hlen : (quo b0).length ≤ 64 := by omega
        have HPA := keepHid (parse_any (quo b0) wr)
        have hpar := quo_parse b0 hlen
        have HPAR := keepHid (fun e w' (p : ParsePost (quo b0) wr e w') => parse_pat hpar p hlen)
        have HLEN := keepHid hlen
        rw [HQE.out] at HPA
        clear hpar hlen h64
        go_wp2_with fail
        refine HPA.out.mono ?_
        intro e w4 hp
        obtain ⟨h4, rfl, hi4, hb4⟩ := HPAR.out e w4 hp
        obtain ⟨w5, hw5⟩ : ∃ w5, w4.alloc (.cells (hdC h4) 30) = w5 := ⟨_, rfl⟩
        have hb45 : Below w4.heap.size w4 w5 := by rw [← hw5]; exact (Below.refl _ _).alloc (Nat.le_refl _) _
        have hx5 : Blk w5 w4.heap.size 30 (hdC h4) := by rw [← hw5]; exact Blk.new _ _ _
        have hb25 := hb4.trans (hb45.mono hb4.size)
        have HB5 := keepHid (HB.out.trans (hb25.mono HB.out.size))
        have HI5 := keepHid (hi4.below hb45)
        obtain ⟨gx, hgx⟩ : ∃ gx, w4.heap.size = gx := ⟨_, rfl⟩
        rw [hgx] at hx5
        have HX5 := keepHid hx5
        have HXL : Hid (gx < w5.heap.size) := keepHid hx5.lt
        have HWS : Hid (w.heap.size ≤ w5.heap.size) := keepHid HB5.out.size
        have HIS := keepHid (hi4.below hb45)
        obtain ⟨w6, hw6⟩ : ∃ w6, w5.alloc (.cells #[.int .i64 0, .int .u64 0, .int .u64 0, .int .u64 0, .int .u64 0, .slice none 0 0] 30) = w6 := ⟨_, rfl⟩
        have HW6 := keepHid hw6
        have HN6 := keepHid (node_zero hw6)
        obtain ⟨gn, hgn⟩ : ∃ gn, w5.heap.size = gn := ⟨_, rfl⟩
        have HGN := keepHid hgn
        rw [hgn] at HN6 HXL
        clear hp hb4 hb45 hx5 hb25 hi4 hw6 HPA HPAR
        generalize wr.heap.size = lo at *
        unfold hdV
        unfold hdC at hw5
        go_upto_region 17 with fail
        try rw [hw5]
        try rw [hgx]
        clear hw5 hgx
        go_wp2_with fail
        try rw [HW6.out]
        try rw [hgn]
        clear hgn
        go_loopw [13] (fun iv wr => ∃ j : Nat, j ≤ k ∧ iv = .int .i64 (j : Int) ∧ NodeRel gn w5 (treeOf (b0.take j)) wr) (fun iv _ => k - (intOf iv).toNat)
        case atStart => exact ⟨0, Nat.zero_le _, rfl, HN6.out⟩
        case round =>
          obtain ⟨j, hj, rfl, h, hblk, hih, hbel⟩ := hrel
          have HBL := keepHid hbel
          have HIH := keepHid hih
          by_cases hlt2 : j < k
          · obtain ⟨c, hc⟩ : ∃ c, b0[j]? = some c := ⟨_, List.getElem?_eq_getElem (by rw [HN.out]; exact hlt2)⟩
            have hix := run_idx hc (j : Int) rfl
            have HTK := keepHid (take_snoc hc)
            obtain ⟨y, hy⟩ : ∃ y, c.toNat = y := ⟨_, rfl⟩
            have hy256 : y < 256 := by rw [← hy]; exact u8lt c
            have HY := keepHid hy
            rw [hy] at hix
            have HBN := keepHid (byteNode_any y hy256 wr)
            have HK := keepHid hblk
            have hj' : (j : Int) < (k : Int) := by omega
            clear hc hy hbel hih hblk
            go_wp2_with fail
            refine HBN.out.mono ?_
            rintro e w7 ⟨rfl, hb7⟩
            have hk7 := HK.out.below hb7 HK.out.lt
            have hi7 := HIH.out.below hb7
            have hgw : gn ≤ wr.heap.size := Nat.le_of_lt HK.out.lt
            have hbel7 := HBL.out.trans (hb7.mono hgw)
            obtain ⟨w8, hw8⟩ : ∃ w8, w7.alloc (.cells (hdC (oneH y)) 30) = w8 := ⟨_, rfl⟩
            have hb78 : Below w7.heap.size w7 w8 := by rw [← hw8]; exact (Below.refl _ _).alloc (Nat.le_refl _) _
            have ho8 : Blk w8 w7.heap.size 30 (hdC (oneH y)) := by rw [← hw8]; exact Blk.new _ _ _
            have hk8 := hk7.below hb78 hk7.lt
            have HK8 := keepHid hk8
            have HI8 := keepHid (hi7.below hb78)
            have HBL8 := keepHid (hbel7.trans (hb78.mono (Nat.le_of_lt hk7.lt)))
            obtain ⟨g1, hg1⟩ : ∃ g1, w7.heap.size = g1 := ⟨_, rfl⟩
            rw [hg1] at ho8
            clear hk7 hi7 hgw hbel7 hb78 hb7
            unfold hdV
            unfold hdC oneH at hw8
            simp only at hw8
            have HW8 := keepHid hw8
            have HG1 := keepHid hg1
            clear hw8 hg1
            go_upto_region 22 with fail
            try rw [HW8.out]
            try rw [HG1.out]
            clear HW8 HG1
            obtain ⟨k0, k1, k2, k3, k4, k5, kf⟩ := blk6 hk8
            obtain ⟨l0, l1, l2, l3, l4, l5, lf⟩ := blk6 ho8
            have hglt : gn < w8.heap.size := hk8.lt
            have hglt1 : g1 < w8.heap.size := ho8.lt
            clear hk8 ho8
            rcases Nat.eq_zero_or_pos j with rfl | hpos
            · go_wp2_with fail
              go_roundw
              case rel =>
                refine ⟨1, by omega, by go_num, ?_⟩
                rw [HTK.out]
                exact node_first HK8.out HBL8.out c y HY.out
              case measure => simp [intOf]; omega
            · have hj0 : ((j : Int) == 0) = false := by simp; omega
              have hj1 : ¬ (j : Int) = 0 := by omega
              have hne : b0.take j ≠ [] := by
                have := HN.out
                intro e
                have h2 : (b0.take j).length = 0 := by rw [e]; rfl
                rw [List.length_take] at h2; omega
              have HNE := keepHid hne
              clear hne
              go_wp2_with fail
              go_roundw
              case rel =>
                refine ⟨j + 1, by omega, by go_num, ?_⟩
                rw [HTK.out]
                exact node_next HK8.out HNE.out HI8.out HBL8.out (by rw [HGN.out]; exact Nat.le_refl _) c y HY.out
              case measure => simp [intOf]; omega
          · obtain rfl : j = k := by omega
            have hall2 : b0.take j = b0 := List.take_of_length_le (by rw [HN.out]; exact Nat.le_refl _)
            rw [hall2] at HIH
            have HK := keepHid hblk
            have HXW : Hid (Blk wr gx 30 (hdC h4)) := keepHid (HX5.out.below hbel HXL.out)
            have HIW := keepHid (HI5.out.move (w' := wr) (T := fun g => g < gn) (fun g _ hg => hbel.block g (by rw [← HGN.out]; exact hg)) (fun g _ hg => by rw [← HGN.out]; exact hg))
            have HSM := keepHid (same_any (treeOf b0) _ _ h4 h wr HIW.out HIH.out)
            have HQ1 := keepHid (fun w => quote_any (b0 ++ b1) w (by have := H0.out; have := H1.out; simp; omega))
            have HQ2 := keepHid (fun w => quote_any b1 w (by have := H1.out; omega))
            have ha1 : ∀ w, (Op.stringOp .add (strB b0) (strB b1)).run Tryd.prog w = .ok (.string (strB (b0 ++ b1))) w := fun w => run_strAdd b0 b1 (by have := H0.out; have := H1.out; simp; omega) w
            have ha2 : ∀ w, (Op.stringOp .add Q (strB (quo b1))).run Tryd.prog w = .ok (.string (strB (quo (b0 ++ b1)))) w := fun w => by
              rw [← HQE.out, quo_append]
              exact run_strAdd (quo b0) (quo b1) (by have := H0.out; have := H1.out; have := quo_len b0; have := quo_len b1; simp; omega) w
            obtain ⟨k0, k1, k2, k3, k4, k5, kf⟩ := blk6 HK.out
            obtain ⟨l0, l1, l2, l3, l4, l5, lf⟩ := blk6 HXW.out
            have HBW : Hid (Below w.heap.size w wr) := keepHid (HB5.out.trans (hbel.mono (by rw [← HGN.out]; exact HWS.out)))
            generalize strB (quo (b0 ++ b1)) = QA at *
            generalize strB (quo b1) = QB at *
            generalize strB (b0 ++ b1) = SA at *
            clear hbel hih hblk hall2
            go_wp2_with fail
            refine HSM.out.mono ?_
            rintro e w10 ⟨rfl, hb10⟩
            have HB10 := keepHid (HBW.out.trans (hb10.mono HBW.out.size))
            clear hb10
            go_wp2_with fail
            refine (HQ1.out _).mono ?_
            rintro e w11 ⟨rfl, hb11⟩
            have HB11 := keepHid (HB10.out.trans (hb11.mono HB10.out.size))
            clear hb11
            go_wp2_with fail
            refine (HQ2.out _).mono ?_
            rintro e w12 ⟨rfl, hb12⟩
            have HB12 := keepHid (HB11.out.trans (hb12.mono HB11.out.size))
            clear hb12
            go_wp2
            go_ret
            exact ⟨rfl, HB12.out⟩

set_option maxRecDepth 100000 in
theorem lifted (os : Os) (started : os.Started) (H : Type) (enc : TypeId × Value → H) (F : Stop.Interp) :
    ReturnsInHanded {} Tryd.checked os 5 .any ((Rows.OpenSpec.upto Rows.regexQuoteSpec).preRow enc Tryd.prog Tryd.f5 Rows.regexQuoteUptoRow.domain false laidR) (((Rows.OpenSpec.upto Rows.regexQuoteSpec).at F).post enc Tryd.prog Tryd.f5 false true false false) := by
  refine returnsInHanded_of_row (C := Tryd.checked) (s := Rows.OpenSpec.upto Rows.regexQuoteSpec) own started (by kernel_rfl) Tryd.func5
    (witness_row_atRef (enc := enc) (C := Tryd.checked) false (World.doorLaid Tryd.prog 400 os) #[.string ⟨#[]⟩, .string ⟨#[]⟩] rfl (by kernel_rfl) (by kernel_rfl) (by kernel_rfl)
      (OpenSpec.preRow_of_cond 8 (x := ([.lit (.string []), .lit (.string [])], [], [])) (by kernel_rfl) rfl (fun k hk => by cases hk; rfl) (by kernel_rfl) (doorR os _))) ?_
  intro W base args ds gs before hval0 hW hcnd hsmall0 hsz0 hL _ _
  have hsz : (DataW.weightsEach Tryd.prog (Tryd.f5.params.toList ++ Rows.regexQuoteSpec.plain.varTypes Tryd.prog) (ds ++ gs)).all (· ≤ reachBytes) = true := hsz0
  clear hsz0
  have hsmall : Rows.uptoBulkAll (ds ++ gs) ≤ 1048576 := of_decide_eq_true (hsmall0 _ rfl)
  clear hsmall0
  have hval : ∀ (j : Nat) t v, Tryd.f5.params[j]? = some t → args[j]? = some v → Value.okWide Tryd.prog W .any base t v := hval0
  have hW' := hW
  obtain ⟨p, q, hA0, hV, rfl, hfz, hnd⟩ := hW
  have hA : DataW.TrodAll enc Tryd.prog W 0 (fun _ => true) true Tryd.f5.params.toList args.toList ds p := hA0
  rw [Tryd.params5] at hA hval hsz
  obtain ⟨v0, vs0, d0, ds0, p0, q0, hargs, rfl, rfl, h0, r0⟩ := trodAll_cons hA
  obtain ⟨v1, vs1, d1, ds1, p1, q1, rfl, rfl, rfl, h1, r1⟩ := trodAll_cons r0
  obtain ⟨rfl, rfl, rfl⟩ := trodAll_nil r1
  obtain rfl : args = #[v0, v1] := by cases args; simp_all
  obtain ⟨rfl, rfl⟩ := trodVars_none hV
  have k0 := h0
  have lt0 : ∀ x ∈ p0, x.block < W.heap.size := by obtain ⟨m, hm⟩ := k0; exact DataW.trod_lt m _ _ _ hm
  have k1 := h1
  have lt1 : ∀ x ∈ p1, x.block < W.heap.size := by obtain ⟨m, hm⟩ := k1; exact DataW.trod_lt m _ _ _ hm
  obtain ⟨x0, rfl, rfl, rfl, _⟩ := open_string Tryd.underlying9 (hval 0 9 v0 rfl rfl) h0
  have w0 : x0.size ≤ 140737488351232 := by have := sized_string hsz (j := 0) (t := 9) rfl rfl; simpa [reachBytes] using this
  obtain ⟨x1, rfl, rfl, rfl, _⟩ := open_string Tryd.underlying9 (hval 1 9 v1 rfl rfl) h1
  have w1 : x1.size ≤ 140737488351232 := by have := sized_string hsz (j := 1) (t := 9) rfl rfl; simpa [reachBytes] using this
  clear hA0 hval0
  simp only [List.append_nil, Rows.uptoBulkAll, Rows.uptoBulk] at hsmall
  obtain ⟨b0, rfl⟩ : ∃ b, x0 = strB b := ⟨x0.data.toList, by cases x0; rfl⟩
  obtain ⟨b1, rfl⟩ : ∃ b, x1 = strB b := ⟨x1.data.toList, by cases x1; rfl⟩
  have e0 : (strB b0).data.toList = b0 := rfl
  have e1 : (strB b1).data.toList = b1 := rfl
  rw [e0, e1] at hsmall
  refine (walk b0 b1 W (tabsR hL) (by omega) (by omega)).mono fun e W' ⟨he, bel⟩ => ?_
  subst he
  exact ⟨_, rfl, _, _, _, [], _, [], hW', trodAll_mk1 (shut_bool Tryd.underlying4 _), (trodAll_cons_mk (Below.trod laidOut (by kernel_rfl) (of_decide_eq_true (by kernel_rfl)) k0 bel lt0) (trodAll_cons_mk (Below.trod laidOut (by kernel_rfl) (of_decide_eq_true (by kernel_rfl)) k1 bel lt1) trodAll_mk0)), rfl, bel.frame _, fun h => by cases h⟩

theorem over : Rows.regexQuoteUptoRow.holds Tryd.pinned (Rows.OpenSpec.upto Rows.regexQuoteSpec) :=
  OpenClaim.holds_of_cond 5 Tryd.f5 rfl rfl rfl rfl rfl rfl rfl ⟨rfl, rfl, rfl, rfl, rfl⟩ rfl rfl rfl rfl rfl (by kernel_rfl) Tryd.func5 (by kernel_rfl)
    (of_decide_eq_true (by kernel_rfl)) (by unfold Func.isWrapper; first | (rw [if_pos (by decide +kernel)]; kernel_rfl) | (rw [if_neg (by decide +kernel)]; exact ⟨rfl, rfl⟩))
    (fun os started H enc _ F => by rw [OpenClaim.pre_eq_preRow]; exact lifted os started H enc F)

/-- The card: what the row lists is tied to the program's own text. -/
theorem proved : Rows.RegexQuoteUptoCardSaid :=
  Claim7.holds_tied_plain_at .later [] [.handle] true Rows.regexQuoteUptoCard.stood.harness true
    over (fun _ h => by cases h) (by kernel_rfl) (fun _ h => by cases h) regexQuoteUpto_row_tie rfl ⟨rfl, rfl⟩ (by kernel_rfl) rfl
    (fun f fn hf hfn => by
      obtain rfl : f = 5 := Option.some.inj ((show Tryd.prog.funcNamed "lifeline/lifelinelaw06.RegexQuote" = some 5 by kernel_rfl).symm.trans hf) |>.symm
      obtain rfl : fn = Tryd.f5 := (Option.some.inj (Tryd.func5.symm.trans hfn)).symm
      exact ⟨by kernel_rfl, fun j t ht => by
        rw [Tryd.params5] at ht
        have hm : t ∈ [9, 9] := by simpa using Array.mem_of_getElem? ht
        have hall : ([9, 9].all fun u => !Tryd.prog.wantsStandIn u) = true := by kernel_rfl
        exact (show Tryd.prog.wantsStandIn t = false by simpa using List.all_eq_true.1 hall t hm)⟩)
    (by kernel_rfl)
end Go.Proofs.YtjceaojffdaihaaDoor.regexQuote
