/-
  'lifelinelaw08.MatchParts' answers true for every input, and leaves its arguments as they were.
  Conditions: none but what the row itself says of its arguments (how much memory each may take).
-/
import Derived.Test.YtelkgkmomdmblaaRows
import Derived.Test.YtelkgkmomdmblaaMatchMap
import Derived.Test.YtelkgkmomdmblaaRegexMakes
import Derived.LoopTactic
import Derived.Deep.DeepCutAuto
import Derived.Lib.QuietBelow
import Derived.Carry
import Derived.Test.YtelkgkmomdmblaaFrame
import Derived.WalkKit
import Derived.ProofKit
import Derived.OpenShut
import Derived.ShutString
import Derived.ChangeOld
import Derived.Below
namespace Go.Proofs.Ytelkgkmomdmblaa.matchParts
open Go.ChangeShapes Go.WideShapes Go.ChangeAt Go.RowKit
open Go.ChangeMaps (open_string shut_string)
set_option linter.unusedVariables false

theorem own : ownKnob Try.prog.godebug = none := by kernel_rfl
theorem laidOut : laidOutB Try.prog = true := by kernel_rfl

set_option maxRecDepth 100000 in
set_option maxHeartbeats 4000000 in
theorem walk (a0 : Option Addr) (n0 c0 : Nat) (b0 : List UInt8) (a1 : Option Addr) (n1 c1 : Nat) (b1 : List UInt8) (a2 : Option Addr) (n2 c2 : Nat) (b2 : List UInt8) (x3 : Int) (w : World) (h0 : Bys w w.heap.size a0 n0 b0) (l0 : n0 ≤ c0) (s0 : c0 ≤ 140737488351232) (h1 : Bys w w.heap.size a1 n1 b1) (l1 : n1 ≤ c1) (s1 : c1 ≤ 140737488351232) (h2 : Bys w w.heap.size a2 n2 b2) (l2 : n2 ≤ c2) (s2 : c2 ≤ 140737488351232) (h3 : 0 ≤ x3 ∧ x3 ≤ 255) :
    Calls Try.prog 5 #[.slice a0 n0 c0, .slice a1 n1 c1, .slice a2 n2 c2, .int .u8 x3] w fun e w' => e = .returned (.bool true) ∧ Below w.heap.size w w' := by
  have HAW := keepHid (awake8_any w)
  have HY0 := keepHid h0
  have HY1 := keepHid h1
  have HY2 := keepHid h2
  have HLC : Hid (n0 ≤ c0 ∧ c0 ≤ 9223372036854775807 ∧ n1 ≤ c1 ∧ c1 ≤ 9223372036854775807) := keepHid ⟨l0, by omega, l1, by omega⟩
  have hx0 : 0 ≤ x3 := h3.1
  have hx1 : x3 ≤ 255 := h3.2
  clear h0 h1 h2
  obtain ⟨m, hm⟩ : ∃ m, (txt b2).length = m := ⟨_, rfl⟩
  have hm14 : m ≤ 14 := by rw [← hm]; exact txt_len b2
  obtain ⟨f, hf⟩ : ∃ f : Nat, x3 % ((m : Int) + 1) = (f : Int) := ⟨(x3 % ((m : Int) + 1)).toNat, by
    have := Int.emod_nonneg x3 (show ((m : Int) + 1) ≠ 0 by omega)
    omega⟩
  have hfm : f ≤ m := by
    have := Int.emod_lt_of_pos x3 (show (0 : Int) < (m : Int) + 1 by omega)
    omega
  have HFM := keepHid hfm
  have hsz : (strB (txt b2)).size = m := by rw [strB_size, hm]
  have hft : x3.tmod ((m : Int) + 1) = (f : Int) := by rw [Int.tmod_eq_emod_of_nonneg hx0]; exact hf
  have HM := keepHid hm
  clear hm h3
  go_enter Try.func5, Try.ntmps5
  go_wp2_with fail
  with_reducible refine HAW.out.mono ?_
  rintro e w1 ⟨rfl, hb1⟩
  have HB1 := keepHid hb1
  have HMK : Hid (Calls Try.prog 10 #[.slice a0 n0 c0, .int .i64 2] w1 (MakePostD 2 b0 w1)) := keepHid (makes_d (d := 2) (build_all 2 (by decide)) a0 n0 c0 b0 w1 ((HY0.out.below hb1).more hb1.size) HLC.out.1 HLC.out.2.1)
  clear hb1
  go_wp2_with fail
  with_reducible refine HMK.out.mono ?_
  rintro e w2 ⟨h, rfl, hi2, hb2⟩
  obtain ⟨w3, hw3⟩ : ∃ w3, w2.alloc (.cells (hdC h) 31) = w3 := ⟨_, rfl⟩
  obtain ⟨hi3, hb3, hk3⟩ := node_var hi2 hw3
  have HB3 := keepHid (HB1.out.trans ((hb2.trans (hb3.mono hb2.size)).mono HB1.out.size))
  have HMK2 : Hid (Calls Try.prog 10 #[.slice a1 n1 c1, .int .i64 2] w3 (MakePostD 2 b1 w3)) := keepHid (makes_d (d := 2) (build_all 2 (by decide)) a1 n1 c1 b1 w3 ((HY1.out.below HB3.out).more HB3.out.size) HLC.out.2.2.1 HLC.out.2.2.2)
  have HW3 := keepHid hw3
  unfold hdC at HW3
  have HK3 := keepHid hk3
  have HI3 := keepHid hi3
  generalize (bldL 2 b0).2.1 = ra at *
  clear hi2 hb2 hw3 hi3 hb3 hk3 HMK HAW
  unfold hdV at *
  go_upto_region 4 with fail
  rw [HW3.out]
  generalize w2.heap.size = V1 at *
  go_wp2_with fail
  with_reducible refine HMK2.out.mono ?_
  rintro e w4 ⟨h', rfl, hi4, hb4⟩
  obtain ⟨w5, hw5⟩ : ∃ w5, w4.alloc (.cells (hdC h') 31) = w5 := ⟨_, rfl⟩
  obtain ⟨hi5, hb5, hk5⟩ := node_var hi4 hw5
  have HB35 := keepHid (hb4.trans (hb5.mono hb4.size))
  have HB5 := keepHid (HB3.out.trans (HB35.out.mono HB3.out.size))
  have HT := keepHid (text_any (k := c2) b2 (HY2.out.below HB5.out))
  have HW5 := keepHid hw5
  unfold hdC at HW5
  have HK5 := keepHid hk5
  have HKA := keepHid (HK3.out.below HB35.out HK3.out.lt)
  have HIA := keepHid (HI3.out.below HB35.out)
  have HIB := keepHid hi5
  generalize (bldL 2 b1).2.1 = rb at *
  clear hi4 hb4 hi5 hb5 hk5 hw5 HMK2 HW3
  unfold hdV at *
  go_upto_region 5 with fail
  rw [HW5.out]
  generalize w4.heap.size = V2 at *
  go_wp2_with fail
  with_reducible refine HT.out.mono ?_
  rintro e w' ⟨rfl, rfl⟩
  generalize txt b2 = s at *
  obtain ⟨wM, hwM⟩ : ∃ wM, w5.alloc (.map #[] 0) = wM := ⟨_, rfl⟩
  have hbM : Below w5.heap.size w5 wM := by rw [← hwM]; exact (Below.refl _ _).alloc (Nat.le_refl _) _
  have HSM : Hid (SetM wM w5.heap.size 0 []) := keepHid (by rw [← hwM]; exact SetM.made _ _ rfl)
  have HWM := keepHid hwM
  have HKAM := keepHid (HKA.out.below hbM HKA.out.lt)
  have HKBM := keepHid (HK5.out.below hbM HK5.out.lt)
  have HML : Hid (V1 < w5.heap.size ∧ V2 < w5.heap.size) := keepHid ⟨HKA.out.lt, HK5.out.lt⟩
  have HIAM : Hid (IsS wM (fun i => i < w5.heap.size) h ra) := keepHid ((HIA.out.below hbM).mono fun g hg _ => Nat.lt_of_lt_of_le hg HB35.out.size)
  have HIBM : Hid (IsS wM (fun i => i < w5.heap.size) h' rb) := keepHid ((HIB.out.below hbM))
  have HBM := keepHid (HB5.out.trans (hbM.mono HB5.out.size))
  have HEA := keepHid (mends_any s (f : Int) HIAM.out (by rw [HM.out]; omega))
  have hea : endsI ra s (f : Int) = endsL ra s f := by
    unfold endsI
    rw [if_pos (by rw [HM.out]; omega), show ((f : Int)).toNat = f by omega]
  rw [hea] at HEA
  obtain ⟨u0, u1, u2, u3, u4, u5, uf⟩ := blk6 HKAM.out
  clear hbM hwM HT HW5 HKA HK5 HIA HIB hea
  unfold hdV at HEA
  have hmm := @run_makeMap Try.prog
  go_upto_region 8 with fail
  rw [HWM.out]
  clear hmm
  have HMS : Hid (wM.heap.size = w5.heap.size + 1) := keepHid (by rw [← HWM.out]; simp)
  have HW0 : Hid (w.heap.size ≤ w5.heap.size) := keepHid HB5.out.size
  generalize w5.heap.size = M at *
  clear hft hx0 hx1 hf hfm
  go_wp2_with fail
  with_reducible refine HEA.out.mono ?_
  rintro e w6 ⟨A, q, c, rfl, ho, hb6⟩
  have HQ : Hid ((endsL ra s f).length = q) := keepHid (own_len ho)
  have hqm : q ≤ 16 := by
    have h1 := own_len ho
    have h2 := endsTo_len ra s f s.length
    have h3 : (endsL ra s f).length = (endsTo ra s f s.length).length := rfl
    have := HM.out
    omega
  have HXS : Hid (∀ w', Turn (fun i => i = M) w6 w' → Sl natV w' A q (endsL ra s f)) := keepHid (fun w' ht => by
    have h1 := Sl.of_own ho (by unfold maxLen; omega)
    refine h1.keep ht.size (fun ad e => ?_)
    rcases ho.2 with ⟨hv, h0⟩ | ⟨g, cap, cur, hv, hg1, hg2, _⟩
    · rw [show A = none by injection hv] at e; cases e
    · have e2 : A = some ⟨g, 0, none⟩ := by injection hv
      rw [e2] at e
      obtain rfl := Option.some.inj e
      exact ht.block g (Array.getElem?_eq_some_iff.1 hg2).1 (by have := HMS.out; omega))
  have HKB : Hid (∀ w', Turn (fun i => i = M) w6 w' → Blk w' V1 31 (hdC h) ∧ Blk w' V2 31 (hdC h') ∧ IsS w' (fun i => i < M) h ra ∧ IsS w' (fun i => i < M) h' rb) := keepHid (fun w' ht =>
    ⟨ht.blk (HKAM.out.below hb6 HKAM.out.lt) (by have := HML.out; omega), ht.blk (HKBM.out.below hb6 HKBM.out.lt) (by have := HML.out; omega),
      (HIAM.out.below hb6).keep fun g hg hl => ht.block g hl (by omega), (HIBM.out.below hb6).keep fun g hg hl => ht.block g hl (by omega)⟩)
  have HS6 : Hid (SetM w6 M 0 []) := keepHid (HSM.out.keep (hb6.block M HSM.out.lt))
  have HB6 := keepHid (HBM.out.trans (hb6.mono HBM.out.size))
  have HXM : Hid (∀ j k, (endsL ra s f)[j]? = some k → k ≤ m) := keepHid (fun j k hk => by
    have := (endsL_mem.1 (List.mem_of_getElem? hk)).2.1
    rw [HM.out] at this
    exact this)
  have HPA : Hid ((wantW rb s (endsL ra s f) q).length = (endsL (.thn ra rb) s f).length ∧ ∀ p, p ∈ endsL (.thn ra rb) s f → p ∈ wantW rb s (endsL ra s f) q) := keepHid (by
    have := parts_all (a := ra) (b := rb) (s := s) (f := f) (by rw [HM.out]; exact HFM.out)
    rwa [HQ.out] at this)
  have HBT : Hid (∀ w', Turn (fun i => i = M) w6 w' → Below w.heap.size w w') := keepHid (fun w' ht => HB6.out.trans (ht.below (B := w.heap.size) (fun i hi => by have := HW0.out; omega) HB6.out.size))
  clear ho hb6 HEA u0 u1 u2 u3 u4 u5 uf
  generalize hxs : endsL ra s f = xs at *
  go_wp2_with fail
  go_loopw [49] (fun i wr => ∃ j : Nat, j ≤ q ∧ i = .int .i64 j ∧ Hid (Turn (fun i => i = M) w6 wr) ∧ Hid (∃ cnt, cnt ≤ 20 * j ∧ SetM wr M cnt (wantW rb s xs j))) (fun i _ => q - (intOf i).toNat)
  case atStart => exact ⟨0, Nat.zero_le _, rfl, keepHid (Turn.refl _ _), keepHid ⟨0, Nat.le_refl _, by rw [wantW_zero]; exact HS6.out⟩⟩
  case round =>
    obtain ⟨j, hj, rfl, HTR, HCN⟩ := hrel
    obtain ⟨kA, kB, iA, iB⟩ := HKB.out wr HTR.out
    rcases Nat.lt_or_ge j q with hlt | hge
    · obtain ⟨k, hk⟩ : ∃ k, xs[j]? = some k := ⟨_, List.getElem?_eq_getElem (by rw [HQ.out]; exact hlt)⟩
      obtain ⟨ad, rfl, _, hcell⟩ := (HXS.out wr HTR.out).2.2 j k hk
      unfold natV at hcell
      have hkm := HXM.out j k hk
      have HWS := keepHid (wantW_succ (b := rb) (s := s) hk)
      have HEB := keepHid (mends_any s (k : Int) iB (by rw [HM.out]; omega))
      have heb : endsI rb s (k : Int) = endsL rb s k := by
        unfold endsI
        rw [if_pos (by rw [HM.out]; omega), show ((k : Int)).toNat = k by omega]
      rw [heb] at HEB
      unfold hdV at HEB
      unfold hdC at kB
      obtain ⟨v0, v1, v2, v3, v4, v5, vf⟩ := blk6 kB
      have hji : (j : Int) < (q : Int) := by omega
      have HKM := keepHid hkm
      clear hk heb kA kB iA iB hkm
      generalize wr = wq at *
      go_wp2_with fail
      with_reducible refine HEB.out.mono ?_
      rintro e w7 ⟨A2, q2, d2, rfl, ho2, hb7⟩
      have hq2m : q2 ≤ 16 := by
        have h1 := own_len ho2
        have h2 := endsTo_len rb s k s.length
        have h3 : (endsL rb s k).length = (endsTo rb s k s.length).length := rfl
        have := HM.out
        omega
      have HQ2 : Hid ((endsL rb s k).length = q2) := keepHid (own_len ho2)
      have HYM : Hid (∀ i y, (endsL rb s k)[i]? = some y → y ≤ m) := keepHid (fun i y hy => by
        have := (endsL_mem.1 (List.mem_of_getElem? hy)).2.1
        rw [HM.out] at this
        exact this)
      have hMlt : M < wq.heap.size := by obtain ⟨_, _, h1⟩ := HCN.out; exact h1.lt
      have HYS : Hid (∀ w', Turn (fun i => i = M) w7 w' → Sl natV w' A2 q2 (endsL rb s k)) := keepHid (fun w' ht => by
        have h1 := Sl.of_own ho2 (by unfold maxLen; omega)
        refine h1.keep ht.size (fun ad e => ?_)
        rcases ho2.2 with ⟨hv, h0⟩ | ⟨g, cap, cur, hv, hg1, hg2, _⟩
        · rw [show A2 = none by injection hv] at e; cases e
        · have e2 : A2 = some ⟨g, 0, none⟩ := by injection hv
          rw [e2] at e
          obtain rfl := Option.some.inj e
          exact ht.block g (Array.getElem?_eq_some_iff.1 hg2).1 (by omega))
      have HC7 : Hid (∃ cnt, cnt ≤ 20 * j ∧ SetM w7 M cnt (wantW rb s xs j)) := keepHid (by
        obtain ⟨cnt, h1, h2⟩ := HCN.out
        exact ⟨cnt, h1, h2.keep (hb7.block M h2.lt)⟩)
      have HT7 := keepHid (HTR.out.trans (Turn.of_below hb7))
      clear ho2 hb7 HEB v0 v1 v2 v3 v4 v5 vf hMlt hcell
      generalize hys : endsL rb s k = ys at *
      clear hys
      go_wp2_with fail
      go_loopw [58] (fun i wr => ∃ p : Nat, p ≤ q2 ∧ i = .int .i64 p ∧ Hid (Turn (fun i => i = M) w7 wr) ∧ Hid (∃ cnt, cnt ≤ 20 * j + p ∧ SetM wr M cnt ((ys.take p).foldl insS (wantW rb s xs j)))) (fun i _ => q2 - (intOf i).toNat)
      case atStart => exact ⟨0, Nat.zero_le _, rfl, keepHid (Turn.refl _ _), keepHid (by
        obtain ⟨cnt, h1, h2⟩ := HC7.out
        exact ⟨cnt, by omega, by simpa using h2⟩)⟩
      case round =>
        obtain ⟨p, hp, rfl, HTR2, HCN2⟩ := hrel
        rcases Nat.lt_or_ge p q2 with hlt2 | hge2
        · obtain ⟨y, hy⟩ : ∃ y, ys[p]? = some y := ⟨_, List.getElem?_eq_getElem (by rw [HQ2.out]; exact hlt2)⟩
          obtain ⟨ad2, rfl, _, hcell⟩ := (HYS.out wr HTR2.out).2.2 p y hy
          unfold natV at hcell
          have hym := HYM.out p y hy
          obtain ⟨cnt, hcnt, hset⟩ := HCN2.out
          obtain ⟨w8, hrun, hset8, hg8⟩ := hset.put y (by omega) (by omega)
          have HT8 : Hid (Turn (fun i => i = M) w7 w8) := keepHid (HTR2.out.trans ⟨hg8.os, hg8.tape, hg8.output, hg8.size, fun i hi hne => hg8.block i hi (fun e => hne (by injection e))⟩)
          have HC8 : Hid (∃ cnt, cnt ≤ 20 * j + (p + 1) ∧ SetM w8 M cnt ((ys.take (p + 1)).foldl insS (wantW rb s xs j))) := keepHid ⟨cnt + 1, by omega, by
            rw [List.take_succ_of hy, List.foldl_append]
            exact hset8⟩
          have hpi : (p : Int) < (q2 : Int) := by omega
          clear hy hcnt hset hset8 hg8 hym
          go_wp2
          go_roundw
          case rel => exact ⟨p + 1, by omega, by go_num, HT8, HC8⟩
          case measure => simp [intOf]; omega
        · have HC9 : Hid (∃ cnt, cnt ≤ 20 * (j + 1) ∧ SetM wr M cnt (wantW rb s xs (j + 1))) := keepHid (by
            obtain ⟨cnt, h1, h2⟩ := HCN2.out
            rw [List.take_of_length_le (by rw [HQ2.out]; exact hge2)] at h2
            exact ⟨cnt, by omega, by rw [HWS.out]; exact h2⟩)
          have HT9 := keepHid (HT7.out.trans HTR2.out)
          go_wp2
          go_roundw
          case rel => exact ⟨j + 1, by omega, by go_num, HT9, HC9⟩
          case measure => simp [intOf]; omega
    · have hjq : j = q := by omega
      subst hjq
      obtain ⟨wN, hwN⟩ : ∃ wN, wr.alloc (.cells #[.int .i64 h.k, .int .u64 (h.s.a.toNat : Int), .int .u64 (h.s.b.toNat : Int), .int .u64 (h.s.c.toNat : Int), .int .u64 (h.s.d.toNat : Int), .slice h.A h.n h.c, .int .i64 h'.k, .int .u64 (h'.s.a.toNat : Int), .int .u64 (h'.s.b.toNat : Int), .int .u64 (h'.s.c.toNat : Int), .int .u64 (h'.s.d.toNat : Int), .slice h'.A h'.n h'.c] 31) = wN := ⟨_, rfl⟩
      have hbN : Below wr.heap.size wr wN := by rw [← hwN]; exact (Below.refl _ _).alloc (Nat.le_refl _) _
      have hat := blk_at1 (h := h) (k := h') (Blk.new_at wr 31 _ wr.heap.size rfl)
      rw [hwN] at hat
      have hiN : IsS wN (fun i => i < wN.heap.size) ⟨2, st0, some ⟨wr.heap.size, 0, none⟩, 2, 2⟩ (.thn ra rb) :=
        ⟨wr.heap.size, 2, h, h', rfl, Nat.le_refl _, by unfold maxLen; omega, hat.1.lt, hat.1, hat.2, re_all (iA.below hbN), re_all (iB.below hbN)⟩
      have HE3 := keepHid (mends_any s (f : Int) hiN (by rw [HM.out]; omega))
      have he3 : endsI (.thn ra rb) s (f : Int) = endsL (.thn ra rb) s f := by
        unfold endsI
        rw [if_pos (by have := HFM.out; rw [HM.out]; omega), show ((f : Int)).toNat = f by omega]
      rw [he3, hdV_st0] at HE3
      have HWN := keepHid hwN
      have HBN := keepHid ((HBT.out wr HTR.out).trans (hbN.mono (HBT.out wr HTR.out).size))
      have HCNN : Hid (∃ cnt, SetM wN M cnt (wantW rb s xs j)) := keepHid (by
        obtain ⟨cnt, _, h2⟩ := HCN.out
        exact ⟨cnt, h2.keep (hbN.block M h2.lt)⟩)
      unfold hdC at kA kB
      obtain ⟨v0, v1, v2, v3, v4, v5, vf⟩ := blk6 kA
      obtain ⟨y0, y1, y2, y3, y4, y5, yf⟩ := blk6 kB
      clear hwN hbN hat hiN he3 kA kB iA iB
      go_wp2_with (go_at_call 14; fail)
      rw [HWN.out]
      with_reducible refine HE3.out.mono ?_
      rintro e w9 ⟨A3, q3, d3, rfl, ho3, hb9⟩
      have hl3 := own_len ho3
      obtain ⟨cnt, hset⟩ := HCNN.out
      have hset9 := hset.keep (hb9.block M hset.lt)
      have hq3 : (wantW rb s xs j).length = q3 := by rw [HPA.out.1]; exact hl3
      have hlen := fun ty => hset9.len ty
      rw [hq3] at hlen
      have HS3 := keepHid (Sl.of_own ho3 (by obtain ⟨_, _, _, e1, e2⟩ := own_val ho3; omega))
      have hq3m := HS3.out.max
      have HLK : Hid (∀ p, p ∈ endsL (.thn ra rb) s f → (Instr.lookup 44 (.map (some M)) (.int .i64 (p : Int)) false).run Try.prog w9 = .ok (.bool true) w9) := keepHid (fun p hp => by
        have h1 := hset9.look p (by have := (endsL_mem.1 hp).2.1; rw [HM.out] at this; omega)
        rwa [decide_eq_true (HPA.out.2 p hp)] at h1)
      have HBF := keepHid (HBN.out.trans (hb9.mono HBN.out.size))
      have HL3 := keepHid hl3
      clear ho3 hl3 hset hset9 hq3 hb9 v0 v1 v2 v3 v4 v5 vf y0 y1 y2 y3 y4 y5 yf HE3
      generalize hzs : endsL (.thn ra rb) s f = zs at *
      clear hzs
      go_wp2_with fail
      go_loop [80] (fun i => ∃ p : Nat, p ≤ q3 ∧ i = .int .i64 p) (fun i => q3 - (intOf i).toNat)
      case atStart => exact ⟨0, Nat.zero_le _, rfl⟩
      case round =>
        obtain ⟨p, hp, rfl⟩ := hrel
        rcases Nat.lt_or_ge p q3 with hlt3 | hge3
        · obtain ⟨z, hz⟩ : ∃ z, zs[p]? = some z := ⟨_, List.getElem?_eq_getElem (by rw [HL3.out]; exact hlt3)⟩
          obtain ⟨ad, rfl, _, hcell⟩ := HS3.out.2.2 p z hz
          unfold natV at hcell
          have hlk := HLK.out z (List.mem_of_getElem? hz)
          have hpi : (p : Int) < (q3 : Int) := by omega
          clear hz
          go_wp2
          go_round
          case rel => exact ⟨p + 1, by omega, by go_num⟩
          case measure => simp [intOf]; omega
        · go_wp2
          go_ret
          exact ⟨rfl, HBF.out⟩

set_option maxRecDepth 100000 in
theorem lifted (os : Os) (started : os.Started) (H : Type) (enc : TypeId × Value → H) :
    ReturnsInHanded {} Try.checked os 5 .any (Rows.matchPartsSpec.pre6 enc Try.prog Try.f5 Rows.matchPartsRow.domain false) (Rows.matchPartsSpec.post enc Try.prog Try.f5 false true false false) := by
  refine returnsInHanded_of_change_sized (C := Try.checked) own started (by kernel_rfl) Try.func5
    (ChangeSpec.witness6 (enc := enc) (C := Try.checked) false ⟨#[], #[.slice none 0 0, .slice none 0 0, .slice none 0 0, .int .u8 0], []⟩ 8 (by kernel_rfl) (by kernel_rfl) (by kernel_rfl) (by kernel_rfl)) ?_
  intro W base args ds gs before hval0 hW hcnd hsz0 _
  have hsz : (DataW.weightsEach Try.prog (Try.f5.params.toList ++ Rows.matchPartsSpec.plain.varTypes Try.prog) (ds ++ gs)).all (· ≤ reachBytes) = true := hsz0
  clear hsz0
  have hval : ∀ (j : Nat) t v, Try.f5.params[j]? = some t → args[j]? = some v → Value.okWide Try.prog W .any base t v := hval0
  have hW' := hW
  obtain ⟨p, q, hA0, hV, rfl, hfz, hnd⟩ := hW
  have hA : DataW.TrodAll enc Try.prog W 0 (fun _ => true) true Try.f5.params.toList args.toList ds p := hA0
  rw [Try.params5] at hA hval hsz
  obtain ⟨v0, vs0, d0, ds0, p0, q0, hargs, rfl, rfl, h0, r0⟩ := trodAll_cons hA
  obtain ⟨v1, vs1, d1, ds1, p1, q1, rfl, rfl, rfl, h1, r1⟩ := trodAll_cons r0
  obtain ⟨v2, vs2, d2, ds2, p2, q2, rfl, rfl, rfl, h2, r2⟩ := trodAll_cons r1
  obtain ⟨v3, vs3, d3, ds3, p3, q3, rfl, rfl, rfl, h3, r3⟩ := trodAll_cons r2
  obtain ⟨rfl, rfl, rfl⟩ := trodAll_nil r3
  obtain rfl : args = #[v0, v1, v2, v3] := by cases args; simp_all
  obtain ⟨rfl, rfl⟩ := trodVars_none hV
  have k0 := h0
  have lt0 : ∀ x ∈ p0, x.block < W.heap.size := by obtain ⟨m, hm⟩ := k0; exact DataW.trod_lt m _ _ _ hm
  have k1 := h1
  have lt1 : ∀ x ∈ p1, x.block < W.heap.size := by obtain ⟨m, hm⟩ := k1; exact DataW.trod_lt m _ _ _ hm
  have k2 := h2
  have lt2 : ∀ x ∈ p2, x.block < W.heap.size := by obtain ⟨m, hm⟩ := k2; exact DataW.trod_lt m _ _ _ hm
  have k3 := h3
  have lt3 : ∀ x ∈ p3, x.block < W.heap.size := by obtain ⟨m, hm⟩ := k3; exact DataW.trod_lt m _ _ _ hm
  obtain ⟨a0, n0, c0, b0, rfl, w0, l0, s0⟩ := open_bys Try.underlying22 Try.underlying5 (by kernel_rfl) (by kernel_rfl) (hval 0 22 v0 rfl rfl) (fun _ => rfl) h0 (fun el sp hd => sized_slice hsz (j := 0) (t := 22) (e := 5) rfl (by rw [hd]; rfl) Try.underlying22)
  obtain ⟨a1, n1, c1, b1, rfl, w1, l1, s1⟩ := open_bys Try.underlying22 Try.underlying5 (by kernel_rfl) (by kernel_rfl) (hval 1 22 v1 rfl rfl) (fun _ => rfl) h1 (fun el sp hd => sized_slice hsz (j := 1) (t := 22) (e := 5) rfl (by rw [hd]; rfl) Try.underlying22)
  obtain ⟨a2, n2, c2, b2, rfl, w2, l2, s2⟩ := open_bys Try.underlying22 Try.underlying5 (by kernel_rfl) (by kernel_rfl) (hval 2 22 v2 rfl rfl) (fun _ => rfl) h2 (fun el sp hd => sized_slice hsz (j := 2) (t := 22) (e := 5) rfl (by rw [hd]; rfl) Try.underlying22)
  obtain ⟨x3, rfl, rfl, rfl, w3⟩ := open_int Try.underlying5 (hval 3 5 v3 rfl rfl) h3
  clear hA0 hval0
  refine (walk a0 n0 c0 b0 a1 n1 c1 b1 a2 n2 c2 b2 x3 W w0 l0 s0 w1 l1 s1 w2 l2 s2 (wf_u8 w3)).mono fun e W' ⟨he, bel⟩ => ?_
  subst he
  exact ⟨_, rfl, _, _, _, [], _, [], hW', trodAll_mk1 (shut_bool Try.underlying4 _), (trodAll_cons_mk (Below.trod laidOut (by kernel_rfl) (of_decide_eq_true (by kernel_rfl)) k0 bel lt0) (trodAll_cons_mk (Below.trod laidOut (by kernel_rfl) (of_decide_eq_true (by kernel_rfl)) k1 bel lt1) (trodAll_cons_mk (Below.trod laidOut (by kernel_rfl) (of_decide_eq_true (by kernel_rfl)) k2 bel lt2) (trodAll_cons_mk (Below.trod laidOut (by kernel_rfl) (of_decide_eq_true (by kernel_rfl)) k3 bel lt3) trodAll_mk0)))), rfl, bel.frame _, fun h => by cases h⟩

theorem over : Rows.matchPartsRow.holds Try.pinned (OpenSpec.ofChange Rows.matchPartsSpec) :=
  OpenClaim.holds_of_wide 5 Try.f5 rfl rfl rfl rfl rfl rfl rfl ⟨rfl, rfl, rfl, rfl, rfl⟩ rfl rfl rfl rfl rfl (by kernel_rfl) Try.func5 (by kernel_rfl)
    (of_decide_eq_true (by kernel_rfl)) (by unfold Func.isWrapper; first | (rw [if_pos (by decide +kernel)]; kernel_rfl) | (rw [if_neg (by decide +kernel)]; exact ⟨rfl, rfl⟩))
    (fun os started H enc _ => lifted os started H enc)

theorem proved : Rows.MatchPartsSaid := over
end Go.Proofs.Ytelkgkmomdmblaa.matchParts
