/-
  'lifelinelaw09.ExpectSame' answers true for every input, and leaves its arguments as they were.
  Conditions: none but what the row itself says of its arguments (how much memory each may take).
-/
import Derived.Test.YtgidoieppplhpaaRows
import Derived.Test.YtgidoieppplhpaaExpectBuilt
import Derived.Test.YtgidoieppplhpaaExpectAwake
import Derived.Test.YtgidoieppplhpaaMatchKit
import Derived.LoopTactic
import Derived.Deep.DeepCutAuto
import Derived.Lib.QuietBelow
import Derived.Test.YtgidoieppplhpaaFrame
import Derived.Test.YtgidoieppplhpaaFrame
import Derived.WalkKit
import Derived.ProofKit
import Derived.OpenShut
import Derived.ShutString
import Derived.ChangeOld
import Derived.Below
namespace Go.Proofs.Ytgidoieppplhpaa.expectSame
open Go.ChangeShapes Go.WideShapes Go.ChangeAt Go.RowKit
open Go.ChangeMaps (open_string shut_string)
set_option linter.unusedVariables false

theorem own : ownKnob Try.prog.godebug = none := by kernel_rfl
theorem laidOut : laidOutB Try.prog = true := by kernel_rfl

theorem of9_rep {p : List UInt8} {r : Re} (h : pat9 p = .inl r) : ∀ n, of9 (List.replicate n p) = .inl (List.replicate n r)
  | 0 => rfl
  | n + 1 => by simp [List.replicate_succ, of9, h, of9_rep h n]
theorem arm_rep (A : Au) (t : List UInt8) : ∀ n, armA (List.replicate (n + 1) A) t = if endA A t then some 0 else none
  | 0 => arm_one' A t
  | n + 1 => by
    rw [List.replicate_succ]
    unfold armA
    cases h : endA A t
    · rw [arm_rep A t n, h]; rfl
    · rfl
set_option maxRecDepth 100000 in
set_option maxHeartbeats 4000000 in
theorem walk (a0 : Option Addr) (n0 c0 : Nat) (b0 : List UInt8) (a1 : Option Addr) (n1 c1 : Nat) (b1 : List UInt8) (x2 : Int) (w : World) (h0 : Bys w w.heap.size a0 n0 b0) (l0 : n0 ≤ c0) (s0 : c0 ≤ 140737488351232) (h1 : Bys w w.heap.size a1 n1 b1) (l1 : n1 ≤ c1) (s1 : c1 ≤ 140737488351232) (h2 : 0 ≤ x2 ∧ x2 ≤ 255) :
    Calls Try.prog 6 #[.slice a0 n0 c0, .slice a1 n1 c1, .int .u8 x2] w fun e w' => e = .returned (.bool true) ∧ Below w.heap.size w w' := by
  obtain ⟨M, hM⟩ : ∃ M : Nat, x2 % 8 = (M : Int) := ⟨(x2 % 8).toNat, by omega⟩
  have hM7 : M ≤ 7 := by omega
  have HAW := keepHid (awake9_any w)
  have HY0 := keepHid h0
  have HY1 := keepHid h1
  have HLC : Hid (n0 ≤ c0 ∧ c0 ≤ 9223372036854775807) := keepHid ⟨l0, by omega⟩
  have hx2 := h2
  clear h0 h1 h2
  go_enter Try.func6, Try.ntmps6
  go_wp2_with fail
  with_reducible refine HAW.out.mono ?_
  rintro e w1 ⟨rfl, hb1⟩
  have HB1 := keepHid hb1
  have HMK : Hid (Calls Try.prog 13 #[.slice a0 n0 c0, .int .i64 2] w1 (MakePostD 2 b0 w1)) := keepHid (makes_d (d := 2) (build_all 2 (by decide)) a0 n0 c0 b0 w1 ((HY0.out.below hb1).more hb1.size) HLC.out.1 HLC.out.2)
  clear hb1
  go_wp2_with fail
  with_reducible refine HMK.out.mono ?_
  rintro e w2 ⟨h, rfl, hi2, hb2⟩
  obtain ⟨w3, hw3⟩ : ∃ w3, w2.alloc (.cells (hdC h) 41) = w3 := ⟨_, rfl⟩
  obtain ⟨hi3, hb3, hk3⟩ := node_var hi2 hw3
  have HB3 := keepHid (HB1.out.trans ((hb2.trans (hb3.mono hb2.size)).mono HB1.out.size))
  have HO := keepHid (of_any hi3 (sm_bld (d := 2) (by decide) b0))
  have HW3 := keepHid hw3
  unfold hdC at hk3 HW3
  have HK3 := keepHid hk3
  have HI3 := keepHid hi3
  obtain ⟨m0, m1, m2, m3, m4, m5, mf⟩ := blk6 hk3
  have HPP := keepHid (pat9_bld b0)
  have hp64 : (bldL 2 b0).1.length ≤ 64 := Nat.le_trans (bld_len 2 b0) (by decide)
  clear hi2 hb2 hw3 hi3 hb3 hk3 HMK HAW
  generalize (bldL 2 b0).2.1 = r at *
  generalize (bldL 2 b0).1 = p at *
  have hpz : (strB p).size = p.length := strB_size p
  have hp64i : ¬ (64 : Int) < (p.length : Int) := by omega
  generalize hS : txt b1 = s at *
  have HT1 := keepHid (fun w' (hb : Below w.heap.size w w') => text_any (k := c1) b1 (HY1.out.below hb))
  rw [hS] at HT1
  have hs14 : s.length ≤ 14 := by rw [← hS]; exact txt_len _
  clear hS
  obtain ⟨m, hm⟩ : ∃ m, s.length = m := ⟨_, rfl⟩
  have hsz : (strB s).size = m := by rw [strB_size, hm]
  have HSM := keepHid hm
  rw [hm] at hs14
  clear hm
  generalize p.length = pn at *
  unfold hdV at *
  go_upto_region 4 with fail
  rw [HW3.out]
  generalize w2.heap.size = V at *
  go_wp2_with fail
  with_reducible refine HO.out.mono ?_
  rintro e w4 ⟨g, rfl, hA, hb4⟩
  have HE := keepHid (tabA_empty hA)
  rw [show (auOf r).e = emp r from (auOf_ok r).e] at HE
  have HB4 := keepHid hb4
  have HB04 := keepHid (HB3.out.trans (hb4.mono HB3.out.size))
  obtain ⟨E, hE⟩ : ∃ E, emp r = E := ⟨_, rfl⟩
  rw [hE] at HE
  have HEE := keepHid hE
  clear hA hb4 m0 m1 m2 m3 m4 m5 mf HO HW3 hE
  go_wp2_with fail
  with_reducible refine HE.out.mono ?_
  rintro e w' ⟨rfl, rfl⟩
  cases E
  · go_wp2_with fail
    have HPI : Hid (pat9 p = .inl r) := keepHid (by rw [HPP.out, HEE.out]; rfl)
    have HOFR := keepHid (of9_rep HPI.out (M + 1))
    generalize hL : w4.heap.size = L at *
    have HL4 := keepHid hL
    clear hL
    go_loopw [9, 10] (fun v i wr => ∃ (j : Nat) (A : Option Addr) (cap : Nat), j ≤ M + 1 ∧ i = .int .i64 j ∧ v = .slice A j cap ∧ Hid (wr.ownsRow L 9 1 (.slice A j cap) j (List.replicate j (.string (strB p)))) ∧ Hid (Below L w4 wr)) (fun _ i _ => M + 1 - (intOf i).toNat)
    case atStart => exact ⟨0, none, 0, Nat.zero_le _, rfl, rfl, keepHid (World.ownsRow_nil _ _ _ _), keepHid (HL4.out ▸ Below.refl _ _)⟩
    case round =>
      obtain ⟨j, A, cap, hj, rfl, rfl, HOW, HB⟩ := hrel
      rcases Nat.lt_or_ge M j with hgt | hle
      · obtain rfl : j = M + 1 := by omega
        have hji : ¬ ((M + 1 : Nat) : Int) ≤ (M : Int) := by omega
        have hs9 : Sl strV wr A (M + 1) (List.replicate (M + 1) p) := Sl.of_own (f := strV) (xs := List.replicate (M + 1) p) (by rw [List.map_replicate]; exact HOW.out) (by unfold maxLen; omega)
        have HO9 := keepHid (ofw_any (c := cap) _ hs9)
        have HB0 : Hid (Below w.heap.size w wr) := keepHid (HB04.out.trans (HB.out.mono (by rw [← HL4.out]; exact HB04.out.size)))
        have HBX : Hid (Below w3.heap.size w3 wr) := keepHid (HB4.out.trans (HB.out.mono (by rw [← HL4.out]; exact HB4.out.size)))
        clear hs9
        generalize wr = wq at *
        go_wp2_with fail
        with_reducible refine HO9.out.mono ?_
        rintro e w5 ⟨hb5, hc⟩
        rcases hc with ⟨h, _⟩ | ⟨_, _, ⟨rs, gw, AW, capw, hof, rfl, hgw, hww⟩ | ⟨x, v, hof, _⟩⟩
        · simp at h; omega
        · rw [HOFR.out] at hof
          injection hof with hof
          subst hof
          rw [List.map_replicate] at hww
          have HB5 := keepHid (HB0.out.trans (hb5.mono HB0.out.size))
          have HBX5 := keepHid (HBX.out.trans (hb5.mono HBX.out.size))
          have HG : Hid (w.heap.size ≤ gw) := keepHid (Nat.le_trans HB0.out.size hgw)
          have HWW := keepHid hww
          have HT := keepHid (HT1.out w5 HB5.out)
          have HFI := keepHid (first_any s (HI3.out.below HBX5.out) (by rw [HSM.out]; omega))
          unfold FirstPost at HFI
          unfold hdV at HFI
          obtain ⟨v0, v1, v2, v3, v4, v5, vf⟩ := blk6 (HK3.out.below HBX5.out HK3.out.lt)
          clear hb5 hgw hww HO9 HOW HOFR
          unfold ptrV
          go_wp2_with fail
          with_reducible refine HT.out.mono ?_
          rintro e w' ⟨rfl, rfl⟩
          go_wp2_with fail
          with_reducible refine HFI.out.mono ?_
          rintro e w6 ⟨rfl, hb6⟩
          have HB6 := keepHid (HB5.out.trans (hb6.mono HB5.out.size))
          have HWAT : Hid (Wat w6 w5.heap.size w5.heap.size gw (List.replicate (M + 1) (auOf r)) (s.take 0)) := keepHid (by rw [List.take_zero]; exact (HWW.out.below hb6).wat (Nat.le_refl _) hb6.size)
          have HFH : Hid (∀ j, j + 1 ≤ m → (∀ i, i ≤ j → hitB r s i = false) → hitB r s (j + 1) = ((firstL r s).2 && decide ((firstL r s).1 = j + 1))) := keepHid (fun j hj hn => first_here (by rw [HSM.out]; exact hj) hn)
          have HFE : Hid ((∀ i, i ≤ m → hitB r s i = false) → (firstL r s).2 = false) := keepHid (fun hn => by
            rcases first_spec r s with ⟨k, hk, e, h1, _⟩ | ⟨e, _⟩
            · rw [hn k (by rw [HSM.out] at hk; exact hk)] at h1; cases h1
            · rw [e])
          have HZ0 : Hid (hitB r s 0 = false) := keepHid (by rw [hit_zero]; exact HEE.out)
          have HEA : Hid (∀ k, k ≤ m → endA (auOf r) (s.take k) = hitB r s k) := keepHid (fun k hk => end_hit HEE.out (by rw [HSM.out]; exact hk))
          generalize w5.heap.size = H at *
          obtain ⟨K, hK⟩ : ∃ K, firstL r s = K := ⟨_, rfl⟩
          rw [hK] at HFH HFE
          rw [hK]
          clear hK hb6 v0 v1 v2 v3 v4 v5 vf HFI HT
          obtain ⟨K1, K2⟩ := K
          simp only at HFH HFE
          go_wp2_with fail
          go_loopw [16] (fun i wr => ∃ j : Nat, j ≤ m ∧ i = .int .i64 j ∧ Hid (Below w.heap.size w wr) ∧ ((Hid (Wat wr H H gw (List.replicate (M + 1) (auOf r)) (s.take j)) ∧ Hid (∀ i, i ≤ j → hitB r s i = false)) ∨ ((∃ n, Hid (Wov wr gw n)) ∧ K1 ≤ j ∧ K2 = true))) (fun i _ => m - (intOf i).toNat)
          case atStart => exact ⟨0, Nat.zero_le _, rfl, HB6, .inl ⟨HWAT, keepHid (fun i hi => by obtain rfl : i = 0 := by omega
                                                                                                 exact HZ0.out)⟩⟩
          case round =>
            obtain ⟨j, hj, rfl, HB, hst⟩ := hrel
            rcases Nat.lt_or_ge j m with hlt | hge
            · obtain ⟨c, hc⟩ : ∃ c, s[j]? = some c := ⟨_, List.getElem?_eq_getElem (by rw [HSM.out]; exact hlt)⟩
              have hix := run_idx hc (j : Int) rfl
              have hji : (j : Int) < (m : Int) := by omega
              rcases hst with ⟨HW, HNO⟩ | ⟨⟨n, HV⟩, hk, rfl⟩
              · have HTK : Hid (s.take j ++ [c] = s.take (j + 1)) := keepHid (List.take_succ_of hc).symm
                have HP := keepHid (put_wait HW.out c (by rw [List.length_take]; omega))
                rw [HTK.out] at HP
                have HH : Hid (hitB r s (j + 1) = (K2 && decide (K1 = j + 1))) := keepHid (HFH.out j hlt HNO.out)
                clear hc
                go_wp2_with fail
                with_reducible refine HP.out.mono ?_
                rintro e w7 ⟨hcase, ht7⟩
                have HB7 := keepHid (HB.out.trans (ht7.below (B := w.heap.size) (fun b e => by rw [e]; exact HG.out) HB.out.size))
                rw [arm_rep, HEA.out (j + 1) hlt] at hcase
                clear ht7
                rcases hcase with ⟨i, ha, rfl, hv⟩ | ⟨ha, rfl, hw7⟩
                · have hh : hitB r s (j + 1) = true := by
                    cases h : hitB r s (j + 1)
                    · rw [h] at ha; simp at ha
                    · rfl
                  rw [hh] at ha
                  simp at ha
                  subst ha
                  have h2 := HH.out.symm.trans hh
                  simp only [Bool.and_eq_true, decide_eq_true_iff] at h2
                  obtain ⟨rfl, hk1⟩ := h2
                  have hz : ((K1 : Int) == (j : Int) + 1) = true := by simp only [beq_iff_eq]; omega
                  have HK1 : Hid (K1 ≤ j + 1) := keepHid (by omega)
                  have HV := keepHid hv
                  clear hv hh hk1
                  go_wp2
                  go_roundw
                  case rel => exact ⟨j + 1, by omega, by go_num, HB7, .inr ⟨⟨_, HV⟩, HK1.out, by simp⟩⟩
                  case measure => simp [intOf]; omega
                · have hh : hitB r s (j + 1) = false := by
                    cases h : hitB r s (j + 1)
                    · rfl
                    · rw [h] at ha; simp at ha
                  have h2 := HH.out.symm.trans hh
                  have HV := keepHid hw7
                  have HNO2 : Hid (∀ i, i ≤ j + 1 → hitB r s i = false) := keepHid (fun i hi => by
                    rcases Nat.lt_or_ge j i with h | h
                    · obtain rfl : i = j + 1 := by omega
                      exact hh
                    · exact HNO.out i h)
                  clear ha hh hw7
                  cases K2
                  · clear h2
                    go_wp2
                    go_roundw
                    case rel => exact ⟨j + 1, by omega, by go_num, HB7, .inl ⟨HV, HNO2⟩⟩
                    case measure => simp [intOf]; omega
                  · have h3 : ¬ K1 = j + 1 := by simpa using h2
                    have hz : ((K1 : Int) == (j : Int) + 1) = false := by simp only [beq_eq_false_iff_ne, ne_eq]; omega
                    clear h2 h3
                    go_wp2
                    go_roundw
                    case rel => exact ⟨j + 1, by omega, by go_num, HB7, .inl ⟨HV, HNO2⟩⟩
                    case measure => simp [intOf]; omega
              · have HP := keepHid (put_over HV.out (c.toNat : Int))
                have hz : ((K1 : Int) == (j : Int) + 1) = false := by simp only [beq_eq_false_iff_ne, ne_eq]; omega
                clear hc
                go_wp2_with fail
                with_reducible refine HP.out.mono ?_
                rintro e w' ⟨rfl, rfl⟩
                go_wp2
                go_roundw
                case rel => exact ⟨j + 1, by omega, by go_num, HB, .inr ⟨⟨n, HV⟩, by omega, by simp⟩⟩
                case measure => simp [intOf]; omega
            · have hji : ¬ (j : Int) < (m : Int) := by omega
              rcases hst with ⟨HW, HNO⟩ | ⟨⟨n, HV⟩, hk, rfl⟩
              · have HOV := keepHid (over_any HW.out.cells)
                have hK2 : K2 = false := HFE.out (fun i hi => HNO.out i (by omega))
                subst hK2
                go_wp2_with fail
                with_reducible refine HOV.out.mono ?_
                rintro e w' ⟨rfl, rfl⟩
                go_wp2
                go_ret
                exact ⟨rfl, HB.out⟩
              · have HOV := keepHid (over_any HV.out.cells)
                go_wp2_with fail
                with_reducible refine HOV.out.mono ?_
                rintro e w' ⟨rfl, rfl⟩
                go_wp2
                go_ret
                exact ⟨rfl, HB.out⟩
        · rw [HOFR.out] at hof; cases hof
      · have hji : (j : Int) ≤ (M : Int) := by omega
        obtain ⟨w5, hw5⟩ : ∃ w5, wr.alloc (.cells #[.string (strB p)] 9) = w5 := ⟨_, rfl⟩
        have hb5 : Below wr.heap.size wr w5 := by rw [← hw5]; exact (Below.refl _ _).alloc (Nat.le_refl _) _
        have hk5 : Blk w5 wr.heap.size 9 #[.string (strB p)] := by rw [← hw5]; exact Blk.new _ _ _
        have hc5 : w5.cell? ⟨wr.heap.size, 0, none⟩ = some (.string (strB p)) := hk5.cell 0
        have hown : w5.ownsRow L 9 1 (.slice A j cap) j (List.replicate j (.string (strB p))) := own_keep HOW.out fun i _ hl => hb5.block i hl
        have HB5 : Hid (Below L w4 w5) := keepHid (HB.out.trans (hb5.mono (by rw [← HL4.out]; exact HB.out.size)))
        have hL5 : L ≤ w5.heap.size := by rw [← HL4.out]; exact HB5.out.size
        clear hb5 hk5
        go_wp2_with (first | (at_builtin; refine wpList_append_cell Try.underlying46 infoS rfl (by omega) w5 rfl _ _ rfl L (.slice A j cap) j (List.replicate j (.string (strB p))) rfl hown wr.heap.size rfl _ hc5 rfl (by omega) hL5 ?_; intro P2 cap2 w6 ho6 hg6 hv6; have HO6 := keepHid ho6; have HB6 : Hid (Below L w4 w6) := keepHid (HB5.out.trans (below_grown hg6 (fun i hi => (hown.lt i hi).1) hL5)); clear ho6 hg6 hv6))
        go_roundw
        case rel => exact ⟨j + 1, P2, cap2, by omega, by go_num, rfl, by rw [List.replicate_succ']; exact HO6, HB6⟩
        case measure => simp [intOf]; omega
  · go_wp2
    go_ret
    exact ⟨rfl, HB04.out⟩

set_option maxRecDepth 100000 in
theorem lifted (os : Os) (started : os.Started) (H : Type) (enc : TypeId × Value → H) :
    ReturnsInHanded {} Try.checked os 6 .any (Rows.expectSameSpec.pre6 enc Try.prog Try.f6 Rows.expectSameRow.domain false) (Rows.expectSameSpec.post enc Try.prog Try.f6 false true false false) := by
  refine returnsInHanded_of_change_sized (C := Try.checked) own started (by kernel_rfl) Try.func6
    (ChangeSpec.witness6 (enc := enc) (C := Try.checked) false ⟨#[], #[.slice none 0 0, .slice none 0 0, .int .u8 0], []⟩ 8 (by kernel_rfl) (by kernel_rfl) (by kernel_rfl) (by kernel_rfl)) ?_
  intro W base args ds gs before hval0 hW hcnd hsz0 _
  have hsz : (DataW.weightsEach Try.prog (Try.f6.params.toList ++ Rows.expectSameSpec.plain.varTypes Try.prog) (ds ++ gs)).all (· ≤ reachBytes) = true := hsz0
  clear hsz0
  have hval : ∀ (j : Nat) t v, Try.f6.params[j]? = some t → args[j]? = some v → Value.okWide Try.prog W .any base t v := hval0
  have hW' := hW
  obtain ⟨p, q, hA0, hV, rfl, hfz, hnd⟩ := hW
  have hA : DataW.TrodAll enc Try.prog W 0 (fun _ => true) true Try.f6.params.toList args.toList ds p := hA0
  rw [Try.params6] at hA hval hsz
  obtain ⟨v0, vs0, d0, ds0, p0, q0, hargs, rfl, rfl, h0, r0⟩ := trodAll_cons hA
  obtain ⟨v1, vs1, d1, ds1, p1, q1, rfl, rfl, rfl, h1, r1⟩ := trodAll_cons r0
  obtain ⟨v2, vs2, d2, ds2, p2, q2, rfl, rfl, rfl, h2, r2⟩ := trodAll_cons r1
  obtain ⟨rfl, rfl, rfl⟩ := trodAll_nil r2
  obtain rfl : args = #[v0, v1, v2] := by cases args; simp_all
  obtain ⟨rfl, rfl⟩ := trodVars_none hV
  have k0 := h0
  have lt0 : ∀ x ∈ p0, x.block < W.heap.size := by obtain ⟨m, hm⟩ := k0; exact DataW.trod_lt m _ _ _ hm
  have k1 := h1
  have lt1 : ∀ x ∈ p1, x.block < W.heap.size := by obtain ⟨m, hm⟩ := k1; exact DataW.trod_lt m _ _ _ hm
  have k2 := h2
  have lt2 : ∀ x ∈ p2, x.block < W.heap.size := by obtain ⟨m, hm⟩ := k2; exact DataW.trod_lt m _ _ _ hm
  obtain ⟨a0, n0, c0, b0, rfl, w0, l0, s0⟩ := open_bys Try.underlying34 Try.underlying5 (by kernel_rfl) (by kernel_rfl) (hval 0 34 v0 rfl rfl) (fun _ => rfl) h0 (fun el sp hd => sized_slice hsz (j := 0) (t := 34) (e := 5) rfl (by rw [hd]; rfl) Try.underlying34)
  obtain ⟨a1, n1, c1, b1, rfl, w1, l1, s1⟩ := open_bys Try.underlying34 Try.underlying5 (by kernel_rfl) (by kernel_rfl) (hval 1 34 v1 rfl rfl) (fun _ => rfl) h1 (fun el sp hd => sized_slice hsz (j := 1) (t := 34) (e := 5) rfl (by rw [hd]; rfl) Try.underlying34)
  obtain ⟨x2, rfl, rfl, rfl, w2⟩ := open_int Try.underlying5 (hval 2 5 v2 rfl rfl) h2
  clear hA0 hval0
  refine (walk a0 n0 c0 b0 a1 n1 c1 b1 x2 W w0 l0 s0 w1 l1 s1 (wf_u8 w2)).mono fun e W' ⟨he, bel⟩ => ?_
  subst he
  exact ⟨_, rfl, _, _, _, [], _, [], hW', trodAll_mk1 (shut_bool Try.underlying4 _), (trodAll_cons_mk (Below.trod laidOut (by kernel_rfl) (of_decide_eq_true (by kernel_rfl)) k0 bel lt0) (trodAll_cons_mk (Below.trod laidOut (by kernel_rfl) (of_decide_eq_true (by kernel_rfl)) k1 bel lt1) (trodAll_cons_mk (Below.trod laidOut (by kernel_rfl) (of_decide_eq_true (by kernel_rfl)) k2 bel lt2) trodAll_mk0))), rfl, bel.frame _, fun h => by cases h⟩

theorem over : Rows.expectSameRow.holds Try.pinned (OpenSpec.ofChange Rows.expectSameSpec) :=
  OpenClaim.holds_of_wide 6 Try.f6 rfl rfl rfl rfl rfl rfl rfl ⟨rfl, rfl, rfl, rfl, rfl⟩ rfl rfl rfl rfl rfl (by kernel_rfl) Try.func6 (by kernel_rfl)
    (of_decide_eq_true (by kernel_rfl)) (by unfold Func.isWrapper; first | (rw [if_pos (by decide +kernel)]; kernel_rfl) | (rw [if_neg (by decide +kernel)]; exact ⟨rfl, rfl⟩))
    (fun os started H enc _ => lifted os started H enc)

theorem proved : Rows.ExpectSameSaid := over
end Go.Proofs.Ytgidoieppplhpaa.expectSame
