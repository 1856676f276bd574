/-
  'lifelinelaw08.MatchGrow' answers true for every input, and leaves its arguments as they were.
  Conditions: none but what the row itself says of its arguments (how much memory each may take).
-/
import Derived.Test.YtelkgkmomdmblaaRows
import Derived.Test.YtelkgkmomdmblaaMatchKit
import Derived.Test.YtelkgkmomdmblaaRegexMakes
import Derived.LoopTactic
import Derived.Deep.DeepCutAuto
import Derived.Deep.RegionHeld3
import Derived.Deep.DrawnRows
import Derived.Lib.QuietBelow
import Derived.Test.YtelkgkmomdmblaaFrame
import Derived.WalkKit
import Derived.ProofKit
import Derived.OpenShut
import Derived.ShutString
import Derived.ChangeOld
import Derived.Below
namespace Go.Proofs.Ytelkgkmomdmblaa.matchGrow
open Go.ChangeShapes Go.WideShapes Go.ChangeAt Go.RowKit
open Go.ChangeMaps (open_string shut_string)
set_option linter.unusedVariables false

theorem own : ownKnob Try.prog.godebug = none := by kernel_rfl
theorem laidOut : laidOutB Try.prog = true := by kernel_rfl

theorem cases_first (r : Re) (s u : List UInt8) : ∃ k ok i is, firstL r s = (k, ok) ∧ firstL r (s ++ u) = (i, is) ∧ ((ok = true ∧ is = true ∧ i = k ∧ k ≤ s.length) ∨ (ok = false ∧ is = true ∧ s.length < i) ∨ (ok = false ∧ is = false)) := by
  rcases first_spec r s with ⟨k, hk, h1, h2, h3⟩ | ⟨h1, h2⟩
  · refine ⟨k, true, k, true, h1, first_hit (by simp; omega) (by rw [hit_app hk]; exact h2) (fun i hi => by rw [hit_app (by omega)]; exact h3 i hi), .inl ⟨rfl, rfl, rfl, hk⟩⟩
  · rcases first_spec r (s ++ u) with ⟨i, hi, g1, g2, g3⟩ | ⟨g1, g2⟩
    · refine ⟨0, false, i, true, h1, g1, .inr (.inl ⟨rfl, rfl, ?_⟩)⟩
      rcases Nat.lt_or_ge s.length i with h | h
      · exact h
      · rw [hit_app h, h2 i h] at g2
        cases g2
    · exact ⟨0, false, 0, false, h1, g1, .inr (.inr ⟨rfl, rfl⟩)⟩
set_option maxRecDepth 100000 in
set_option maxHeartbeats 4000000 in
theorem walk (a0 : Option Addr) (n0 c0 : Nat) (b0 : List UInt8) (a1 : Option Addr) (n1 c1 : Nat) (b1 : List UInt8) (a2 : Option Addr) (n2 c2 : Nat) (b2 : List UInt8) (w : World) (h0 : Bys w w.heap.size a0 n0 b0) (l0 : n0 ≤ c0) (s0 : c0 ≤ 140737488351232) (h1 : Bys w w.heap.size a1 n1 b1) (l1 : n1 ≤ c1) (s1 : c1 ≤ 140737488351232) (h2 : Bys w w.heap.size a2 n2 b2) (l2 : n2 ≤ c2) (s2 : c2 ≤ 140737488351232) :
    Calls Try.prog 6 #[.slice a0 n0 c0, .slice a1 n1 c1, .slice a2 n2 c2] w fun e w' => e = .returned (.bool true) ∧ Below w.heap.size w w' := by
  have HAW := keepHid (awake8_any w)
  have HY0 := keepHid h0
  have HY1 := keepHid h1
  have HY2 := keepHid h2
  have HLC : Hid (n0 ≤ c0 ∧ c0 ≤ 9223372036854775807) := keepHid ⟨l0, by omega⟩
  clear h0 h1 h2
  go_enter Try.func6, Try.ntmps6
  go_wp2_with fail
  with_reducible refine HAW.out.mono ?_
  rintro e w1 ⟨rfl, hb1⟩
  have HB1 := keepHid hb1
  have HMK : Hid (Calls Try.prog 10 #[.slice a0 n0 c0, .int .i64 3] w1 (MakePostD 3 b0 w1)) := keepHid (makes_d (d := 3) (build_all 3 (by decide)) a0 n0 c0 b0 w1 ((HY0.out.below hb1).more hb1.size) HLC.out.1 HLC.out.2)
  clear hb1
  go_wp2_with fail
  with_reducible refine HMK.out.mono ?_
  rintro e w2 ⟨h, rfl, hi2, hb2⟩
  obtain ⟨w3, hw3⟩ : ∃ w3, w2.alloc (.cells (hdC h) 31) = w3 := ⟨_, rfl⟩
  obtain ⟨hi3, hb3, hk3⟩ := node_var hi2 hw3
  have HB3 := keepHid (HB1.out.trans ((hb2.trans (hb3.mono hb2.size)).mono HB1.out.size))
  have HT1 := keepHid (text_any (k := c1) b1 (HY1.out.below HB3.out))
  have HT2 := keepHid (text_any (k := c2) b2 (HY2.out.below HB3.out))
  have HW3 := keepHid hw3
  unfold hdC at hk3 HW3
  have HK3 := keepHid hk3
  have HI3 := keepHid hi3
  obtain ⟨m0, m1, m2, m3, m4, m5, mf⟩ := blk6 hk3
  clear hi2 hb2 hw3 hi3 hb3 hk3 HMK HAW
  generalize (bldL 3 b0).2.1 = r at *
  generalize hS : txt b1 = s at *
  generalize hU : txt b2 = u at *
  have hs14 : s.length ≤ 14 := by rw [← hS]; exact txt_len _
  have hu14 : u.length ≤ 14 := by rw [← hU]; exact txt_len _
  clear hS hU
  have hadd : ∀ W, (Op.stringOp .add (strB s) (strB u)).run Try.prog W = .ok (.string (strB (s ++ u))) W := fun W => run_strAdd s u (by omega) W
  have hlen : (s ++ u).length ≤ 1000000 := by rw [List.length_append]; omega
  obtain ⟨k, ok, i, is, hf1, hf2, hcs⟩ := cases_first r s u
  obtain ⟨mm, hpre⟩ := endsL_app r s u
  obtain ⟨m, hm⟩ : ∃ m, s.length = m := ⟨_, rfl⟩
  have hsz : (strB s).size = m := by rw [strB_size, hm]
  have HF1 := keepHid (first_any s HI3.out (by omega))
  have HF2 := keepHid (fun w' (hb : Below w3.heap.size w3 w') => first_any (s ++ u) (HI3.out.below hb) hlen)
  have HE1 := keepHid (fun w' (hb : Below w3.heap.size w3 w') => mends_any s 0 (HI3.out.below hb) (by omega))
  have HE2 := keepHid (fun w' (hb : Below w3.heap.size w3 w') => mends_any (s ++ u) 0 (HI3.out.below hb) hlen)
  unfold FirstPost at HF1 HF2
  rw [hf1] at HF1
  rw [hf2] at HF2
  have he1 : endsI r s 0 = endsL r s 0 := by unfold endsI; rw [if_pos (by omega)]; rfl
  have he2 : endsI r (s ++ u) 0 = endsL r (s ++ u) 0 := by unfold endsI; rw [if_pos (by omega)]; rfl
  rw [he1] at HE1
  rw [he2, hpre] at HE2
  rw [hm] at hcs
  have HCS := keepHid hcs
  clear hf1 hf2 hpre he1 he2 hcs hm hlen hs14 hu14
  generalize endsL r s 0 = xs at *
  unfold hdV at *
  go_upto_region 4 with fail
  rw [HW3.out]
  generalize w2.heap.size = V at *
  go_wp2_with fail
  with_reducible refine HT1.out.mono ?_
  rintro e w' ⟨rfl, rfl⟩
  go_wp2_with fail
  with_reducible refine HT2.out.mono ?_
  rintro e w' ⟨rfl, rfl⟩
  go_wp2_with fail
  with_reducible refine HF1.out.mono ?_
  rintro e w4 ⟨rfl, hb4⟩
  have HF2' := keepHid (HF2.out w4 hb4)
  obtain ⟨p0, p1, p2, p3, p4, p5, pf⟩ := blk6 (HK3.out.below hb4 HK3.out.lt)
  have HB4 := keepHid hb4
  clear hb4 m0 m1 m2 m3 m4 m5 mf
  go_wp2_with fail
  with_reducible refine HF2'.out.mono ?_
  rintro e w5 ⟨rfl, hb5⟩
  have HB5 := keepHid (HB4.out.trans (hb5.mono HB4.out.size))
  have HD5 : Hid (Below w3.heap.size w3 w5.drew) := keepHid HB5.out.drew
  have HCELL : Hid (∀ w', Below w3.heap.size w3 w' → w'.cell? ⟨V, 0, none⟩ = some (.int .i64 h.k) ∧ w'.cell? ⟨V, 1, none⟩ = some (.int .u64 (h.s.a.toNat : Int)) ∧ w'.cell? ⟨V, 2, none⟩ = some (.int .u64 (h.s.b.toNat : Int)) ∧ w'.cell? ⟨V, 3, none⟩ = some (.int .u64 (h.s.c.toNat : Int)) ∧ w'.cell? ⟨V, 4, none⟩ = some (.int .u64 (h.s.d.toNat : Int)) ∧ w'.cell? ⟨V, 5, none⟩ = some (.slice h.A h.n h.c)) := keepHid (fun w' hb => by
    obtain ⟨a0, a1, a2, a3, a4, a5, _⟩ := blk6 (HK3.out.below hb HK3.out.lt)
    exact ⟨a0, a1, a2, a3, a4, a5⟩)
  clear hb5 p0 p1 p2 p3 p4 p5 pf HT1 HT2 HF1 HF2 HF2' HW3
  go_upto_region 7 with fail
  go_region_held3 (fun w' => w'.cell? ⟨V, 0, none⟩ = some (.int .i64 h.k) ∧ w'.cell? ⟨V, 1, none⟩ = some (.int .u64 (h.s.a.toNat : Int)) ∧ w'.cell? ⟨V, 2, none⟩ = some (.int .u64 (h.s.b.toNat : Int)) ∧ w'.cell? ⟨V, 3, none⟩ = some (.int .u64 (h.s.c.toNat : Int)) ∧ w'.cell? ⟨V, 4, none⟩ = some (.int .u64 (h.s.d.toNat : Int)) ∧ w'.cell? ⟨V, 5, none⟩ = some (.slice h.A h.n h.c)) (first | exact HCELL.out _ HD5.out | exact HCELL.out _ HBa.out | exact HCELL.out _ HBb.out | exact HCELL.out _ HBF.out)
    (first
      | (go_at_call 14
         (with_reducible refine (HE2.out _ HBa.out).mono ?_)
         rintro e wF ⟨A2, q2, d2, rfl, ho2, hb2⟩
         have HBF := keepHid (HBa.out.trans (hb2.mono HBa.out.size))
         have HO1 := keepHid (HOa.out.below hb2)
         have HO2 := keepHid ho2
         clear ho2 hb2)
      | (go_at_call 14
         (with_reducible refine (HE1.out _ HBb.out).mono ?_)
         rintro e wF ⟨A1, q1, d1, rfl, ho1, hb1⟩
         have HBF := keepHid (HBb.out.trans (hb1.mono HBb.out.size))
         have HO2 := keepHid (HOb.out.below hb1)
         have HO1 := keepHid ho1
         clear ho1 hb1)
      | (go_at_call 14
         (with_reducible refine (HE1.out _ HD5.out).mono ?_)
         rintro e wa ⟨A1, q1, d1, rfl, ho1, hb1⟩
         have HBa := keepHid (HD5.out.trans (hb1.mono HD5.out.size))
         have HOa := keepHid ho1
         clear ho1 hb1)
      | (go_at_call 14
         (with_reducible refine (HE2.out _ HD5.out).mono ?_)
         rintro e wb ⟨A2, q2, d2, rfl, ho2, hb2⟩
         have HBb := keepHid (HD5.out.trans (hb2.mono HD5.out.size))
         have HOb := keepHid ho2
         clear ho2 hb2))
  all_goals
    have hl1 := own_len HO1.out
    have hl2 := own_len HO2.out
    rw [List.length_append] at hl2
    have hq : ¬ (q2 : Int) < (q1 : Int) := by omega
    have HQ : Hid (q1 ≤ q2) := keepHid (by omega)
    have hq1m : q1 ≤ 9223372036854775807 := by obtain ⟨_, _, _, e1, e2⟩ := own_val HO1.out; unfold maxLen at e2; omega
    have hq2m : q2 ≤ 9223372036854775807 := by obtain ⟨_, _, _, e1, e2⟩ := own_val HO2.out; unfold maxLen at e2; omega
    have HS1 := keepHid (Sl.of_own HO1.out (by unfold maxLen; omega))
    have HS2 := keepHid (Sl.of_own HO2.out (by unfold maxLen; omega))
    have HBW := keepHid (HB3.out.trans (HBF.out.mono HB3.out.size))
    clear hl1 hl2 HE1 HE2 HCELL
    try clear hHeld
    generalize wF = wG at *
    have HCC : Hid ((ok = true ∧ is = true ∧ i = k ∧ (k : Int) ≤ (m : Int)) ∨ (ok = false ∧ is = true ∧ ¬ (i : Int) ≤ (m : Int)) ∨ (ok = false ∧ is = false)) := keepHid (by
      rcases HCS.out with ⟨g1, g2, g3, g4⟩ | ⟨g1, g2, g3⟩ | ⟨g1, g2⟩
      · exact .inl ⟨g1, g2, g3, by omega⟩
      · exact .inr (.inl ⟨g1, g2, by omega⟩)
      · exact .inr (.inr ⟨g1, g2⟩))
    go_upto_region 8 with fail
    clear hadd
    rcases HCC.out with ⟨rfl, rfl, rfl, hkm⟩ | ⟨rfl, rfl, hmi⟩ | ⟨rfl, rfl⟩
    all_goals
      go_wp2_with fail
      go_loopw [83] (fun i wr => ∃ j : Nat, j ≤ q1 ∧ i = .int .i64 j ∧ Hid (Below wG.heap.size wG wr)) (fun i _ => q1 - (intOf i).toNat)
      case atStart => exact ⟨0, Nat.zero_le _, rfl, keepHid (Below.refl _ _)⟩
      case round =>
        obtain ⟨j, hj, rfl, HBR⟩ := hrel
        rcases Nat.lt_or_ge j q1 with hlt | hge
        · obtain ⟨e, he⟩ : ∃ e, xs[j]? = some e := ⟨_, List.getElem?_eq_getElem (by rw [own_len HO1.out]; exact hlt)⟩
          have he2 : (xs ++ mm)[j]? = some e := by rw [List.getElem?_append_left (by rw [own_len HO1.out]; exact hlt)]; exact he
          obtain ⟨ad1, rfl, hb1, hcell1⟩ := (HS1.out.below HBR.out).2.2 j e he
          obtain ⟨ad2, rfl, hb2, hcell2⟩ := (HS2.out.below HBR.out).2.2 j e he2
          unfold natV at hcell1 hcell2
          have y1 := fun d os => cell_regrown hcell1 d os
          have y2 := fun d os => cell_regrown hcell2 d os
          have hji : (j : Int) < (q1 : Int) := by omega
          have hji2 : (j : Int) < (q2 : Int) := by have := HQ.out; omega
          have hj0 : (0 : Int) ≤ (j : Int) := by omega
          clear he he2 hb1 hb2 hcell1 hcell2
          go_wp2_with fail
          refine wp_region_quiet_below (by kernel_rfl) (by kernel_rfl) ?_
          repeat (go_big_quiet_step (fail))
          refine wpQuiet_nil ?_
          intro _ hw'
          obtain ⟨⟨dq, osq⟩, hw''⟩ := hw'
          subst hw''
          have HBR' := keepHid (HBR.out.trans ((below_regrown wr dq osq).mono HBR.out.size))
          go_wp2
          go_roundw
          case rel => exact ⟨j + 1, by omega, by go_num, HBR'⟩
          case measure => simp [intOf]; omega
        · go_wp2
          go_ret
          exact ⟨rfl, HBW.out.trans (HBR.out.mono HBW.out.size)⟩

set_option maxRecDepth 100000 in
theorem lifted (os : Os) (started : os.Started) (H : Type) (enc : TypeId × Value → H) :
    ReturnsInHanded {} Try.checked os 6 .any (Rows.matchGrowSpec.pre6 enc Try.prog Try.f6 Rows.matchGrowRow.domain false) (Rows.matchGrowSpec.post enc Try.prog Try.f6 false true false false) := by
  refine returnsInHanded_of_change_sized (C := Try.checked) own started (by kernel_rfl) Try.func6
    (ChangeSpec.witness6 (enc := enc) (C := Try.checked) false ⟨#[], #[.slice none 0 0, .slice none 0 0, .slice none 0 0], []⟩ 8 (by kernel_rfl) (by kernel_rfl) (by kernel_rfl) (by kernel_rfl)) ?_
  intro W base args ds gs before hval0 hW hcnd hsz0 _
  have hsz : (DataW.weightsEach Try.prog (Try.f6.params.toList ++ Rows.matchGrowSpec.plain.varTypes Try.prog) (ds ++ gs)).all (· ≤ reachBytes) = true := hsz0
  clear hsz0
  have hval : ∀ (j : Nat) t v, Try.f6.params[j]? = some t → args[j]? = some v → Value.okWide Try.prog W .any base t v := hval0
  have hW' := hW
  obtain ⟨p, q, hA0, hV, rfl, hfz, hnd⟩ := hW
  have hA : DataW.TrodAll enc Try.prog W 0 (fun _ => true) true Try.f6.params.toList args.toList ds p := hA0
  rw [Try.params6] at hA hval hsz
  obtain ⟨v0, vs0, d0, ds0, p0, q0, hargs, rfl, rfl, h0, r0⟩ := trodAll_cons hA
  obtain ⟨v1, vs1, d1, ds1, p1, q1, rfl, rfl, rfl, h1, r1⟩ := trodAll_cons r0
  obtain ⟨v2, vs2, d2, ds2, p2, q2, rfl, rfl, rfl, h2, r2⟩ := trodAll_cons r1
  obtain ⟨rfl, rfl, rfl⟩ := trodAll_nil r2
  obtain rfl : args = #[v0, v1, v2] := by cases args; simp_all
  obtain ⟨rfl, rfl⟩ := trodVars_none hV
  have k0 := h0
  have lt0 : ∀ x ∈ p0, x.block < W.heap.size := by obtain ⟨m, hm⟩ := k0; exact DataW.trod_lt m _ _ _ hm
  have k1 := h1
  have lt1 : ∀ x ∈ p1, x.block < W.heap.size := by obtain ⟨m, hm⟩ := k1; exact DataW.trod_lt m _ _ _ hm
  have k2 := h2
  have lt2 : ∀ x ∈ p2, x.block < W.heap.size := by obtain ⟨m, hm⟩ := k2; exact DataW.trod_lt m _ _ _ hm
  obtain ⟨a0, n0, c0, b0, rfl, w0, l0, s0⟩ := open_bys Try.underlying22 Try.underlying5 (by kernel_rfl) (by kernel_rfl) (hval 0 22 v0 rfl rfl) (fun _ => rfl) h0 (fun el sp hd => sized_slice hsz (j := 0) (t := 22) (e := 5) rfl (by rw [hd]; rfl) Try.underlying22)
  obtain ⟨a1, n1, c1, b1, rfl, w1, l1, s1⟩ := open_bys Try.underlying22 Try.underlying5 (by kernel_rfl) (by kernel_rfl) (hval 1 22 v1 rfl rfl) (fun _ => rfl) h1 (fun el sp hd => sized_slice hsz (j := 1) (t := 22) (e := 5) rfl (by rw [hd]; rfl) Try.underlying22)
  obtain ⟨a2, n2, c2, b2, rfl, w2, l2, s2⟩ := open_bys Try.underlying22 Try.underlying5 (by kernel_rfl) (by kernel_rfl) (hval 2 22 v2 rfl rfl) (fun _ => rfl) h2 (fun el sp hd => sized_slice hsz (j := 2) (t := 22) (e := 5) rfl (by rw [hd]; rfl) Try.underlying22)
  clear hA0 hval0
  refine (walk a0 n0 c0 b0 a1 n1 c1 b1 a2 n2 c2 b2 W w0 l0 s0 w1 l1 s1 w2 l2 s2).mono fun e W' ⟨he, bel⟩ => ?_
  subst he
  exact ⟨_, rfl, _, _, _, [], _, [], hW', trodAll_mk1 (shut_bool Try.underlying4 _), (trodAll_cons_mk (Below.trod laidOut (by kernel_rfl) (of_decide_eq_true (by kernel_rfl)) k0 bel lt0) (trodAll_cons_mk (Below.trod laidOut (by kernel_rfl) (of_decide_eq_true (by kernel_rfl)) k1 bel lt1) (trodAll_cons_mk (Below.trod laidOut (by kernel_rfl) (of_decide_eq_true (by kernel_rfl)) k2 bel lt2) trodAll_mk0))), rfl, bel.frame _, fun h => by cases h⟩

theorem over : Rows.matchGrowRow.holds Try.pinned (OpenSpec.ofChange Rows.matchGrowSpec) :=
  OpenClaim.holds_of_wide 6 Try.f6 rfl rfl rfl rfl rfl rfl rfl ⟨rfl, rfl, rfl, rfl, rfl⟩ rfl rfl rfl rfl rfl (by kernel_rfl) Try.func6 (by kernel_rfl)
    (of_decide_eq_true (by kernel_rfl)) (by unfold Func.isWrapper; first | (rw [if_pos (by decide +kernel)]; kernel_rfl) | (rw [if_neg (by decide +kernel)]; exact ⟨rfl, rfl⟩))
    (fun os started H enc _ => lifted os started H enc)

theorem proved : Rows.MatchGrowSaid := over
end Go.Proofs.Ytelkgkmomdmblaa.matchGrow
