/-
  'lifelinelaw14.DemuxLess' answers true for every input, and leaves its arguments as they were.
  Conditions: none but what the row itself says of its arguments (how much memory each may take).
-/
import Derived.Test.YtadfchdcaenglaaRows
import Derived.Test.YtadfchdcaenglaaDemuxLaw
import Derived.LoopTactic
import Derived.Deep.DeepCutAuto
import Derived.Test.YtadfchdcaenglaaFrame
import Derived.WalkKit
import Derived.ProofKit
import Derived.OpenShut
import Derived.ShutString
import Derived.ChangeOld
import Derived.Below
namespace Go.Proofs.Ytadfchdcaenglaa.demuxLess
open Go.ChangeShapes Go.WideShapes Go.ChangeAt Go.RowKit
open Go.ChangeMaps (open_string shut_string)
set_option linter.unusedVariables false

theorem own : ownKnob Try.prog.godebug = none := by kernel_rfl
theorem laidOut : laidOutB Try.prog = true := by kernel_rfl

theorem part_less1 (b : List UInt8) (k : Nat) : partD b 1 (segs (List.replicate k 1 ++ [2])) = if 0 < k ∧ k ≤ b.length then b.take k else [] := by
  rcases Nat.eq_zero_or_pos k with rfl | hk
  · rfl
  · rw [segs_less k hk]
    by_cases h : k ≤ b.length
    · rw [if_pos ⟨hk, h⟩]; simp [partD, h]
    · rw [if_neg (fun e => h e.2)]; simp [partD, h]
theorem part_less2 (b : List UInt8) (k : Nat) : partD b 2 (segs (List.replicate k 1 ++ [2])) = if k < b.length then (b.drop k).take 1 else [] := by
  rcases Nat.eq_zero_or_pos k with rfl | hk
  · show partD b 2 [⟨2, 0, 1⟩] = _
    by_cases h : 0 < b.length
    · rw [if_pos h]; simp [partD, show 1 ≤ b.length by omega]
    · rw [if_neg h]; simp [partD, show ¬ 1 ≤ b.length by omega]
  · rw [segs_less k hk]
    by_cases h : k < b.length
    · rw [if_pos h]; simp [partD, show k + 1 ≤ b.length by omega]
    · rw [if_neg h]; simp [partD, show ¬ k + 1 ≤ b.length by omega]
set_option maxRecDepth 100000 in
set_option maxHeartbeats 4000000 in
theorem walk (x0 : Int) (a1 : Option Addr) (n1 c1 : Nat) (b1 : List UInt8) (w : World) (h0 : 0 ≤ x0 ∧ x0 ≤ 255) (h1 : Bys w w.heap.size a1 n1 b1) (l1 : n1 ≤ c1) (s1 : c1 ≤ 140737488351232) :
    Calls Try.prog 6 #[.int .u8 x0, .slice a1 n1 c1] w fun e w' => e = .returned (.bool true) ∧ Below w.heap.size w w' := by
  obtain ⟨N, rfl⟩ : ∃ N : Nat, x0 = (N : Int) := ⟨x0.toNat, by omega⟩
  obtain ⟨k, hk⟩ : ∃ k, N % 9 = k := ⟨_, rfl⟩
  have hk9 : k ≤ 8 := by omega
  have hm1 : (N : Int) % 9 = (k : Int) := by omega
  have hm2 : Int.tmod (N : Int) 9 = (k : Int) := by rw [Int.tmod_eq_emod_of_nonneg (by omega)]; exact hm1
  have H1 := keepHid h1
  have HL1 := keepHid h1.len
  have hn1 : (n1 : Int) ≤ 140737488351232 := by omega
  have HN1 : Hid (n1 ≤ c1 ∧ c1 ≤ 140737488351232) := keepHid ⟨l1, s1⟩
  clear hk h1
  go_enter Try.func6, Try.ntmps6
  go_wp2_with fail
  refine (awake_any _).mono ?_
  rintro e w1 ⟨rfl, hb1⟩
  have HB1 := keepHid hb1
  clear hb1
  go_wp2_with fail
  refine (of_at 1 HB1.out).mono ?_
  rintro e w2 ⟨g, rfl, h2⟩
  have H2 : Hid (DAt w g 1 (List.replicate 0 1) w2) := keepHid h2
  clear h2
  go_wp2_with fail
  go_loopw [7] (fun i wr => ∃ j : Nat, j ≤ k ∧ i = .int .i64 j ∧ Hid (DAt w g 1 (List.replicate j 1) wr)) (fun i _ => k - (intOf i).toNat)
  case atStart => exact ⟨0, Nat.zero_le _, rfl, H2⟩
  case round =>
    obtain ⟨j, hj, rfl, HD⟩ := hrel
    by_cases hlt : j < k
    · have hjn : (j : Int) < (k : Int) := by omega
      go_wp2_with fail
      refine (put_at HD.out _ (by rw [List.length_replicate]; omega)).mono ?_
      rintro e w4 ⟨rfl, h4, -⟩
      rw [show List.replicate j 1 ++ [1] = List.replicate (j + 1) 1 by rw [List.replicate_succ']] at h4
      have H4 := keepHid h4
      clear h4
      go_wp2
      go_roundw
      case rel => exact ⟨j + 1, by omega, by go_num, H4⟩
      case measure => simp [intOf]; omega
    · obtain rfl : j = k := by omega
      go_wp2_with fail
      refine (switch_at HD.out 2).mono ?_
      rintro e w5 ⟨rfl, h5, -⟩
      have H5 : Hid (DAt w g 2 (List.replicate j 1) w5) := keepHid h5
      clear h5
      go_wp2_with fail
      refine (put_at H5.out 7 (by rw [List.length_replicate]; omega)).mono ?_
      rintro e w6 ⟨rfl, h6, -⟩
      have H6 : Hid (DAt w g 2 (List.replicate j 1 ++ [2]) w6) := keepHid h6
      clear h6 H5
      have hlen : (List.replicate j 1 ++ [2]).length ≤ 1099511627776 := by simp; omega
      have HPA := keepHid (part_at H6.out hlen a1 n1 c1 b1 ((H1.out.below H6.out.b).more H6.out.b.size) HN1.out.1 (by have := HN1.out.2; omega) 1)
      obtain ⟨X, hX⟩ : ∃ X, partD b1 1 (segs (List.replicate j 1 ++ [2])) = X := ⟨_, rfl⟩
      rw [hX] at HPA
      rw [part_less1] at hX
      have HX := keepHid hX
      clear hX
      go_wp2_with fail
      refine HPA.out.mono ?_
      rintro e w7 ⟨Ax, cx, rfl, hx, hb7⟩
      have HXX := keepHid hx
      have H7 := keepHid (H6.out.below hb7)
      clear hx hb7 HPA H6
      have HPB := keepHid (part_at H7.out hlen a1 n1 c1 b1 ((H1.out.below H7.out.b).more H7.out.b.size) HN1.out.1 (by have := HN1.out.2; omega) 2)
      obtain ⟨Y, hY⟩ : ∃ Y, partD b1 2 (segs (List.replicate j 1 ++ [2])) = Y := ⟨_, rfl⟩
      rw [hY] at HPB
      rw [part_less2] at hY
      have HY := keepHid hY
      clear hY hlen
      go_wp2_with fail
      refine HPB.out.mono ?_
      rintro e w8 ⟨Ay, cy, rfl, hy, hb8⟩
      have HYY := keepHid hy
      have HXX8 := keepHid ((HXX.out.below hb8).more hb8.size)
      have HB := keepHid (H7.out.below hb8).b
      clear hy hb8 HPB H7 HXX
      obtain ⟨nx, hnx⟩ : ∃ nx, X.length = nx := ⟨_, rfl⟩
      obtain ⟨ny, hny⟩ : ∃ ny, Y.length = ny := ⟨_, rfl⟩
      rw [hnx] at HXX8 ⊢
      rw [hny] at HYY ⊢
      rw [HL1.out] at HX HY
      have HSX : Hid (∀ q os, (convert 29 9 (.slice Ax nx cx)).run Try.prog (Sort.grow (redrawn w8 q) os) = .ok (.string (strB X)) (Sort.grow (redrawn w8 q) os)) := keepHid (fun q os => run_str 29 5 9 Try.underlying29 Try.underlying5 Try.underlying9 (HXX8.out.below ((below_regrown w8 q os).mono (Nat.le_refl _))))
      have HSB : Hid (∀ q os, j ≤ n1 → (convert 29 9 (.slice a1 j c1)).run Try.prog (Sort.grow (redrawn w8 q) os) = .ok (.string (strB (b1.take j))) (Sort.grow (redrawn w8 q) os)) := keepHid (fun q os hj => run_str 29 5 9 Try.underlying29 Try.underlying5 Try.underlying9 ((H1.out.below (HB.out.trans ((below_regrown w8 q os).mono HB.out.size))).head hj))
      have HNX := keepHid hnx
      have HNY := keepHid hny
      clear hnx hny
      rcases (by omega : j = 0 ∨ (0 < j ∧ j ≤ n1) ∨ (0 < j ∧ n1 < j)) with rfl | ⟨hj0, hjn⟩ | ⟨hj0, hjn⟩
      · have hX := HX.out
        rw [if_neg (by omega)] at hX
        obtain rfl : nx = 0 := by rw [← HNX.out, ← hX]; rfl
        have z1 : decide ((n1 : Int) < 0) = false := decide_eq_false (by omega)
        have z2 : decide ((n1 : Int) ≥ 0) = true := decide_eq_true (by omega)
        have z3 : decide ((0 : Int) ≤ (n1 : Int)) = true := decide_eq_true (by omega)
        have z4 : decide (n1 < 0) = false := decide_eq_false (by omega)
        clear hX
        go_upto_region 12 with fail
        refine wp_region_quiet_below (by kernel_rfl) (by kernel_rfl) ?_
        repeat (go_big_quiet_step (fail))
        refine wpQuiet_nil ?_
        intro _ hw'
        obtain ⟨⟨dq, osq⟩, hw''⟩ := hw'
        subst hw''
        have hb9 := below_regrown w8 dq osq
        generalize Sort.grow (redrawn w8 dq) osq = w9 at *
        have HB9 := keepHid (HB.out.trans (hb9.mono HB.out.size))
        by_cases hy : 0 < n1
        · have i5 : (n1 : Int) > 0 := by omega
          have hY := HY.out
          rw [if_pos (by omega)] at hY
          obtain rfl : ny = 1 := by rw [← HNY.out, ← hY, List.length_take, List.length_drop, HL1.out]; omega
          have hcy : ∀ q os, (convert 29 9 (.slice Ay 1 cy)).run Try.prog (Sort.grow (redrawn w9 q) os) = .ok (.string (strB Y)) (Sort.grow (redrawn w9 q) os) := fun q os => run_str 29 5 9 Try.underlying29 Try.underlying5 Try.underlying9 ((HYY.out.below (hb9.trans ((below_regrown w9 q os).mono hb9.size))))
          obtain ⟨A3, hif⟩ : ∃ A3, (if c1 = 0 then a1 else a1.map (·.add 0)) = A3 := ⟨_, rfl⟩
          have hcb : ∀ q os, (convert 29 9 (.slice A3 1 (c1 - 0))).run Try.prog (Sort.grow (redrawn w9 q) os) = .ok (.string (strB Y)) (Sort.grow (redrawn w9 q) os) := fun q os => by
            have := ((H1.out.below (HB9.out.trans ((below_regrown w9 q os).mono HB9.out.size))).cut (k := 0) (cap := c1) (by omega) HN1.out.1).head (k := 1) (by omega)
            rw [hif, hY] at this
            exact run_str 29 5 9 Try.underlying29 Try.underlying5 Try.underlying9 this
          have hse : ((strB Y).toList == (strB Y).toList) = true := strB_same rfl
          have hc1 : ((0 : Nat) : Int) + 1 ≤ (c1 : Int) := by have := HN1.out; omega
          have hmp : Option.map (fun x : Addr => x.add 0) a1 = a1 := by cases a1 <;> simp [Addr.add]
          have hif2 : (if c1 = 0 then a1 else Option.map (fun x : Addr => x.add 0) a1) = a1 := by rw [hmp]; split <;> rfl
          have hA3 : A3 = a1 := by rw [← hif]; exact hif2
          rw [hA3, Nat.sub_zero] at hcb
          clear hY hb9 hif hA3
          go_upto_region 15 with fail
          refine wp_region_quiet_below (by kernel_rfl) (by kernel_rfl) ?_
          repeat (go_big_quiet_step (fail))
          refine wpQuiet_nil ?_
          intro _ hw'
          obtain ⟨⟨dq, osq⟩, hw''⟩ := hw'
          subst hw''
          have HB10 := keepHid (HB9.out.trans ((below_regrown w9 dq osq).mono HB9.out.size))
          go_wp2
          go_ret
          exact ⟨rfl, HB10.out⟩
        · obtain rfl : n1 = 0 := by omega
          have hY := HY.out
          rw [if_neg (by omega)] at hY
          obtain rfl : ny = 0 := by rw [← HNY.out, ← hY]; rfl
          clear hY hb9
          go_wp2
          go_ret
          exact ⟨rfl, HB9.out⟩
      · have hX := HX.out
        rw [if_pos ⟨hj0, hjn⟩] at hX
        have hsx := HSX.out
        have hsb := fun q os => HSB.out q os hjn
        rw [← hX] at hsx
        obtain rfl : nx = j := by rw [← HNX.out, ← hX, List.length_take, HL1.out]; omega
        have hse : ((strB (b1.take nx)).toList == (strB (b1.take nx)).toList) = true := strB_same rfl
        have i1 : (n1 : Int) ≥ (nx : Int) := by omega
        have i2 : (nx : Int) > 0 := by omega
        have i3 : ¬ (n1 : Int) < (nx : Int) := by omega
        have i4 : (nx : Int) ≤ (c1 : Int) := by have := HN1.out; omega
        have z1 : decide ((n1 : Int) < (nx : Int)) = false := decide_eq_false (by omega)
        have z2 : decide (n1 < nx) = false := decide_eq_false (by omega)
        have z3 : decide ((nx : Int) ≤ (n1 : Int)) = true := decide_eq_true (by omega)
        have z4 : decide (nx ≤ n1) = true := decide_eq_true (by omega)
        have z5 : decide ((0 : Int) < (nx : Int)) = true := decide_eq_true (by omega)
        have z6 : decide (0 < nx) = true := decide_eq_true (by omega)
        clear hX
        go_upto_region 12 with fail
        refine wp_region_quiet_below (by kernel_rfl) (by kernel_rfl) ?_
        repeat (go_big_quiet_step (fail))
        refine wpQuiet_nil ?_
        intro _ hw'
        obtain ⟨⟨dq, osq⟩, hw''⟩ := hw'
        subst hw''
        have hb9 := below_regrown w8 dq osq
        generalize Sort.grow (redrawn w8 dq) osq = w9 at *
        have HB9 := keepHid (HB.out.trans (hb9.mono HB.out.size))
        clear hsx hsb hse
        by_cases hy : nx < n1
        · have i5 : (n1 : Int) > (nx : Int) := by omega
          have hY := HY.out
          rw [if_pos (by omega)] at hY
          obtain rfl : ny = 1 := by rw [← HNY.out, ← hY, List.length_take, List.length_drop, HL1.out]; omega
          have hcy : ∀ q os, (convert 29 9 (.slice Ay 1 cy)).run Try.prog (Sort.grow (redrawn w9 q) os) = .ok (.string (strB Y)) (Sort.grow (redrawn w9 q) os) := fun q os => run_str 29 5 9 Try.underlying29 Try.underlying5 Try.underlying9 ((HYY.out.below (hb9.trans ((below_regrown w9 q os).mono hb9.size))))
          obtain ⟨A3, hif⟩ : ∃ A3, (if c1 = nx then a1 else a1.map (·.add nx)) = A3 := ⟨_, rfl⟩
          have hcb : ∀ q os, (convert 29 9 (.slice A3 1 (c1 - nx))).run Try.prog (Sort.grow (redrawn w9 q) os) = .ok (.string (strB Y)) (Sort.grow (redrawn w9 q) os) := fun q os => by
            have := ((H1.out.below (HB9.out.trans ((below_regrown w9 q os).mono HB9.out.size))).cut (k := nx) (cap := c1) (by omega) HN1.out.1).head (k := 1) (by omega)
            rw [hif, hY] at this
            exact run_str 29 5 9 Try.underlying29 Try.underlying5 Try.underlying9 this
          have hse : ((strB Y).toList == (strB Y).toList) = true := strB_same rfl
          have hc1 : ((nx : Nat) : Int) + 1 ≤ (c1 : Int) := by have := HN1.out; omega
          clear hY hb9
          go_upto_region 15 with fail
          refine wp_region_quiet_below (by kernel_rfl) (by kernel_rfl) ?_
          repeat (go_big_quiet_step (fail))
          refine wpQuiet_nil ?_
          intro _ hw'
          obtain ⟨⟨dq, osq⟩, hw''⟩ := hw'
          subst hw''
          have HB10 := keepHid (HB9.out.trans ((below_regrown w9 dq osq).mono HB9.out.size))
          go_wp2
          go_ret
          exact ⟨rfl, HB10.out⟩
        · have i5 : ¬ (n1 : Int) > (nx : Int) := by omega
          have hY := HY.out
          rw [if_neg (by omega)] at hY
          obtain rfl : ny = 0 := by rw [← HNY.out, ← hY]; rfl
          clear hY hb9
          go_wp2
          go_ret
          exact ⟨rfl, HB9.out⟩
      · have hX := HX.out
        rw [if_neg (by omega)] at hX
        obtain rfl : nx = 0 := by rw [← HNX.out, ← hX]; rfl
        have i1 : ¬ (n1 : Int) ≥ (j : Int) := by omega
        have i3 : (n1 : Int) < (j : Int) := by omega
        have i5 : ¬ (n1 : Int) > (j : Int) := by omega
        have z1 : decide ((n1 : Int) < (j : Int)) = true := decide_eq_true (by omega)
        have z2 : decide (n1 < j) = true := decide_eq_true (by omega)
        have z3 : decide ((j : Int) ≤ (n1 : Int)) = false := decide_eq_false (by omega)
        have z4 : decide (j ≤ n1) = false := decide_eq_false (by omega)
        clear hX
        go_upto_region 12 with fail
        refine wp_region_quiet_below (by kernel_rfl) (by kernel_rfl) ?_
        repeat (go_big_quiet_step (fail))
        refine wpQuiet_nil ?_
        intro _ hw'
        obtain ⟨⟨dq, osq⟩, hw''⟩ := hw'
        subst hw''
        have hb9 := below_regrown w8 dq osq
        generalize Sort.grow (redrawn w8 dq) osq = w9 at *
        have HB9 := keepHid (HB.out.trans (hb9.mono HB.out.size))
        have hY := HY.out
        rw [if_neg (by omega)] at hY
        obtain rfl : ny = 0 := by rw [← HNY.out, ← hY]; rfl
        clear hY hb9
        go_wp2
        go_ret
        exact ⟨rfl, HB9.out⟩

set_option maxRecDepth 100000 in
theorem lifted (os : Os) (started : os.Started) (H : Type) (enc : TypeId × Value → H) :
    ReturnsInHanded {} Try.checked os 6 .any (Rows.demuxLessSpec.pre6 enc Try.prog Try.f6 Rows.demuxLessRow.domain false) (Rows.demuxLessSpec.post enc Try.prog Try.f6 false true false false) := by
  refine returnsInHanded_of_change_sized (C := Try.checked) own started (by kernel_rfl) Try.func6
    (ChangeSpec.witness6 (enc := enc) (C := Try.checked) false ⟨#[], #[.int .u8 0, .slice none 0 0], []⟩ 8 (by kernel_rfl) (by kernel_rfl) (by kernel_rfl) (by kernel_rfl)) ?_
  intro W base args ds gs before hval0 hW hcnd hsz0 _
  have hsz : (DataW.weightsEach Try.prog (Try.f6.params.toList ++ Rows.demuxLessSpec.plain.varTypes Try.prog) (ds ++ gs)).all (· ≤ reachBytes) = true := hsz0
  clear hsz0
  have hval : ∀ (j : Nat) t v, Try.f6.params[j]? = some t → args[j]? = some v → Value.okWide Try.prog W .any base t v := hval0
  have hW' := hW
  obtain ⟨p, q, hA0, hV, rfl, hfz, hnd⟩ := hW
  have hA : DataW.TrodAll enc Try.prog W 0 (fun _ => true) true Try.f6.params.toList args.toList ds p := hA0
  rw [Try.params6] at hA hval hsz
  obtain ⟨v0, vs0, d0, ds0, p0, q0, hargs, rfl, rfl, h0, r0⟩ := trodAll_cons hA
  obtain ⟨v1, vs1, d1, ds1, p1, q1, rfl, rfl, rfl, h1, r1⟩ := trodAll_cons r0
  obtain ⟨rfl, rfl, rfl⟩ := trodAll_nil r1
  obtain rfl : args = #[v0, v1] := by cases args; simp_all
  obtain ⟨rfl, rfl⟩ := trodVars_none hV
  have k0 := h0
  have lt0 : ∀ x ∈ p0, x.block < W.heap.size := by obtain ⟨m, hm⟩ := k0; exact DataW.trod_lt m _ _ _ hm
  have k1 := h1
  have lt1 : ∀ x ∈ p1, x.block < W.heap.size := by obtain ⟨m, hm⟩ := k1; exact DataW.trod_lt m _ _ _ hm
  obtain ⟨x0, rfl, rfl, rfl, w0⟩ := open_int Try.underlying5 (hval 0 5 v0 rfl rfl) h0
  obtain ⟨a1, n1, c1, b1, rfl, w1, l1, s1⟩ := open_bys Try.underlying29 Try.underlying5 (by kernel_rfl) (by kernel_rfl) (hval 1 29 v1 rfl rfl) (fun _ => rfl) h1 (fun el sp hd => sized_slice hsz (j := 1) (t := 29) (e := 5) rfl (by rw [hd]; rfl) Try.underlying29)
  clear hA0 hval0
  refine (walk x0 a1 n1 c1 b1 W (wf_u8 w0) w1 l1 s1).mono fun e W' ⟨he, bel⟩ => ?_
  subst he
  exact ⟨_, rfl, _, _, _, [], _, [], hW', trodAll_mk1 (shut_bool Try.underlying4 _), (trodAll_cons_mk (Below.trod laidOut (by kernel_rfl) (of_decide_eq_true (by kernel_rfl)) k0 bel lt0) (trodAll_cons_mk (Below.trod laidOut (by kernel_rfl) (of_decide_eq_true (by kernel_rfl)) k1 bel lt1) trodAll_mk0)), rfl, bel.frame _, fun h => by cases h⟩

theorem over : Rows.demuxLessRow.holds Try.pinned (OpenSpec.ofChange Rows.demuxLessSpec) :=
  OpenClaim.holds_of_wide 6 Try.f6 rfl rfl rfl rfl rfl rfl rfl ⟨rfl, rfl, rfl, rfl, rfl⟩ rfl rfl rfl rfl rfl (by kernel_rfl) Try.func6 (by kernel_rfl)
    (of_decide_eq_true (by kernel_rfl)) (by unfold Func.isWrapper; first | (rw [if_pos (by decide +kernel)]; kernel_rfl) | (rw [if_neg (by decide +kernel)]; exact ⟨rfl, rfl⟩))
    (fun os started H enc _ => lifted os started H enc)

theorem proved : Rows.DemuxLessSaid := over
end Go.Proofs.Ytadfchdcaenglaa.demuxLess
