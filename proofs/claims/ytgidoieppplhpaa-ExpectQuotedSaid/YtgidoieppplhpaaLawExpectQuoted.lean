/-
  'lifelinelaw09.ExpectQuoted' answers true for every input, and leaves its arguments as they were.
  Conditions: none but what the row itself says of its arguments (how much memory each may take).
-/
import Derived.Test.YtgidoieppplhpaaRows
import Derived.Test.YtgidoieppplhpaaExpectQuo
import Derived.Test.YtgidoieppplhpaaMatchKit
import Derived.LoopTactic
import Derived.Deep.DeepCutAuto
import Derived.Lib.QuietBelow
import Derived.Test.YtgidoieppplhpaaFrame
import Derived.Test.YtgidoieppplhpaaFrame
import Derived.WalkKit
import Derived.ProofKit
import Derived.OpenShut
import Derived.ShutString
import Derived.ChangeOld
import Derived.Below
namespace Go.Proofs.Ytgidoieppplhpaa.expectQuoted
open Go.ChangeShapes Go.WideShapes Go.ChangeAt Go.RowKit
open Go.ChangeMaps (open_string shut_string)
set_option linter.unusedVariables false

theorem own : ownKnob Try.prog.godebug = none := by kernel_rfl
theorem laidOut : laidOutB Try.prog = true := by kernel_rfl

set_option maxRecDepth 100000 in
set_option maxHeartbeats 4000000 in
theorem walk (x0 : ByteArray) (x1 : ByteArray) (w : World) (h0 : x0.size ≤ 140737488351232) (h1 : x1.size ≤ 140737488351232) :
    Calls Try.prog 3 #[.string x0, .string x1] w fun e w' => e = .returned (.bool true) ∧ Below w.heap.size w w' := by
  obtain ⟨l0, rfl⟩ : ∃ b, x0 = strB b := ⟨x0.data.toList, by cases x0; rfl⟩
  obtain ⟨u0, rfl⟩ : ∃ b, x1 = strB b := ⟨x1.data.toList, by cases x1; rfl⟩
  rw [strB_size] at h0 h1
  obtain ⟨n0, hn0⟩ : ∃ n, l0.length = n := ⟨_, rfl⟩
  obtain ⟨n1, hn1⟩ : ∃ n, u0.length = n := ⟨_, rfl⟩
  obtain ⟨k0, e0⟩ : ∃ k : Nat, min ((n0 : Int) + 1) 20 = (k : Int) := ⟨min (n0 + 1) 20, by omega⟩
  obtain ⟨k1, e1⟩ : ∃ k : Nat, min (n1 : Int) 300 = (k : Int) := ⟨min n1 300, by omega⟩
  have hk0 : k0 ≤ n0 + 1 := by omega
  have hk1 : k1 ≤ n1 := by omega
  have hk01 : 1 ≤ k0 := by omega
  have hk20 : k0 ≤ 20 := by omega
  have hk300 : k1 ≤ 300 := by omega
  have hadd := run_addx l0 120 h0
  have q0 := fun W ts t => min_s ts t n0 20 k0 e0 W
  have q1 := fun W ts t => min_i ts t n1 300 k1 e1 W
  have hcut0 := run_head (l := l0 ++ [120]) (k := k0) (by simp; omega) (k0 : Int) rfl
  have hcut1 := run_head (l := u0) (k := k1) (by omega) (k1 : Int) rfl
  have hln : ((l0 ++ [120]).take k0).length = k0 := by rw [List.length_take, List.length_append]; simp; omega
  have hun : (u0.take k1).length = k1 := by rw [List.length_take]; omega
  have hsz0 : (strB l0).size = n0 := by rw [strB_size, hn0]
  have hsz1 : (strB u0).size = n1 := by rw [strB_size, hn1]
  have HAW := keepHid (awake9_any w)
  generalize hml : (l0 ++ [120]).take k0 = l at *
  generalize hmu : u0.take k1 = u at *
  clear hml hmu
  have hq64 : (quo l).length ≤ 64 := by have := quo_len l; omega
  have hne : l ≠ [] := by intro e; subst e; simp at hln; omega
  have HQ := keepHid (fun w' => quote_any l w' (by omega))
  have HOF := keepHid (of9_quo hne hq64)
  have HEN := keepHid (end_tree hne)
  have hzl : (strB l).size = k0 := by rw [strB_size, hln]
  have hzu : (strB u).size = k1 := by rw [strB_size, hun]
  have HL := keepHid hln
  have HU := keepHid hun
  rw [hn0] at h0
  rw [hn1] at h1
  have hw0 : IntKind.i64.wrap ((n0 : Int) + 1) = (n0 : Int) + 1 := IntWalk.i64_in _ (by omega)
  clear e0 e1 hn0 hn1 hq64 hln hun hne
  go_enter Try.func3, Try.ntmps3
  go_wp2_with fail
  with_reducible refine HAW.out.mono ?_
  rintro e w1 ⟨rfl, hb1⟩
  have HB1 := keepHid hb1
  clear hb1 HAW
  go_wp2_with fail
  refine wp_region_quiet_below (by kernel_rfl) (by kernel_rfl) ?_
  repeat (go_big_quiet_step (fail))
  refine wpQuiet_nil ?_
  intro _ hw'
  obtain ⟨⟨dq, osq⟩, hw''⟩ := hw'
  subst hw''
  obtain ⟨w2, hw2⟩ : ∃ w2, Sort.grow (redrawn w1 dq) osq = w2 := ⟨_, rfl⟩
  have HB2 : Hid (Below w.heap.size w w2) := keepHid (by rw [← hw2]; exact HB1.out.trans ((below_regrown w1 dq osq).mono HB1.out.size))
  rw [hw2]
  clear hw2 q0 q1 hcut0 hcut1 hsz0 hsz1 hadd hw0
  go_wp2_with fail
  with_reducible refine (HQ.out w2).mono ?_
  rintro e w3 ⟨rfl, hb3⟩
  have HB3 := keepHid (HB2.out.trans (hb3.mono HB2.out.size))
  obtain ⟨w4, hw4⟩ : ∃ w4, w3.alloc (.cells #[.string (strB (quo l))] 9) = w4 := ⟨_, rfl⟩
  obtain ⟨hs4, hb4⟩ := sl_one9 rfl hw4
  have HB4 := keepHid (HB3.out.trans (hb4.mono HB3.out.size))
  have HO := keepHid (ofw_any (c := 1) [quo l] hs4)
  clear hb3 hs4 hb4 HQ
  go_wp2_with fail
  with_reducible refine HO.out.mono ?_
  rintro e w5 ⟨hb5, hc⟩
  rcases hc with ⟨h, _⟩ | ⟨_, _, ⟨rs, g, A, cap, hof, rfl, hg, hw⟩ | ⟨x, v, hof, _⟩⟩
  · simp at h
  · rw [HOF.out] at hof
    injection hof with hof
    subst hof
    have HB5 := keepHid (HB4.out.trans (hb5.mono HB4.out.size))
    have HG : Hid (w.heap.size ≤ g) := keepHid (Nat.le_trans HB4.out.size hg)
    have HWAT : Hid (Wat w5 w5.heap.size w5.heap.size g [auOf (treeOf l)] (u.take 0)) := keepHid (by rw [List.take_zero]; exact hw.wat (Nat.le_refl _) (Nat.le_refl _))
    generalize w5.heap.size = H at *
    clear hb5 hg hw hw4 HO
    unfold ptrV
    go_wp2_with fail
    go_loopw [7, 8] (fun o i wr => ∃ j : Nat, j ≤ k1 ∧ i = .int .i64 j ∧ Hid (Below w.heap.size w wr) ∧ ((o = .bool false ∧ Hid (Wat wr H H g [auOf (treeOf l)] (u.take j))) ∨ (o = .bool true ∧ ∃ n, Hid (Wov wr g n)))) (fun _ i _ => k1 - (intOf i).toNat)
    case atStart => exact ⟨0, Nat.zero_le _, rfl, HB5, .inl ⟨rfl, HWAT⟩⟩
    case round =>
      obtain ⟨j, hj, rfl, HB, hst⟩ := hrel
      rcases Nat.lt_or_ge j k1 with hlt | hge
      · obtain ⟨c, hc⟩ : ∃ c, u[j]? = some c := ⟨_, List.getElem?_eq_getElem (by rw [HU.out]; exact hlt)⟩
        have hix := run_idx hc (j : Int) rfl
        have hji : (j : Int) < (k1 : Int) := by omega
        rcases hst with ⟨rfl, HW⟩ | ⟨rfl, n, HV⟩
        · have HTK : Hid (u.take j ++ [c] = u.take (j + 1)) := keepHid (List.take_succ_of hc).symm
          have HP := keepHid (put_wait HW.out c (by rw [List.length_take]; omega))
          rw [HTK.out] at HP
          have hlen : (u.take (j + 1)).length = j + 1 := by rw [List.length_take, HU.out]; omega
          clear hc
          go_wp2_with fail
          with_reducible refine HP.out.mono ?_
          rintro e w6 ⟨hcase, ht6⟩
          have HB6 := keepHid (HB.out.trans (ht6.below (B := w.heap.size) (fun b e => by rw [e]; exact HG.out) HB.out.size))
          rw [arm_one] at hcase
          clear ht6
          rcases Nat.lt_or_ge (j + 1) k0 with hsh | hlo
          · have hEE : endA (auOf (treeOf l)) (u.take (j + 1)) = false := by
              rw [Bool.eq_false_iff]
              intro e
              have := (HEN.out _).1 e
              rw [hlen, HL.out] at this
              omega
            rw [hEE] at hcase
            rcases hcase with ⟨i, ha, _⟩ | ⟨ha, rfl, hw6⟩
            · simp at ha
            · have HV := keepHid hw6
              have i1 : ¬ (k0 : Int) ≤ (j : Int) + 1 := by omega
              clear hw6 ha hEE hlen
              go_wp2
              go_roundw
              case rel => exact ⟨j + 1, by omega, by go_num, HB6, .inl ⟨rfl, HV⟩⟩
              case measure => simp [intOf]; omega
          · have hEE : endA (auOf (treeOf l)) (u.take (j + 1)) = decide (mid u (j + 1 - k0) (j + 1) = l) := by
              rw [Bool.eq_iff_iff, HEN.out, hlen, HL.out]
              unfold mid
              simp
              omega
            have hsl := fun W => run_mid (l := u) (i := j + 1 - k0) (j := j + 1) (by omega) (by rw [HU.out]; omega) ((j : Int) + 1 - (k0 : Int)) ((j : Int) + 1) (by omega) (by omega) W
            have hbq := strB_beq (mid u (j + 1 - k0) (j + 1)) l
            have i1 : (k0 : Int) ≤ (j : Int) + 1 := by omega
            obtain ⟨R, hR⟩ : ∃ R, decide (mid u (j + 1 - k0) (j + 1) = l) = R := ⟨_, rfl⟩
            rw [hR] at hbq hEE
            rw [hEE] at hcase
            clear hEE hR
            rcases hcase with ⟨i, ha, rfl, hv⟩ | ⟨ha, rfl, hw6⟩
            · have hR : R = true := by cases R <;> simp at ha ⊢
              subst hR
              rw [hlen] at hv
              have HV := keepHid hv
              clear hv ha hlen
              go_wp2
              go_roundw
              case rel => exact ⟨j + 1, by omega, by go_num, HB6, .inr ⟨rfl, _, HV⟩⟩
              case measure => simp [intOf]; omega
            · have hR : R = false := by cases R <;> simp at ha ⊢
              subst hR
              have HV := keepHid hw6
              clear hw6 ha hlen
              go_wp2
              go_roundw
              case rel => exact ⟨j + 1, by omega, by go_num, HB6, .inl ⟨rfl, HV⟩⟩
              case measure => simp [intOf]; omega
        · have HP := keepHid (put_over HV.out (c.toNat : Int))
          clear hc
          go_wp2_with fail
          with_reducible refine HP.out.mono ?_
          rintro e w' ⟨rfl, rfl⟩
          go_wp2
          go_roundw
          case rel => exact ⟨j + 1, by omega, by go_num, HB, .inr ⟨rfl, n, HV⟩⟩
          case measure => simp [intOf]; omega
      · have hji : ¬ (j : Int) < (k1 : Int) := by omega
        rcases hst with ⟨rfl, HW⟩ | ⟨rfl, n, HV⟩
        · have HOV := keepHid (over_any HW.out.cells)
          go_wp2_with fail
          with_reducible refine HOV.out.mono ?_
          rintro e w' ⟨rfl, rfl⟩
          go_wp2
          go_ret
          exact ⟨rfl, HB.out⟩
        · have HOV := keepHid (over_any HV.out.cells)
          go_wp2_with fail
          with_reducible refine HOV.out.mono ?_
          rintro e w' ⟨rfl, rfl⟩
          go_wp2
          go_ret
          exact ⟨rfl, HB.out⟩
  · rw [HOF.out] at hof; cases hof

set_option maxRecDepth 100000 in
theorem lifted (os : Os) (started : os.Started) (H : Type) (enc : TypeId × Value → H) :
    ReturnsInHanded {} Try.checked os 3 .any (Rows.expectQuotedSpec.pre6 enc Try.prog Try.f3 Rows.expectQuotedRow.domain false) (Rows.expectQuotedSpec.post enc Try.prog Try.f3 false true false false) := by
  refine returnsInHanded_of_change_sized (C := Try.checked) own started (by kernel_rfl) Try.func3
    (ChangeSpec.witness6 (enc := enc) (C := Try.checked) false ⟨#[], #[.string ⟨#[]⟩, .string ⟨#[]⟩], []⟩ 8 (by kernel_rfl) (by kernel_rfl) (by kernel_rfl) (by kernel_rfl)) ?_
  intro W base args ds gs before hval0 hW hcnd hsz0 _
  have hsz : (DataW.weightsEach Try.prog (Try.f3.params.toList ++ Rows.expectQuotedSpec.plain.varTypes Try.prog) (ds ++ gs)).all (· ≤ reachBytes) = true := hsz0
  clear hsz0
  have hval : ∀ (j : Nat) t v, Try.f3.params[j]? = some t → args[j]? = some v → Value.okWide Try.prog W .any base t v := hval0
  have hW' := hW
  obtain ⟨p, q, hA0, hV, rfl, hfz, hnd⟩ := hW
  have hA : DataW.TrodAll enc Try.prog W 0 (fun _ => true) true Try.f3.params.toList args.toList ds p := hA0
  rw [Try.params3] at hA hval hsz
  obtain ⟨v0, vs0, d0, ds0, p0, q0, hargs, rfl, rfl, h0, r0⟩ := trodAll_cons hA
  obtain ⟨v1, vs1, d1, ds1, p1, q1, rfl, rfl, rfl, h1, r1⟩ := trodAll_cons r0
  obtain ⟨rfl, rfl, rfl⟩ := trodAll_nil r1
  obtain rfl : args = #[v0, v1] := by cases args; simp_all
  obtain ⟨rfl, rfl⟩ := trodVars_none hV
  have k0 := h0
  have lt0 : ∀ x ∈ p0, x.block < W.heap.size := by obtain ⟨m, hm⟩ := k0; exact DataW.trod_lt m _ _ _ hm
  have k1 := h1
  have lt1 : ∀ x ∈ p1, x.block < W.heap.size := by obtain ⟨m, hm⟩ := k1; exact DataW.trod_lt m _ _ _ hm
  obtain ⟨x0, rfl, rfl, rfl, _⟩ := open_string Try.underlying9 (hval 0 9 v0 rfl rfl) h0
  have w0 : x0.size ≤ 140737488351232 := by have := sized_string hsz (j := 0) (t := 9) rfl rfl; simpa [reachBytes] using this
  obtain ⟨x1, rfl, rfl, rfl, _⟩ := open_string Try.underlying9 (hval 1 9 v1 rfl rfl) h1
  have w1 : x1.size ≤ 140737488351232 := by have := sized_string hsz (j := 1) (t := 9) rfl rfl; simpa [reachBytes] using this
  clear hA0 hval0
  refine (walk x0 x1 W w0 w1).mono fun e W' ⟨he, bel⟩ => ?_
  subst he
  exact ⟨_, rfl, _, _, _, [], _, [], hW', trodAll_mk1 (shut_bool Try.underlying4 _), (trodAll_cons_mk (Below.trod laidOut (by kernel_rfl) (of_decide_eq_true (by kernel_rfl)) k0 bel lt0) (trodAll_cons_mk (Below.trod laidOut (by kernel_rfl) (of_decide_eq_true (by kernel_rfl)) k1 bel lt1) trodAll_mk0)), rfl, bel.frame _, fun h => by cases h⟩

theorem over : Rows.expectQuotedRow.holds Try.pinned (OpenSpec.ofChange Rows.expectQuotedSpec) :=
  OpenClaim.holds_of_wide 3 Try.f3 rfl rfl rfl rfl rfl rfl rfl ⟨rfl, rfl, rfl, rfl, rfl⟩ rfl rfl rfl rfl rfl (by kernel_rfl) Try.func3 (by kernel_rfl)
    (of_decide_eq_true (by kernel_rfl)) (by unfold Func.isWrapper; first | (rw [if_pos (by decide +kernel)]; kernel_rfl) | (rw [if_neg (by decide +kernel)]; exact ⟨rfl, rfl⟩))
    (fun os started H enc _ => lifted os started H enc)

theorem proved : Rows.ExpectQuotedSaid := over
end Go.Proofs.Ytgidoieppplhpaa.expectQuoted
