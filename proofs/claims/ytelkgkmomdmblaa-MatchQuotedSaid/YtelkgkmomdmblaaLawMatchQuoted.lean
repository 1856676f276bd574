/-
  'lifelinelaw08.MatchQuoted' answers true for every input, and leaves its arguments as they were.
  Conditions: none but what the row itself says of its arguments (how much memory each may take).
-/
import Derived.Test.YtelkgkmomdmblaaRows
import Derived.Test.YtelkgkmomdmblaaMatchKit
import Derived.Test.YtelkgkmomdmblaaNfaTree
import Derived.Test.YtelkgkmomdmblaaRegexQuoted
import Derived.LoopTactic
import Derived.Deep.DeepCutAuto
import Derived.Lib.QuietBelow
import Derived.Test.YtelkgkmomdmblaaFrame
import Derived.WalkKit
import Derived.ProofKit
import Derived.OpenShut
import Derived.ShutString
import Derived.ChangeOld
import Derived.Below
namespace Go.Proofs.Ytelkgkmomdmblaa.matchQuoted
open Go.ChangeShapes Go.WideShapes Go.ChangeAt Go.RowKit
open Go.ChangeMaps (open_string shut_string)
set_option linter.unusedVariables false

theorem own : ownKnob Try.prog.godebug = none := by kernel_rfl
theorem laidOut : laidOutB Try.prog = true := by kernel_rfl

theorem q_hit {l u : List UInt8} {k : Nat} (hk : k ≤ u.length) : hitB (treeOf l) u k = true ↔ ∃ i, i + l.length = k ∧ mid u i k = l := by
  rw [hit_iff]
  constructor
  · rintro ⟨i, hi, h⟩
    rw [mt_tree] at h
    have := mid_len (s := u) (f := i) (k := k) hk
    rw [h] at this
    exact ⟨i, by omega, h⟩
  · rintro ⟨i, hi, h⟩
    exact ⟨i, by omega, (mt_tree _ _).2 h⟩
theorem q_first {l u : List UInt8} {i : Nat} (hi : i + l.length ≤ u.length) (h : mid u i (i + l.length) = l) (hno : ∀ j, j < i → ¬ (j + l.length ≤ u.length ∧ mid u j (j + l.length) = l)) : firstL (treeOf l) u = (i + l.length, true) := by
  refine first_hit hi ((q_hit hi).2 ⟨i, rfl, h⟩) (fun k hk => ?_)
  rw [Bool.eq_false_iff]
  intro e
  obtain ⟨j, rfl, h2⟩ := (q_hit (by omega)).1 e
  exact hno j (by omega) ⟨by omega, h2⟩
theorem q_none {l u : List UInt8} (hno : ∀ j, ¬ (j + l.length ≤ u.length ∧ mid u j (j + l.length) = l)) : firstL (treeOf l) u = (0, false) := by
  refine first_none (fun k hk => ?_)
  rw [Bool.eq_false_iff]
  intro e
  obtain ⟨j, rfl, h2⟩ := (q_hit hk).1 e
  exact hno j ⟨hk, h2⟩
set_option maxRecDepth 100000 in
set_option maxHeartbeats 4000000 in
theorem walk (x0 : ByteArray) (x1 : ByteArray) (w : World) (h0 : x0.size ≤ 140737488351232) (h1 : x1.size ≤ 140737488351232) :
    Calls Try.prog 7 #[.string x0, .string x1] w fun e w' => e = .returned (.bool true) ∧ Below w.heap.size w w' := by
  obtain ⟨l0, rfl⟩ : ∃ b, x0 = strB b := ⟨x0.data.toList, by cases x0; rfl⟩
  obtain ⟨u0, rfl⟩ : ∃ b, x1 = strB b := ⟨x1.data.toList, by cases x1; rfl⟩
  rw [strB_size] at h0 h1
  obtain ⟨n0, hn0⟩ : ∃ n, l0.length = n := ⟨_, rfl⟩
  obtain ⟨n1, hn1⟩ : ∃ n, u0.length = n := ⟨_, rfl⟩
  obtain ⟨k0, e0⟩ : ∃ k : Nat, min (n0 : Int) 20 = (k : Int) := ⟨min n0 20, by omega⟩
  obtain ⟨k1, e1⟩ : ∃ k : Nat, min (n1 : Int) 300 = (k : Int) := ⟨min n1 300, by omega⟩
  have hk0 : k0 ≤ n0 := by omega
  have hk1 : k1 ≤ n1 := by omega
  have hsz0 : (strB l0).size = n0 := by rw [strB_size, hn0]
  have hsz1 : (strB u0).size = n1 := by rw [strB_size, hn1]
  have q0 := fun W ts t => min_i ts t n0 20 k0 e0 W
  have q1 := fun W ts t => min_i ts t n1 300 k1 e1 W
  have hcut0 := run_head (l := l0) (k := k0) (by omega) (k0 : Int) rfl
  have hcut1 := run_head (l := u0) (k := k1) (by omega) (k1 : Int) rfl
  have HAW := keepHid (awake8_any w)
  have hln : (l0.take k0).length = k0 := by rw [List.length_take]; omega
  have hun : (u0.take k1).length = k1 := by rw [List.length_take]; omega
  generalize l0.take k0 = l at *
  generalize u0.take k1 = u at *
  have hk20 : k0 ≤ 20 := by omega
  have hk300 : k1 ≤ 300 := by omega
  have hq64 : (quo l).length ≤ 64 := by have := quo_len l; omega
  have HQ := keepHid (fun w' => quote_any l w' (by omega))
  have HP := keepHid (fun w' => parse_any (quo l) w')
  have HPP := keepHid (fun w w' e (p : ParsePost (quo l) w e w') => parse_pat (quo_parse l hq64) p hq64)
  have hzl : (strB l).size = k0 := by rw [strB_size, hln]
  have hzu : (strB u).size = k1 := by rw [strB_size, hun]
  have HL := keepHid hln
  have HU := keepHid hun
  clear h0 h1 e0 e1 hn0 hn1 hq64 hln hun
  go_enter Try.func7, Try.ntmps7
  go_wp2_with fail
  with_reducible refine HAW.out.mono ?_
  rintro e w1 ⟨rfl, hb1⟩
  have HB1 := keepHid hb1
  clear hb1 HAW
  go_wp2_with fail
  refine wp_region_quiet_below (by kernel_rfl) (by kernel_rfl) ?_
  repeat (go_big_quiet_step (fail))
  refine wpQuiet_nil ?_
  intro _ hw'
  obtain ⟨⟨dq, osq⟩, hw''⟩ := hw'
  subst hw''
  obtain ⟨w2, hw2⟩ : ∃ w2, Sort.grow (redrawn w1 dq) osq = w2 := ⟨_, rfl⟩
  have HB2 : Hid (Below w.heap.size w w2) := keepHid (by rw [← hw2]; exact HB1.out.trans ((below_regrown w1 dq osq).mono HB1.out.size))
  rw [hw2]
  clear hw2 q0 q1 hcut0 hcut1 hsz0 hsz1
  go_wp2_with fail
  with_reducible refine (HQ.out w2).mono ?_
  rintro e w3 ⟨rfl, hb3⟩
  have HB3 := keepHid (HB2.out.trans (hb3.mono HB2.out.size))
  clear hb3
  go_wp2_with fail
  with_reducible refine (HP.out w3).mono ?_
  rintro e w4 hp
  obtain ⟨h, rfl, hi4, hb4⟩ := HPP.out _ _ _ hp
  obtain ⟨w5, hw5⟩ : ∃ w5, w4.alloc (.cells (hdC h) 31) = w5 := ⟨_, rfl⟩
  obtain ⟨hi5, hb5, hk5⟩ := node_var hi4 hw5
  have HB5 := keepHid (HB3.out.trans ((hb4.trans (hb5.mono hb4.size)).mono HB3.out.size))
  have HF := keepHid (first_any u hi5 (by rw [HU.out]; omega))
  unfold FirstPost at HF
  have HW5 := keepHid hw5
  unfold hdC at hk5 HW5
  obtain ⟨m0, m1, m2, m3, m4, m5, mf⟩ := blk6 hk5
  clear hp hi4 hb4 hi5 hb5 hk5 hw5 HQ HP HPP
  unfold hdV at *
  go_upto_region 5 with fail
  rw [HW5.out]
  go_wp2_with fail
  with_reducible refine HF.out.mono ?_
  rintro e w6 ⟨rfl, hb6⟩
  have HB6 := keepHid (HB5.out.trans (hb6.mono HB5.out.size))
  obtain ⟨K, hK⟩ : ∃ K, firstL (treeOf l) u = K := ⟨_, rfl⟩
  have HKK := keepHid hK
  rw [hK]
  clear hb6 m0 m1 m2 m3 m4 m5 mf HF HW5 hK
  go_wp2_with fail
  go_loop [9, 10, 11] (fun v b i => ∃ j : Nat, j ≤ k1 + 1 ∧ i = .int .i64 j ∧ ((v = .int .i64 0 ∧ b = .bool false ∧ Hid (∀ p, p < j → ¬ (p + l.length ≤ u.length ∧ mid u p (p + l.length) = l))) ∨ (∃ q : Nat, v = .int .i64 q ∧ b = .bool true ∧ Hid (K = (q, true))))) (fun _ _ i => k1 + 1 - (intOf i).toNat)
  case atStart => exact ⟨0, Nat.zero_le _, rfl, .inl ⟨rfl, rfl, keepHid (fun p hp => by omega)⟩⟩
  case round =>
    obtain ⟨j, hj, rfl, hst⟩ := hrel
    rcases hst with ⟨rfl, rfl, HNO⟩ | ⟨q, rfl, rfl, HFF⟩
    · rcases Nat.lt_or_ge k1 (j + k0) with hgt | hle
      · have hji : ¬ (j : Int) + (k0 : Int) ≤ (k1 : Int) := by omega
        have HFF : Hid (K = (0, false)) := keepHid (by
          rw [← HKK.out]
          refine q_none (fun p hp => ?_)
          rcases Nat.lt_or_ge p j with h | h
          · exact HNO.out p h hp
          · have := HL.out; have := HU.out; have := hp.1; omega)
        have hKe := HFF.out
        subst hKe
        go_wp2
        go_ret
        exact ⟨rfl, HB6.out⟩
      · have hji : (j : Int) + (k0 : Int) ≤ (k1 : Int) := by omega
        have hsl := fun W => run_mid (l := u) (i := j) (j := j + k0) (by omega) (by rw [HU.out]; exact hle) (j : Int) ((j : Int) + (k0 : Int)) rfl (by omega) W
        have hbq := strB_beq (mid u j (j + k0)) l
        obtain ⟨R, hR⟩ : ∃ R, decide (mid u j (j + k0) = l) = R := ⟨_, rfl⟩
        rw [hR] at hbq
        have HR := keepHid hR
        clear hR
        cases R
        · have HN2 : Hid (∀ p, p < j + 1 → ¬ (p + l.length ≤ u.length ∧ mid u p (p + l.length) = l)) := keepHid (fun p hp hh => by
            rcases Nat.lt_or_ge p j with h | h
            · exact HNO.out p h hh
            · have e : p = j := by omega
              subst e
              rw [HL.out] at hh
              exact of_decide_eq_false HR.out hh.2)
          go_wp2
          go_round
          case rel => exact ⟨j + 1, by omega, by go_num, .inl ⟨rfl, rfl, HN2⟩⟩
          case measure => simp [intOf]; omega
        · have HFF : Hid (K = (j + k0, true)) := keepHid (by
            rw [← HKK.out]
            have := q_first (l := l) (u := u) (i := j) (by rw [HL.out, HU.out]; exact hle) (by rw [HL.out]; exact of_decide_eq_true HR.out) HNO.out
            rw [this, HL.out])
          go_wp2
          go_round
          case rel => exact ⟨j + 1, by omega, by go_num, .inr ⟨j + k0, by go_num, rfl, HFF⟩⟩
          case measure => simp [intOf]; omega
    · have hKe := HFF.out
      subst hKe
      rcases Nat.lt_or_ge k1 (j + k0) with hgt | hle
      · have hji : ¬ (j : Int) + (k0 : Int) ≤ (k1 : Int) := by omega
        go_wp2
        go_ret
        exact ⟨rfl, HB6.out⟩
      · have hji : (j : Int) + (k0 : Int) ≤ (k1 : Int) := by omega
        go_wp2
        go_ret
        exact ⟨rfl, HB6.out⟩

set_option maxRecDepth 100000 in
theorem lifted (os : Os) (started : os.Started) (H : Type) (enc : TypeId × Value → H) :
    ReturnsInHanded {} Try.checked os 7 .any (Rows.matchQuotedSpec.pre6 enc Try.prog Try.f7 Rows.matchQuotedRow.domain false) (Rows.matchQuotedSpec.post enc Try.prog Try.f7 false true false false) := by
  refine returnsInHanded_of_change_sized (C := Try.checked) own started (by kernel_rfl) Try.func7
    (ChangeSpec.witness6 (enc := enc) (C := Try.checked) false ⟨#[], #[.string ⟨#[]⟩, .string ⟨#[]⟩], []⟩ 8 (by kernel_rfl) (by kernel_rfl) (by kernel_rfl) (by kernel_rfl)) ?_
  intro W base args ds gs before hval0 hW hcnd hsz0 _
  have hsz : (DataW.weightsEach Try.prog (Try.f7.params.toList ++ Rows.matchQuotedSpec.plain.varTypes Try.prog) (ds ++ gs)).all (· ≤ reachBytes) = true := hsz0
  clear hsz0
  have hval : ∀ (j : Nat) t v, Try.f7.params[j]? = some t → args[j]? = some v → Value.okWide Try.prog W .any base t v := hval0
  have hW' := hW
  obtain ⟨p, q, hA0, hV, rfl, hfz, hnd⟩ := hW
  have hA : DataW.TrodAll enc Try.prog W 0 (fun _ => true) true Try.f7.params.toList args.toList ds p := hA0
  rw [Try.params7] at hA hval hsz
  obtain ⟨v0, vs0, d0, ds0, p0, q0, hargs, rfl, rfl, h0, r0⟩ := trodAll_cons hA
  obtain ⟨v1, vs1, d1, ds1, p1, q1, rfl, rfl, rfl, h1, r1⟩ := trodAll_cons r0
  obtain ⟨rfl, rfl, rfl⟩ := trodAll_nil r1
  obtain rfl : args = #[v0, v1] := by cases args; simp_all
  obtain ⟨rfl, rfl⟩ := trodVars_none hV
  have k0 := h0
  have lt0 : ∀ x ∈ p0, x.block < W.heap.size := by obtain ⟨m, hm⟩ := k0; exact DataW.trod_lt m _ _ _ hm
  have k1 := h1
  have lt1 : ∀ x ∈ p1, x.block < W.heap.size := by obtain ⟨m, hm⟩ := k1; exact DataW.trod_lt m _ _ _ hm
  obtain ⟨x0, rfl, rfl, rfl, _⟩ := open_string Try.underlying9 (hval 0 9 v0 rfl rfl) h0
  have w0 : x0.size ≤ 140737488351232 := by have := sized_string hsz (j := 0) (t := 9) rfl rfl; simpa [reachBytes] using this
  obtain ⟨x1, rfl, rfl, rfl, _⟩ := open_string Try.underlying9 (hval 1 9 v1 rfl rfl) h1
  have w1 : x1.size ≤ 140737488351232 := by have := sized_string hsz (j := 1) (t := 9) rfl rfl; simpa [reachBytes] using this
  clear hA0 hval0
  refine (walk x0 x1 W w0 w1).mono fun e W' ⟨he, bel⟩ => ?_
  subst he
  exact ⟨_, rfl, _, _, _, [], _, [], hW', trodAll_mk1 (shut_bool Try.underlying4 _), (trodAll_cons_mk (Below.trod laidOut (by kernel_rfl) (of_decide_eq_true (by kernel_rfl)) k0 bel lt0) (trodAll_cons_mk (Below.trod laidOut (by kernel_rfl) (of_decide_eq_true (by kernel_rfl)) k1 bel lt1) trodAll_mk0)), rfl, bel.frame _, fun h => by cases h⟩

theorem over : Rows.matchQuotedRow.holds Try.pinned (OpenSpec.ofChange Rows.matchQuotedSpec) :=
  OpenClaim.holds_of_wide 7 Try.f7 rfl rfl rfl rfl rfl rfl rfl ⟨rfl, rfl, rfl, rfl, rfl⟩ rfl rfl rfl rfl rfl (by kernel_rfl) Try.func7 (by kernel_rfl)
    (of_decide_eq_true (by kernel_rfl)) (by unfold Func.isWrapper; first | (rw [if_pos (by decide +kernel)]; kernel_rfl) | (rw [if_neg (by decide +kernel)]; exact ⟨rfl, rfl⟩))
    (fun os started H enc _ => lifted os started H enc)

theorem proved : Rows.MatchQuotedSaid := over
end Go.Proofs.Ytelkgkmomdmblaa.matchQuoted
