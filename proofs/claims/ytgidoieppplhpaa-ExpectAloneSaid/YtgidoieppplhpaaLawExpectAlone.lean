/-
  'lifelinelaw09.ExpectAlone' answers true for every input, and leaves its arguments as they were.
  Conditions: none but what the row itself says of its arguments (how much memory each may take).
-/
import Derived.Test.YtgidoieppplhpaaRows
import Derived.Test.YtgidoieppplhpaaExpectQuo
import Derived.Test.YtgidoieppplhpaaMatchKit
import Derived.LoopTactic
import Derived.Deep.DeepCutAuto
import Derived.Lib.QuietBelow
import Derived.Test.YtgidoieppplhpaaFrame
import Derived.Test.YtgidoieppplhpaaFrame
import Derived.WalkKit
import Derived.ProofKit
import Derived.OpenShut
import Derived.ShutString
import Derived.ChangeOld
import Derived.Below
namespace Go.Proofs.Ytgidoieppplhpaa.expectAlone
open Go.ChangeShapes Go.WideShapes Go.ChangeAt Go.RowKit
open Go.ChangeMaps (open_string shut_string)
set_option linter.unusedVariables false

theorem own : ownKnob Try.prog.godebug = none := by kernel_rfl
theorem laidOut : laidOutB Try.prog = true := by kernel_rfl

theorem of9_two {a b : List UInt8} (ha : a ≠ []) (hb : b ≠ []) (la : (quo a).length ≤ 64) (lb : (quo b).length ≤ 64) : of9 [quo a, quo b] = .inl [treeOf a, treeOf b] := by simp [of9, pat9_quo ha la, pat9_quo hb lb]
theorem sl_two9 {w w1 : World} {g : Nat} (hg : g = w.heap.size) {l m : List UInt8} (hw : w.alloc (.cells #[.string (strB l), .string (strB m)] 9) = w1) : Sl strV w1 (some ⟨g, 0, none⟩) 2 [l, m] ∧ Below w.heap.size w w1 := by
  subst hg hw
  exact ⟨Sl.of_blk (xs := [l, m]) (Blk.new _ _ _) rfl (by decide), (Below.refl _ _).alloc (Nat.le_refl _) _⟩
theorem arm_two (A B : Au) (t : List UInt8) : armA [A, B] t = if endA A t then some 0 else if endA B t then some 1 else none := by
  unfold armA
  cases endA A t
  · rw [arm_one]
    cases endA B t <;> rfl
  · rfl
/-- What a Watch of one pattern answers. -/
theorem one_case {A : Au} {t : List UInt8} {H B g : Nat} {w' : World} {e : Ending} (h : (∃ i, armA [A] t = some i ∧ e = .returned (.tuple #[.int .i64 (i : Int), .bool true]) ∧ Wov w' g t.length) ∨ (armA [A] t = none ∧ e = .returned (.tuple #[.int .i64 0, .bool false]) ∧ Wat w' H B g [A] t)) :
    ∃ b, e = .returned (.tuple #[.int .i64 0, .bool b]) ∧ Hid (b = endA A t ∧ (b = false → Wat w' H B g [A] t)) := by
  rw [arm_one] at h
  rcases h with ⟨i, ha, rfl, _⟩ | ⟨ha, rfl, hw⟩
  · cases hE : endA A t
    · rw [hE] at ha; simp at ha
    · rw [hE] at ha
      simp at ha
      subst ha
      exact ⟨true, rfl, keepHid ⟨rfl, fun h => by cases h⟩⟩
  · cases hE : endA A t
    · exact ⟨false, rfl, keepHid ⟨rfl, fun _ => hw⟩⟩
    · rw [hE] at ha; simp at ha
/-- .. of two patterns. -/
theorem two_case {A C : Au} {t : List UInt8} {H B g : Nat} {w' : World} {e : Ending} (h : (∃ i, armA [A, C] t = some i ∧ e = .returned (.tuple #[.int .i64 (i : Int), .bool true]) ∧ Wov w' g t.length) ∨ (armA [A, C] t = none ∧ e = .returned (.tuple #[.int .i64 0, .bool false]) ∧ Wat w' H B g [A, C] t)) :
    (endA A t = true ∧ e = .returned (.tuple #[.int .i64 0, .bool true]) ∧ Wov w' g t.length) ∨ (endA A t = false ∧ endA C t = true ∧ e = .returned (.tuple #[.int .i64 1, .bool true]) ∧ Wov w' g t.length) ∨ (endA A t = false ∧ endA C t = false ∧ e = .returned (.tuple #[.int .i64 0, .bool false]) ∧ Wat w' H B g [A, C] t) := by
  rw [arm_two] at h
  cases hA : endA A t <;> cases hC : endA C t <;> rw [hA, hC] at h <;> simp at h <;> first | (obtain ⟨rfl, hv⟩ := h; simp [hv]) | (obtain ⟨rfl, hv⟩ := h; exact .inr (.inr ⟨rfl, rfl, rfl, hv⟩)) | (simp [h])
set_option maxRecDepth 100000 in
set_option maxHeartbeats 4000000 in
theorem walk (x0 : ByteArray) (x1 : ByteArray) (x2 : ByteArray) (w : World) (h0 : x0.size ≤ 140737488351232) (h1 : x1.size ≤ 140737488351232) (h2 : x2.size ≤ 140737488351232) :
    Calls Try.prog 4 #[.string x0, .string x1, .string x2] w fun e w' => e = .returned (.bool true) ∧ Below w.heap.size w w' := by
  obtain ⟨a0, rfl⟩ : ∃ b, x0 = strB b := ⟨x0.data.toList, by cases x0; rfl⟩
  obtain ⟨b0, rfl⟩ : ∃ b, x1 = strB b := ⟨x1.data.toList, by cases x1; rfl⟩
  obtain ⟨u, rfl⟩ : ∃ b, x2 = strB b := ⟨x2.data.toList, by cases x2; rfl⟩
  rw [strB_size] at h0 h1 h2
  obtain ⟨n0, hn0⟩ : ∃ n, a0.length = n := ⟨_, rfl⟩
  obtain ⟨n1, hn1⟩ : ∃ n, b0.length = n := ⟨_, rfl⟩
  obtain ⟨k2, hn2⟩ : ∃ n, u.length = n := ⟨_, rfl⟩
  obtain ⟨k0, e0⟩ : ∃ k : Nat, min ((n0 : Int) + 1) 9 = (k : Int) := ⟨min (n0 + 1) 9, by omega⟩
  obtain ⟨k1, e1⟩ : ∃ k : Nat, min ((n1 : Int) + 1) 9 = (k : Int) := ⟨min (n1 + 1) 9, by omega⟩
  have hk0 : k0 ≤ n0 + 1 := by omega
  have hk1 : k1 ≤ n1 + 1 := by omega
  have hk01 : 1 ≤ k0 := by omega
  have hk11 : 1 ≤ k1 := by omega
  have hk09 : k0 ≤ 9 := by omega
  have hk19 : k1 ≤ 9 := by omega
  have hadd0 := run_addx a0 120 h0
  have hadd1 := run_addx b0 121 h1
  have q0 := fun W ts t => min_s ts t n0 9 k0 e0 W
  have q1 := fun W ts t => min_s ts t n1 9 k1 e1 W
  have hcut0 := run_head (l := a0 ++ [120]) (k := k0) (by simp; omega) (k0 : Int) rfl
  have hcut1 := run_head (l := b0 ++ [121]) (k := k1) (by simp; omega) (k1 : Int) rfl
  have hln0 : ((a0 ++ [120]).take k0).length = k0 := by rw [List.length_take, List.length_append]; simp; omega
  have hln1 : ((b0 ++ [121]).take k1).length = k1 := by rw [List.length_take, List.length_append]; simp; omega
  have hsz0 : (strB a0).size = n0 := by rw [strB_size, hn0]
  have hsz1 : (strB b0).size = n1 := by rw [strB_size, hn1]
  have hsz2 : (strB u).size = k2 := by rw [strB_size, hn2]
  have HAW := keepHid (awake9_any w)
  generalize hml0 : (a0 ++ [120]).take k0 = a at *
  generalize hml1 : (b0 ++ [121]).take k1 = b at *
  clear hml0 hml1
  have hq0 : (quo a).length ≤ 64 := by have := quo_len a; omega
  have hq1 : (quo b).length ≤ 64 := by have := quo_len b; omega
  have hne0 : a ≠ [] := by intro e; subst e; simp at hln0; omega
  have hne1 : b ≠ [] := by intro e; subst e; simp at hln1; omega
  have HQ0 := keepHid (fun w' => quote_any a w' (by omega))
  have HQ1 := keepHid (fun w' => quote_any b w' (by omega))
  have HOF0 := keepHid (of9_quo hne0 hq0)
  have HOF1 := keepHid (of9_quo hne1 hq1)
  have HOF2 := keepHid (of9_two hne0 hne1 hq0 hq1)
  have HU := keepHid hn2
  rw [hn0] at h0
  rw [hn1] at h1
  rw [hn2] at h2
  have hw0 : IntKind.i64.wrap ((n0 : Int) + 1) = (n0 : Int) + 1 := IntWalk.i64_in _ (by omega)
  have hw1 : IntKind.i64.wrap ((n1 : Int) + 1) = (n1 : Int) + 1 := IntWalk.i64_in _ (by omega)
  have hz0 : (strB (a0 ++ [120])).size = n0 + 1 := by rw [strB_size, List.length_append, hn0]; rfl
  have hz1 : (strB (b0 ++ [121])).size = n1 + 1 := by rw [strB_size, List.length_append, hn1]; rfl
  clear e0 e1 hn0 hn1 hn2 hq0 hq1 hln0 hln1 hne0 hne1
  go_enter Try.func4, Try.ntmps4
  go_wp2_with fail
  with_reducible refine HAW.out.mono ?_
  rintro e w1 ⟨rfl, hb1⟩
  have HB1 := keepHid hb1
  clear hb1 HAW
  go_wp2_with fail
  refine wp_region_quiet_below (by kernel_rfl) (by kernel_rfl) ?_
  repeat (go_big_quiet_step (fail))
  refine wpQuiet_nil ?_
  intro _ hw'
  obtain ⟨⟨dq, osq⟩, hw''⟩ := hw'
  subst hw''
  obtain ⟨w2, hw2⟩ : ∃ w2, Sort.grow (redrawn w1 dq) osq = w2 := ⟨_, rfl⟩
  have HB2 : Hid (Below w.heap.size w w2) := keepHid (by rw [← hw2]; exact HB1.out.trans ((below_regrown w1 dq osq).mono HB1.out.size))
  rw [hw2]
  clear hw2 q0 q1 hcut0 hcut1 hsz0 hsz1 hadd0 hadd1 hw0 hw1 hz0 hz1
  -- the first Watch
  go_wp2_with fail
  with_reducible refine (HQ0.out w2).mono ?_
  rintro e w3 ⟨rfl, hb3⟩
  have HB3 := keepHid (HB2.out.trans (hb3.mono HB2.out.size))
  obtain ⟨w4, hw4⟩ : ∃ w4, w3.alloc (.cells #[.string (strB (quo a))] 9) = w4 := ⟨_, rfl⟩
  obtain ⟨hs4, hb4⟩ := sl_one9 rfl hw4
  have HB4 := keepHid (HB3.out.trans (hb4.mono HB3.out.size))
  have HO := keepHid (ofw_any (c := 1) [quo a] hs4)
  clear hb3 hs4 hb4
  go_wp2_with fail
  with_reducible refine HO.out.mono ?_
  rintro e w5 ⟨hb5, hc⟩
  rcases hc with ⟨h, _⟩ | ⟨_, _, ⟨rs, gx, AX, capx, hof, rfl, hgx, hwx⟩ | ⟨x, v, hof, _⟩⟩
  · simp at h
  · rw [HOF0.out] at hof
    injection hof with hof
    subst hof
    have HB5 := keepHid (HB4.out.trans (hb5.mono HB4.out.size))
    have HGX : Hid (w.heap.size ≤ gx) := keepHid (Nat.le_trans HB4.out.size hgx)
    have HWX := keepHid hwx
    clear hb5 hgx hwx hw4 HO
    unfold ptrV
    -- the second
    go_wp2_with fail
    with_reducible refine (HQ1.out w5).mono ?_
    rintro e w6 ⟨rfl, hb6⟩
    obtain ⟨w7, hw7⟩ : ∃ w7, w6.alloc (.cells #[.string (strB (quo b))] 9) = w7 := ⟨_, rfl⟩
    obtain ⟨hs7, hb7⟩ := sl_one9 rfl hw7
    have HB57 : Hid (Below w5.heap.size w5 w7) := keepHid (hb6.trans (hb7.mono hb6.size))
    have HO := keepHid (ofw_any (c := 1) [quo b] hs7)
    clear hb6 hs7 hb7
    go_wp2_with fail
    with_reducible refine HO.out.mono ?_
    rintro e w8 ⟨hb8, hc⟩
    rcases hc with ⟨h, _⟩ | ⟨_, _, ⟨rs, gy, AY, capy, hof, rfl, hgy, hwy⟩ | ⟨x, v, hof, _⟩⟩
    · simp at h
    · rw [HOF1.out] at hof
      injection hof with hof
      subst hof
      have HB58 := keepHid (HB57.out.trans (hb8.mono HB57.out.size))
      have HGY : Hid (w5.heap.size ≤ gy) := keepHid (Nat.le_trans HB57.out.size hgy)
      have HWY := keepHid hwy
      clear hb8 hgy hwy hw7 HO HB57
      unfold ptrV
      -- the third
      go_wp2_with fail
      with_reducible refine (HQ0.out w8).mono ?_
      rintro e w9 ⟨rfl, hb9⟩
      have HB89 := keepHid hb9
      clear hb9
      go_wp2_with fail
      with_reducible refine (HQ1.out w9).mono ?_
      rintro e w10 ⟨rfl, hb10⟩
      obtain ⟨w11, hw11⟩ : ∃ w11, w10.alloc (.cells #[.string (strB (quo a)), .string (strB (quo b))] 9) = w11 := ⟨_, rfl⟩
      obtain ⟨hs11, hb11⟩ := sl_two9 rfl hw11
      have HB811 : Hid (Below w8.heap.size w8 w11) := keepHid (HB89.out.trans ((hb10.trans (hb11.mono hb10.size)).mono HB89.out.size))
      have HO := keepHid (ofw_any (c := 2) [quo a, quo b] hs11)
      clear hb10 hs11 hb11
      go_wp2_with fail
      with_reducible refine HO.out.mono ?_
      rintro e w12 ⟨hb12, hc⟩
      rcases hc with ⟨h, _⟩ | ⟨_, _, ⟨rs, gw, AW, capw, hof, rfl, hgw, hww⟩ | ⟨x, v, hof, _⟩⟩
      · simp at h
      · rw [HOF2.out] at hof
        injection hof with hof
        subst hof
        have HB812 := keepHid (HB811.out.trans (hb12.mono HB811.out.size))
        have HGW : Hid (w8.heap.size ≤ gw) := keepHid (Nat.le_trans HB811.out.size hgw)
        have HB12 : Hid (Below w.heap.size w w12) := keepHid (HB5.out.trans ((HB58.out.trans (HB812.out.mono HB58.out.size)).mono HB5.out.size))
        have HS : Hid (gx < w5.heap.size ∧ w5.heap.size ≤ gy ∧ gy < w8.heap.size ∧ w8.heap.size ≤ gw ∧ gw < w12.heap.size ∧ w.heap.size ≤ gx) := keepHid ⟨HWX.out.blk.lt, HGY.out, HWY.out.blk.lt, HGW.out, hww.blk.lt, HGX.out⟩
        have WX : Hid (Wat w12 w5.heap.size w12.heap.size gx [auOf (treeOf a)] (u.take 0)) := keepHid (by
          rw [List.take_zero]
          exact ((HWX.out.below HB58.out).below HB812.out).wat (by have := HS.out; omega) (Nat.le_refl _))
        have WY : Hid (Wat w12 w8.heap.size w12.heap.size gy [auOf (treeOf b)] (u.take 0)) := keepHid (by
          rw [List.take_zero]
          exact (HWY.out.below HB812.out).wat (by have := HS.out; omega) (Nat.le_refl _))
        have WW : Hid (Wat w12 w12.heap.size w12.heap.size gw [auOf (treeOf a), auOf (treeOf b)] (u.take 0)) := keepHid (by
          rw [List.take_zero]
          exact hww.wat (Nat.le_refl _) (Nat.le_refl _))
        generalize w5.heap.size = HX at *
        generalize w8.heap.size = HY at *
        generalize w12.heap.size = HH at *
        clear hb12 hgw hww hw11 HO HB811 HB812 HB58 HB89 HQ0 HQ1 HWX HWY
        unfold ptrV
        go_wp2_with fail
        go_loopw [13] (fun i wr => ∃ j : Nat, j ≤ k2 ∧ i = .int .i64 j ∧ Hid (Below w.heap.size w wr) ∧ (Hid (Wat wr HX HH gx [auOf (treeOf a)] (u.take j) ∧ Wat wr HY HH gy [auOf (treeOf b)] (u.take j) ∧ Wat wr HH HH gw [auOf (treeOf a), auOf (treeOf b)] (u.take j)) ∨ ∃ n, Hid (Wov wr gw n))) (fun i _ => k2 - (intOf i).toNat)
        case atStart => exact ⟨0, Nat.zero_le _, rfl, HB12, .inl (keepHid ⟨WX.out, WY.out, WW.out⟩)⟩
        case round =>
          obtain ⟨j, hj, rfl, HB, hst⟩ := hrel
          rcases Nat.lt_or_ge j k2 with hlt | hge
          · have hji : (j : Int) < (k2 : Int) := by omega
            rcases hst with HW | ⟨n, HV⟩
            · obtain ⟨c, hc⟩ : ∃ c, u[j]? = some c := ⟨_, List.getElem?_eq_getElem (by rw [HU.out]; exact hlt)⟩
              have hix := run_idx hc (j : Int) rfl
              have HTK : Hid (u.take j ++ [c] = u.take (j + 1)) := keepHid (List.take_succ_of hc).symm
              have HOV := keepHid (over_any HW.out.2.2.cells)
              have HP1 := keepHid (put_wait HW.out.1 c (by rw [List.length_take]; omega))
              rw [HTK.out] at HP1
              clear hc
              go_wp2_with fail
              with_reducible refine HOV.out.mono ?_
              rintro e w' ⟨rfl, rfl⟩
              go_wp2_with fail
              with_reducible refine HP1.out.mono ?_
              rintro e v1 ⟨hc1, ht1⟩
              have HC1 := keepHid hc1
              have HY1 := keepHid (HW.out.2.1.turn ht1 (fun b e => by have := HS.out; omega))
              have HW1 := keepHid (HW.out.2.2.turn ht1 (fun b e => by have := HS.out; omega))
              have HB1 := keepHid (HB.out.trans (ht1.below (B := w.heap.size) (fun b e => by have := HS.out; omega) HB.out.size))
              have HP2 := keepHid (put_wait HY1.out c (by rw [List.length_take]; omega))
              rw [HTK.out] at HP2
              obtain ⟨v1b, rfl, hx1⟩ := one_case hc1
              clear hc1 ht1 HC1
              go_wp2_with fail
              with_reducible refine HP2.out.mono ?_
              rintro e v2 ⟨hc2, ht2⟩
              have HX2 : Hid (v1b = false → Wat v2 HX HH gx [auOf (treeOf a)] (u.take (j + 1))) := keepHid (fun h => (hx1.out.2 h).turn ht2 (fun b e => by have := HS.out; omega))
              have HW2 := keepHid (HW1.out.turn ht2 (fun b e => by have := HS.out; omega))
              have HB2 := keepHid (HB1.out.trans (ht2.below (B := w.heap.size) (fun b e => by have := HS.out; omega) HB1.out.size))
              have HP3 := keepHid (put_wait HW2.out c (by rw [List.length_take]; omega))
              rw [HTK.out] at HP3
              obtain ⟨v2b, rfl, hx2⟩ := one_case hc2
              clear hc2
              have HT2 := keepHid ht2
              clear ht2
              go_wp2_with fail
              with_reducible refine HP3.out.mono ?_
              rintro e v3 ⟨hc3, ht3⟩
              have HX3 : Hid (v1b = false → Wat v3 HX HH gx [auOf (treeOf a)] (u.take (j + 1))) := keepHid (fun h => (HX2.out h).turn ht3 (fun b e => by have := HS.out; omega))
              have HY3 : Hid (v2b = false → Wat v3 HY HH gy [auOf (treeOf b)] (u.take (j + 1))) := keepHid (fun h => (hx2.out.2 h).turn ht3 (fun b e => by have := HS.out; omega))
              have HB3 := keepHid (HB2.out.trans (ht3.below (B := w.heap.size) (fun b e => by have := HS.out; omega) HB2.out.size))
              clear ht3
              rcases two_case hc3 with ⟨h1, rfl, hv⟩ | ⟨h1, h2, rfl, hv⟩ | ⟨h1, h2, rfl, hw⟩
              · have e1 : v1b = true := hx1.out.1.trans h1
                subst e1
                have HV := keepHid hv
                clear hc3 hv h1
                cases v2b
                all_goals
                  go_wp2
                  go_roundw
                  case rel => exact ⟨j + 1, by omega, by go_num, HB3, .inr ⟨_, HV⟩⟩
                  case measure => simp [intOf]; omega
              · have e1 : v1b = false := hx1.out.1.trans h1
                have e2 : v2b = true := hx2.out.1.trans h2
                subst e1 e2
                have HV := keepHid hv
                clear hc3 hv h1 h2
                go_wp2
                go_roundw
                case rel => exact ⟨j + 1, by omega, by go_num, HB3, .inr ⟨_, HV⟩⟩
                case measure => simp [intOf]; omega
              · have e1 : v1b = false := hx1.out.1.trans h1
                have e2 : v2b = false := hx2.out.1.trans h2
                subst e1 e2
                have HV := keepHid (⟨HX3.out rfl, HY3.out rfl, hw⟩ : Wat v3 HX HH gx [auOf (treeOf a)] (u.take (j + 1)) ∧ Wat v3 HY HH gy [auOf (treeOf b)] (u.take (j + 1)) ∧ Wat v3 HH HH gw [auOf (treeOf a), auOf (treeOf b)] (u.take (j + 1)))
                clear hc3 hw h1 h2
                go_wp2
                go_roundw
                case rel => exact ⟨j + 1, by omega, by go_num, HB3, .inl HV⟩
                case measure => simp [intOf]; omega
            · have HOV := keepHid (over_any HV.out.cells)
              go_wp2_with fail
              with_reducible refine HOV.out.mono ?_
              rintro e w' ⟨rfl, rfl⟩
              go_wp2
              go_ret
              exact ⟨rfl, HB.out⟩
          · have hji : ¬ (j : Int) < (k2 : Int) := by omega
            clear hst
            go_wp2
            go_ret
            exact ⟨rfl, HB.out⟩
      · rw [HOF2.out] at hof; cases hof
    · rw [HOF1.out] at hof; cases hof
  · rw [HOF0.out] at hof; cases hof

set_option maxRecDepth 100000 in
theorem lifted (os : Os) (started : os.Started) (H : Type) (enc : TypeId × Value → H) :
    ReturnsInHanded {} Try.checked os 4 .any (Rows.expectAloneSpec.pre6 enc Try.prog Try.f4 Rows.expectAloneRow.domain false) (Rows.expectAloneSpec.post enc Try.prog Try.f4 false true false false) := by
  refine returnsInHanded_of_change_sized (C := Try.checked) own started (by kernel_rfl) Try.func4
    (ChangeSpec.witness6 (enc := enc) (C := Try.checked) false ⟨#[], #[.string ⟨#[]⟩, .string ⟨#[]⟩, .string ⟨#[]⟩], []⟩ 8 (by kernel_rfl) (by kernel_rfl) (by kernel_rfl) (by kernel_rfl)) ?_
  intro W base args ds gs before hval0 hW hcnd hsz0 _
  have hsz : (DataW.weightsEach Try.prog (Try.f4.params.toList ++ Rows.expectAloneSpec.plain.varTypes Try.prog) (ds ++ gs)).all (· ≤ reachBytes) = true := hsz0
  clear hsz0
  have hval : ∀ (j : Nat) t v, Try.f4.params[j]? = some t → args[j]? = some v → Value.okWide Try.prog W .any base t v := hval0
  have hW' := hW
  obtain ⟨p, q, hA0, hV, rfl, hfz, hnd⟩ := hW
  have hA : DataW.TrodAll enc Try.prog W 0 (fun _ => true) true Try.f4.params.toList args.toList ds p := hA0
  rw [Try.params4] at hA hval hsz
  obtain ⟨v0, vs0, d0, ds0, p0, q0, hargs, rfl, rfl, h0, r0⟩ := trodAll_cons hA
  obtain ⟨v1, vs1, d1, ds1, p1, q1, rfl, rfl, rfl, h1, r1⟩ := trodAll_cons r0
  obtain ⟨v2, vs2, d2, ds2, p2, q2, rfl, rfl, rfl, h2, r2⟩ := trodAll_cons r1
  obtain ⟨rfl, rfl, rfl⟩ := trodAll_nil r2
  obtain rfl : args = #[v0, v1, v2] := by cases args; simp_all
  obtain ⟨rfl, rfl⟩ := trodVars_none hV
  have k0 := h0
  have lt0 : ∀ x ∈ p0, x.block < W.heap.size := by obtain ⟨m, hm⟩ := k0; exact DataW.trod_lt m _ _ _ hm
  have k1 := h1
  have lt1 : ∀ x ∈ p1, x.block < W.heap.size := by obtain ⟨m, hm⟩ := k1; exact DataW.trod_lt m _ _ _ hm
  have k2 := h2
  have lt2 : ∀ x ∈ p2, x.block < W.heap.size := by obtain ⟨m, hm⟩ := k2; exact DataW.trod_lt m _ _ _ hm
  obtain ⟨x0, rfl, rfl, rfl, _⟩ := open_string Try.underlying9 (hval 0 9 v0 rfl rfl) h0
  have w0 : x0.size ≤ 140737488351232 := by have := sized_string hsz (j := 0) (t := 9) rfl rfl; simpa [reachBytes] using this
  obtain ⟨x1, rfl, rfl, rfl, _⟩ := open_string Try.underlying9 (hval 1 9 v1 rfl rfl) h1
  have w1 : x1.size ≤ 140737488351232 := by have := sized_string hsz (j := 1) (t := 9) rfl rfl; simpa [reachBytes] using this
  obtain ⟨x2, rfl, rfl, rfl, _⟩ := open_string Try.underlying9 (hval 2 9 v2 rfl rfl) h2
  have w2 : x2.size ≤ 140737488351232 := by have := sized_string hsz (j := 2) (t := 9) rfl rfl; simpa [reachBytes] using this
  clear hA0 hval0
  refine (walk x0 x1 x2 W w0 w1 w2).mono fun e W' ⟨he, bel⟩ => ?_
  subst he
  exact ⟨_, rfl, _, _, _, [], _, [], hW', trodAll_mk1 (shut_bool Try.underlying4 _), (trodAll_cons_mk (Below.trod laidOut (by kernel_rfl) (of_decide_eq_true (by kernel_rfl)) k0 bel lt0) (trodAll_cons_mk (Below.trod laidOut (by kernel_rfl) (of_decide_eq_true (by kernel_rfl)) k1 bel lt1) (trodAll_cons_mk (Below.trod laidOut (by kernel_rfl) (of_decide_eq_true (by kernel_rfl)) k2 bel lt2) trodAll_mk0))), rfl, bel.frame _, fun h => by cases h⟩

theorem over : Rows.expectAloneRow.holds Try.pinned (OpenSpec.ofChange Rows.expectAloneSpec) :=
  OpenClaim.holds_of_wide 4 Try.f4 rfl rfl rfl rfl rfl rfl rfl ⟨rfl, rfl, rfl, rfl, rfl⟩ rfl rfl rfl rfl rfl (by kernel_rfl) Try.func4 (by kernel_rfl)
    (of_decide_eq_true (by kernel_rfl)) (by unfold Func.isWrapper; first | (rw [if_pos (by decide +kernel)]; kernel_rfl) | (rw [if_neg (by decide +kernel)]; exact ⟨rfl, rfl⟩))
    (fun os started H enc _ => lifted os started H enc)

theorem proved : Rows.ExpectAloneSaid := over
end Go.Proofs.Ytgidoieppplhpaa.expectAlone
