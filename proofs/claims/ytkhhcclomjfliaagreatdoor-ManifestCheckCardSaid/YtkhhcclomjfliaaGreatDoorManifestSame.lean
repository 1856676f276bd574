/-
  The same entries: the law's own Same.
-/
import Derived.Test.YtkhhcclomjfliaaGreatDoorManifestRows
import Derived.Lib.QuietBelow
import Derived.Deep.DeepCutAuto
namespace Go.Proofs.YtkhhcclomjfliaaGreatDoor
open Go.RowKit
set_option linter.unusedVariables false

theorem strB_eq {a b : List UInt8} (h : strB a = strB b) : a = b := by
  have := congrArg ByteArray.toList h
  rwa [strB_toList, strB_toList] at this
theorem eq_en (f g : En) (W : World) : (binOp .eql 40 (enV f) (enV g)).run Tryz.prog W = .ok (.bool (decide (f = g))) W := by
  obtain ⟨l, a, b, c, d⟩ := f
  obtain ⟨m, x, y, z, u⟩ := g
  unfold enV
  rw [run_eql_struct, run_equalIn_agg W 9999 40 _ _ (by kernel_rfl) (by kernel_rfl)]
  unfold enA
  go_simp
  rw [strB_toList, strB_toList]
  by_cases h1 : l = m <;> by_cases h2 : a = x <;> by_cases h3 : b = y <;> by_cases h4 : c = z <;> by_cases h5 : d = u <;> simp [h1, h2, h3, h4, h5]
theorem neq_en (f g : En) (W : World) : (binOp .neq 40 (enV f) (enV g)).run Tryz.prog W = .ok (.bool (!decide (f = g))) W := by
  obtain ⟨l, a, b, c, d⟩ := f
  obtain ⟨m, x, y, z, u⟩ := g
  unfold enV
  rw [run_neq_struct, run_equalIn_agg W 9999 40 _ _ (by kernel_rfl) (by kernel_rfl)]
  unfold enA
  go_simp
  rw [strB_toList, strB_toList]
  by_cases h1 : l = m <;> by_cases h2 : a = x <;> by_cases h3 : b = y <;> by_cases h4 : c = z <;> by_cases h5 : d = u <;> simp [h1, h2, h3, h4, h5]
theorem take_eq_succ {la lb : List En} {k : Nat} {a b : En} (ha : la[k]? = some a) (hb : lb[k]? = some b) (h : la.take k = lb.take k) (e : a = b) : la.take (k + 1) = lb.take (k + 1) := by
  rw [List.take_succ_of ha, List.take_succ_of hb, h, e]
set_option maxRecDepth 100000 in
set_option maxHeartbeats 4000000 in
theorem lsame_any (la lb : List En) (A B : Option Addr) (n m ca cb : Nat) (hb63 : n ≤ 9223372036854775807 ∧ m ≤ 9223372036854775807) (w : World) (hA : EnS w A n la) (hB : EnS w B m lb) :
    Calls Tryz.prog 10 #[.slice A n ca, .slice B m cb] w fun e w' => e = .returned (.bool (decide (la = lb))) ∧ Below w.heap.size w w' := by
  have HA := keepHid hA
  have HB := keepHid hB
  have hn := hA.len
  have hm := hB.len
  by_cases hnm : n = m
  · subst hnm
    have hnn : ((n : Int) == (n : Int)) = true := by simp
    have HN := keepHid hn
    have HM := keepHid hm
    have HFIN : Hid (la.take n = lb.take n → decide (la = lb) = true) := keepHid fun h => by
      rw [List.take_of_length_le (by omega), List.take_of_length_le (by omega)] at h
      exact decide_eq_true h
    have HST : Hid (∀ k a b, la[k]? = some a → lb[k]? = some b → la.take k = lb.take k → a = b → la.take (k + 1) = lb.take (k + 1)) := keepHid fun k a b ha hb h1 h2 => take_eq_succ ha hb h1 h2
    have HNE : Hid (∀ (k : Nat) (a b : En), la[k]? = some a → lb[k]? = some b → a ≠ b → decide (la = lb) = false) := keepHid fun k a b ha hb h => decide_eq_false fun e => by rw [e, hb] at ha; exact h (Option.some.inj ha).symm
    generalize decide (la = lb) = R at *
    clear hA hB hn hm
    go_enter Tryz.func10, Tryz.ntmps10
    go_wp2
    go_loopw [13] (fun kv wr => ∃ k : Nat, kv = .int .i64 (k : Int) ∧ k ≤ n ∧ Hid (la.take k = lb.take k) ∧ Hid (Below w.heap.size w wr)) (fun kv _ => n - (intOf kv).toNat)
    case atStart => exact ⟨0, rfl, Nat.zero_le _, keepHid rfl, keepHid (Below.refl _ _)⟩
    case round =>
      obtain ⟨k, rfl, hk, HE, HBW⟩ := hrel
      generalize wr = wq at *
      by_cases hkN : k < n
      · obtain ⟨a, ha⟩ : ∃ a, la[k]? = some a := ⟨_, List.getElem?_eq_getElem (by rw [HN.out]; exact hkN)⟩
        obtain ⟨b, hb⟩ : ∃ b, lb[k]? = some b := ⟨_, List.getElem?_eq_getElem (by rw [HM.out]; exact hkN)⟩
        obtain ⟨ga, rfl, gla, a0, a1, a2, a3, a4⟩ := (HA.out.below HBW.out (Nat.le_refl _)).at_ ha
        obtain ⟨gb, rfl, glb, b0, b1, b2, b3, b4⟩ := (HB.out.below HBW.out (Nat.le_refl _)).at_ hb
        have f0 := fun q os => cell_regrown a0 q os
        have f1 := fun q os => cell_regrown a1 q os
        have f2 := fun q os => cell_regrown a2 q os
        have f3 := fun q os => cell_regrown a3 q os
        have f4 := fun q os => cell_regrown a4 q os
        have e0 := fun q os => cell_regrown b0 q os
        have e1 := fun q os => cell_regrown b1 q os
        have e2 := fun q os => cell_regrown b2 q os
        have e3 := fun q os => cell_regrown b3 q os
        have e4 := fun q os => cell_regrown b4 q os
        have hkI : (k : Int) < (n : Int) := by omega
        have HN1 := keepHid (HST.out k a b ha hb HE.out)
        have HN2 := keepHid (HNE.out k a b ha hb)
        have hcmp := fun W => neq_en a b W
        unfold enV enA at hcmp
        clear a0 a1 a2 a3 a4 b0 b1 b2 b3 b4 HST HNE ha hb
        by_cases q1 : a = b
        · rw [decide_eq_true q1] at hcmp
          have HR := keepHid (HN1.out q1)
          clear HN1 HN2 q1
          go_upto_region 6 with fail
          refine wp_region_quiet_below (by kernel_rfl) (by kernel_rfl) ?_
          repeat (go_big_quiet_step (fail))
          refine wpQuiet_nil ?_
          intro wz hw'
          obtain ⟨⟨dq, osq⟩, hw''⟩ := hw'
          subst hw''
          have HBZ := keepHid (HBW.out.trans ((below_regrown wq dq osq).mono HBW.out.size))
          clear f0 f1 f2 f3 f4 e0 e1 e2 e3 e4
          go_wp2
          go_roundw
          case rel => exact ⟨k + 1, by go_num, by omega, HR, HBZ⟩
          case measure => simp [intOf]; omega
        · rw [decide_eq_false q1] at hcmp
          have HR := keepHid (HN2.out q1)
          clear HN1 HN2 q1
          go_upto_region 6 with fail
          refine wp_region_quiet_below (by kernel_rfl) (by kernel_rfl) ?_
          repeat (go_big_quiet_step (fail))
          refine wpQuiet_nil ?_
          intro wz hw'
          obtain ⟨⟨dq, osq⟩, hw''⟩ := hw'
          subst hw''
          have HBZ := keepHid (HBW.out.trans ((below_regrown wq dq osq).mono HBW.out.size))
          clear f0 f1 f2 f3 f4 e0 e1 e2 e3 e4
          go_wp2
          go_ret
          exact ⟨ret_bool HR.out.symm, HBZ.out⟩
      · obtain rfl : k = n := by omega
        have HR := keepHid (HFIN.out HE.out)
        clear HFIN HST HNE
        go_wp2
        go_ret
        exact ⟨ret_bool HR.out.symm, HBW.out⟩
  · have hne : ((n : Int) == (m : Int)) = false := by simp; omega
    have HR : Hid (decide (la = lb) = false) := keepHid (decide_eq_false fun e => hnm (by have := congrArg List.length e; omega))
    generalize decide (la = lb) = R at *
    clear hA hB hn hm HA HB
    go_enter Tryz.func10, Tryz.ntmps10
    go_wp2
    go_ret
    exact ⟨ret_bool HR.out.symm, Below.refl _ _⟩
end Go.Proofs.YtkhhcclomjfliaaGreatDoor
