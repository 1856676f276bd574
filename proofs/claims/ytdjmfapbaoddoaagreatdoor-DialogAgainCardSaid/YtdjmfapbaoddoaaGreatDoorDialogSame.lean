/-
  The same steps, but for their places: the law's own Same.
-/
import Derived.Test.YtdjmfapbaoddoaaGreatDoorDialogAwake
import Derived.Deep.DeepCutAuto
import Derived.Deep.RegionWith
namespace Go.Proofs.YtdjmfapbaoddoaaGreatDoor
open Go.RowKit
set_option linter.unusedVariables false

theorem neq_ar (a : Ar) (W : World) : (binOp .neq 51 (.agg #[.string (strB a.pat), .string (strB a.dst)]) (.agg #[.string (strB a.pat), .string (strB a.dst)])).run Tryz.prog W = .ok (.bool false) W := by
  rw [run_neq_struct, run_equalIn_agg W 9999 51 _ _ (by kernel_rfl) (by kernel_rfl)]
  go_simp
theorem blk_next (w : World) (o : Obj) (t : TypeId) (cs : Array Value) : Blk ((w.alloc o).alloc (.cells cs t)) (w.heap.size + 1) t cs := by
  have := Blk.new (w.alloc o) t cs
  simpa using this
set_option maxRecDepth 100000 in
set_option maxHeartbeats 8000000 in
theorem lsame_any (la lb : List Sp) (hab : la.map noPos = lb.map noPos) (A B : Option Addr) (n m ca cb : Nat) (w : World) (hA : StS w A n la) (hB : StS w B m lb) :
    Calls Tryz.prog 13 #[.slice A n ca, .slice B m cb] w fun e w' => e = .returned (.bool true) ∧ Below w.heap.size w w' := by
  have hnm : n = m := by
    have := congrArg List.length hab
    rw [List.length_map, List.length_map, hA.len, hB.len] at this
    exact this
  subst hnm
  have hnn : ((n : Int) != (n : Int)) = false := by simp
  have HA := keepHid hA
  have HB := keepHid hB
  have HN := keepHid hA.len
  have HM := keepHid hB.len
  have hn9 : n ≤ 9223372036854775807 := hA.2.1
  have HEQ : Hid (∀ (k : Nat) (x y : Sp), la[k]? = some x → lb[k]? = some y → y = { x with pos := y.pos }) := keepHid (fun k x y hx hy => of_nopos (by
    have h1 : (lb.map noPos)[k]? = some (noPos y) := by rw [List.getElem?_map, hy]; rfl
    have h2 : (la.map noPos)[k]? = some (noPos x) := by rw [List.getElem?_map, hx]; rfl
    rw [hab, h1] at h2
    exact Option.some.inj h2))
  clear hA hB hab
  go_enter Tryz.func13, Tryz.ntmps13
  go_wp2_with fail
  go_loopw [16] (fun kv wr => ∃ k : Nat, kv = .int .i64 (k : Int) ∧ k ≤ n ∧ Hid (Below w.heap.size w wr)) (fun kv _ => n - (intOf kv).toNat)
  case atStart => exact ⟨0, rfl, Nat.zero_le _, keepHid (Below.refl _ _)⟩
  case round =>
    obtain ⟨k, rfl, hk, HBW⟩ := hrel
    generalize wr = wq at *
    by_cases hlt : k < n
    · obtain ⟨x, hx⟩ : ∃ x, la[k]? = some x := ⟨_, List.getElem?_eq_getElem (by rw [HN.out]; exact hlt)⟩
      obtain ⟨y, hy⟩ : ∃ y, lb[k]? = some y := ⟨_, List.getElem?_eq_getElem (by rw [HM.out]; exact hlt)⟩
      obtain ⟨ad, P, pm, pc, rfl, hadl, a0, a1, a2, a3, a4, a5, a6, hAx, hmc⟩ := (HA.out.below HBW.out (Nat.le_refl _)).at_ hx
      obtain ⟨bd, Q, qm, qc, rfl, hbdl, b0, b1, b2, b3, b4, b5, b6, hAy, hnc⟩ := (HB.out.below HBW.out (Nat.le_refl _)).at_ hy
      have hxy := HEQ.out k x y hx hy
      obtain ⟨yp, hyp⟩ : ∃ p, y.pos = p := ⟨_, rfl⟩
      rw [hyp] at hxy
      subst hxy
      dsimp only at b0 b1 b2 b3 b4 b5 b6 hAy
      have hpq : pm = qm := by have h1 := hAx.len; have h2 := hAy.len; omega
      subst hpq
      have hk' : (k : Int) < (n : Int) := by omega
      have HAX := keepHid hAx
      have HAY := keepHid hAy
      have hpm9 : pm ≤ 9223372036854775807 := hAx.2.1
      have HARL := keepHid hAx.len
      clear hx hy hyp hAx hAy hmc hnc
      generalize strB x.label = LB at *
      generalize strB x.text = TX at *
      generalize strB x.dst = DD at *
      have HCS : Hid (∀ w', Below wq.heap.size wq w' → w'.cell? (ad.add (k * 7)) = some (.string LB) ∧ w'.cell? ⟨(ad.add (k * 7)).block, (ad.add (k * 7)).off + 1, none⟩ = some (.int .i64 x.kind) ∧ w'.cell? ⟨(ad.add (k * 7)).block, (ad.add (k * 7)).off + 2, none⟩ = some (.string TX) ∧ w'.cell? ⟨(ad.add (k * 7)).block, (ad.add (k * 7)).off + 3, none⟩ = some (.slice P pm pc) ∧ w'.cell? ⟨(ad.add (k * 7)).block, (ad.add (k * 7)).off + 4, none⟩ = some (.int .i64 x.n) ∧ w'.cell? ⟨(ad.add (k * 7)).block, (ad.add (k * 7)).off + 5, none⟩ = some (.string DD) ∧ w'.cell? ⟨(ad.add (k * 7)).block, (ad.add (k * 7)).off + 6, none⟩ = some (.int .i64 x.pos) ∧ w'.cell? (bd.add (k * 7)) = some (.string LB) ∧ w'.cell? ⟨(bd.add (k * 7)).block, (bd.add (k * 7)).off + 1, none⟩ = some (.int .i64 x.kind) ∧ w'.cell? ⟨(bd.add (k * 7)).block, (bd.add (k * 7)).off + 2, none⟩ = some (.string TX) ∧ w'.cell? ⟨(bd.add (k * 7)).block, (bd.add (k * 7)).off + 3, none⟩ = some (.slice Q pm qc) ∧ w'.cell? ⟨(bd.add (k * 7)).block, (bd.add (k * 7)).off + 4, none⟩ = some (.int .i64 x.n) ∧ w'.cell? ⟨(bd.add (k * 7)).block, (bd.add (k * 7)).off + 5, none⟩ = some (.string DD) ∧ w'.cell? ⟨(bd.add (k * 7)).block, (bd.add (k * 7)).off + 6, none⟩ = some (.int .i64 yp) ∧ Below wq.heap.size wq w') := keepHid (fun w' h => by
        have hc : ∀ p : Addr, p.block < wq.heap.size → w'.cell? p = wq.cell? p := fun p hp => h.cell hp
        have ha : ∀ j : Nat, (⟨(ad.add (k * 7)).block, (ad.add (k * 7)).off + j, none⟩ : Addr).block < wq.heap.size := fun j => by show (ad.add (k * 7)).block < _; rw [ad_block]; exact hadl
        have hb : ∀ j : Nat, (⟨(bd.add (k * 7)).block, (bd.add (k * 7)).off + j, none⟩ : Addr).block < wq.heap.size := fun j => by show (bd.add (k * 7)).block < _; rw [ad_block]; exact hbdl
        exact ⟨(hc _ (by rw [ad_block]; exact hadl)).trans a0, (hc _ (ha 1)).trans a1, (hc _ (ha 2)).trans a2, (hc _ (ha 3)).trans a3, (hc _ (ha 4)).trans a4, (hc _ (ha 5)).trans a5, (hc _ (ha 6)).trans a6, (hc _ (by rw [ad_block]; exact hbdl)).trans b0, (hc _ (hb 1)).trans b1, (hc _ (hb 2)).trans b2, (hc _ (hb 3)).trans b3, (hc _ (hb 4)).trans b4, (hc _ (hb 5)).trans b5, (hc _ (hb 6)).trans b6, h⟩)
      go_upto_region 6 with fail
      go_cut [6, 7] (fun s t wx => ∃ g6 g7, s = .pointer (some ⟨g6, 0, none⟩) ∧ t = .pointer (some ⟨g7, 0, none⟩) ∧ Hid (Blk wx g6 36 #[.string LB, .int .i64 x.kind, .string TX, .slice P pm pc, .int .i64 x.n, .string DD, .int .i64 x.pos]) ∧ Hid (Blk wx g7 36 #[.string LB, .int .i64 x.kind, .string TX, .slice Q pm qc, .int .i64 x.n, .string DD, .int .i64 yp]) ∧ Hid (Below wq.heap.size wq wx))
      case first =>
        go_region_held3 (fun w' => w'.cell? (ad.add (k * 7)) = some (.string LB) ∧ w'.cell? ⟨(ad.add (k * 7)).block, (ad.add (k * 7)).off + 1, none⟩ = some (.int .i64 x.kind) ∧ w'.cell? ⟨(ad.add (k * 7)).block, (ad.add (k * 7)).off + 2, none⟩ = some (.string TX) ∧ w'.cell? ⟨(ad.add (k * 7)).block, (ad.add (k * 7)).off + 3, none⟩ = some (.slice P pm pc) ∧ w'.cell? ⟨(ad.add (k * 7)).block, (ad.add (k * 7)).off + 4, none⟩ = some (.int .i64 x.n) ∧ w'.cell? ⟨(ad.add (k * 7)).block, (ad.add (k * 7)).off + 5, none⟩ = some (.string DD) ∧ w'.cell? ⟨(ad.add (k * 7)).block, (ad.add (k * 7)).off + 6, none⟩ = some (.int .i64 x.pos) ∧ w'.cell? (bd.add (k * 7)) = some (.string LB) ∧ w'.cell? ⟨(bd.add (k * 7)).block, (bd.add (k * 7)).off + 1, none⟩ = some (.int .i64 x.kind) ∧ w'.cell? ⟨(bd.add (k * 7)).block, (bd.add (k * 7)).off + 2, none⟩ = some (.string TX) ∧ w'.cell? ⟨(bd.add (k * 7)).block, (bd.add (k * 7)).off + 3, none⟩ = some (.slice Q pm qc) ∧ w'.cell? ⟨(bd.add (k * 7)).block, (bd.add (k * 7)).off + 4, none⟩ = some (.int .i64 x.n) ∧ w'.cell? ⟨(bd.add (k * 7)).block, (bd.add (k * 7)).off + 5, none⟩ = some (.string DD) ∧ w'.cell? ⟨(bd.add (k * 7)).block, (bd.add (k * 7)).off + 6, none⟩ = some (.int .i64 yp) ∧ Below wq.heap.size wq w') (exact HCS.out _ (by (repeat (first | (with_reducible exact Below.refl _ _) | (with_reducible refine Below.drew ?_) | (with_reducible refine Below.alloc ?_ (by first | exact Nat.le_refl _ | simp) _) | (with_reducible refine Below.setCell ?_ (by first | exact Nat.le_refl _ | simp) _))))) (fail)
        all_goals
          go_wp2_with fail
          go_meet
          case rel =>
            first
              | exact ⟨_, _, rfl, rfl, keepHid ((Blk.new wq _ _).alloc _).drew, keepHid (blk_next wq _ _ _).drew, keepHid (((Below.refl _ wq).alloc (Nat.le_refl _) _).alloc (by simp) _).drew⟩
              | exact ⟨_, _, rfl, rfl, keepHid (blk_next wq _ _ _).drew, keepHid ((Blk.new wq _ _).alloc _).drew, keepHid (((Below.refl _ wq).alloc (Nat.le_refl _) _).alloc (by simp) _).drew⟩
      case rest =>
        obtain ⟨g6, g7, rfl, rfl, HK6, HK7, HBX⟩ := hcut
        have k6 := HK6.out
        have k7 := HK7.out
        have e0 := k6.cell 0; have e1 := k6.cell 1; have e2 := k6.cell 2; have e3 := k6.cell 3; have e4 := k6.cell 4; have e5 := k6.cell 5
        have f0 := k7.cell 0; have f1 := k7.cell 1; have f2 := k7.cell 2; have f3 := k7.cell 3; have f4 := k7.cell 4; have f5 := k7.cell 5
        simp at e0 e1 e2 e3 e4 e5 f0 f1 f2 f3 f4 f5
        have HAX2 := keepHid (HAX.out.below HBX.out (Nat.le_refl _))
        have HAY2 := keepHid (HAY.out.below HBX.out (Nat.le_refl _))
        have HBC := keepHid (HBW.out.trans (HBX.out.mono HBW.out.size))
        clear k6 k7 a0 a1 a2 a3 a4 a5 a6 b0 b1 b2 b3 b4 b5 b6 HCS HBX HBW HAX HAY hadl hbdl
        go_wp2_with fail
        go_loopw [72] (fun jv wr => ∃ j : Nat, jv = .int .i64 (j : Int) ∧ j ≤ pm ∧ Hid (Below wc.heap.size wc wr)) (fun jv _ => pm - (intOf jv).toNat)
        case atStart => exact ⟨0, rfl, Nat.zero_le _, keepHid (Below.refl _ _)⟩
        case round =>
          obtain ⟨j, rfl, hj, HBI⟩ := hrel
          generalize wr = wi at *
          clear e0 e1 e2 e3 e4 e5 f0 f1 f2 f3 f4 f5
          by_cases hjl : j < pm
          · obtain ⟨a, ha⟩ : ∃ a, x.arms[j]? = some a := ⟨_, List.getElem?_eq_getElem (by rw [HARL.out]; exact hjl)⟩
            obtain ⟨pd, rfl, hpdl, u0', u1'⟩ := (HAX2.out.below HBI.out (Nat.le_refl _)).at_ ha
            obtain ⟨qd, rfl, hqdl, v0, v1⟩ := (HAY2.out.below HBI.out (Nat.le_refl _)).at_ ha
            have e3 := (HK6.out.below HBI.out HK6.out.lt).cell 3
            have f3 := (HK7.out.below HBI.out HK7.out.lt).cell 3
            simp at e3 f3
            have hne := neq_ar a
            have hj' : (j : Int) < (pm : Int) := by omega
            clear ha
            generalize strB a.pat = PA at *
            generalize strB a.dst = DA at *
            go_upto_region 12 with fail
            go_quiet (fail)
            go_wp2
            go_roundw
            case rel => exact ⟨j + 1, by go_num, by omega, keepHid (below_drewN HBI.out _)⟩
            case measure => simp [intOf]; omega
          · obtain rfl : j = pm := by omega
            go_wp2
            go_roundw
            case rel => exact ⟨k + 1, by go_num, by omega, keepHid (HBC.out.trans (HBI.out.mono HBC.out.size))⟩
            case measure => simp [intOf]; omega
    · obtain rfl : k = n := by omega
      go_wp2
      go_ret
      exact ⟨rfl, HBW.out⟩
end Go.Proofs.YtdjmfapbaoddoaaGreatDoor
