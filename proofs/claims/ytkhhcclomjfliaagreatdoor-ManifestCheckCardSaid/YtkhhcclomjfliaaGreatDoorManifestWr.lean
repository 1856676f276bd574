/-
  The law's own reading of what is wrong of a manifest first.
-/
import Derived.Test.YtkhhcclomjfliaaGreatDoorManifestChk
namespace Go.Proofs.YtkhhcclomjfliaaGreatDoor
open Go.RowKit
set_option linter.unusedVariables false

theorem ov_is {e o : En} (he : fitsB e = true) (ho : fitsB o = true) : ov1 e o = decide (max o.addr e.addr < min (o.addr + roomE o) (e.addr + roomE e)) := by
  have h1 := fits_is he
  have h2 := fits_is ho
  unfold ov1
  rw [Bool.eq_iff_iff]
  simp only [Bool.and_eq_true, decide_eq_true_eq]
  omega
def twA (e : En) (l : List En) (j : Nat) : Bool := (l.take j).any fun o => decide (o.name = e.name)
def ovA (e : En) (l : List En) (j : Nat) : Bool := (l.take j).any (ov1 e)
theorem twA_step {e o : En} {l : List En} {j : Nat} (h : l[j]? = some o) : twA e l (j + 1) = (twA e l j || decide (o.name = e.name)) := any_take_succ h
theorem ovA_step {e o : En} {l : List En} {j : Nat} (h : l[j]? = some o) : ovA e l (j + 1) = (ovA e l j || ov1 e o) := any_take_succ h
theorem twA_all (e : En) (l : List En) (j : Nat) : twA e l j = twB e (l.take j) := rfl
theorem ovA_all (e : En) (l : List En) (j : Nat) : ovA e l j = ovB e (l.take j) := rfl
theorem retZ {a b : Int} {n m : Nat} (h1 : a = b) (h2 : n = m) : Ending.returned (.tuple #[.int .i64 a, .int .i64 (n : Int)]) = .returned (.tuple #[.int .i64 b, .int .i64 (m : Int)]) := by rw [h1, h2]
set_option maxRecDepth 100000 in
set_option maxHeartbeats 8000000 in
theorem wr_any (es : List En) (hF : ∀ e ∈ es, EnF e) (A : Option Addr) (n c : Nat) (hn : n ≤ c) (hc : c ≤ 9223372036854775807) (w : World) (hS : EnS w A n es) :
    Calls Tryz.prog 13 #[.slice A n c] w fun r w' => r = .returned (.tuple #[.int .i64 (checkL es).1, .int .i64 ((checkL es).2 : Int)]) ∧ Below w.heap.size w w' := by
  have hlen := hS.len
  by_cases hbad : n = 0 ∨ 8 < n
  · have HR : Hid (checkL es = (-1, 7)) := keepHid (by unfold checkL; rw [if_pos (by omega)])
    have hb2 : (n : Int) < 1 ∨ (¬ (n : Int) < 1 ∧ 8 < (n : Int)) := by omega
    generalize checkL es = R at *
    clear hbad hF hS hlen
    rcases hb2 with h1 | ⟨h1, h2⟩
    all_goals
      go_enter Tryz.func13, Tryz.ntmps13
      go_wp2
      go_ret2
      exact ⟨by rw [HR.out]; rfl, Below.refl _ _⟩
  · have hn0 : ¬ (n : Int) < 1 := by omega
    have hn8 : ¬ 8 < (n : Int) := by omega
    have HC : Hid (checkL es = chkG es n 0) := keepHid (by unfold checkL; rw [if_neg (by omega), hlen])
    have HS := keepHid hS
    have HN := keepHid hlen
    have HF := keepHid hF
    clear hbad hF hS hlen
    go_enter Tryz.func13, Tryz.ntmps13
    go_wp2_with fail
    go_loopw [20] (fun iv wr => ∃ k : Nat, k ≤ n ∧ iv = .int .i64 (k : Int) ∧ Hid (Below w.heap.size w wr) ∧ Hid (chkG es (n - k) k = chkG es n 0) ∧ Hid (∀ j o, j < k → es[j]? = some o → fitsB o = true)) (fun iv _ => n - (intOf iv).toNat)
    case atStart => exact ⟨0, Nat.zero_le _, rfl, keepHid (Below.refl _ _), keepHid rfl, keepHid (fun j o h => absurd h (Nat.not_lt_zero _))⟩
    case round =>
      obtain ⟨k, hk, rfl, HB, HG, HO⟩ := hrel
      generalize wr = wq at *
      by_cases hlt : k < n
      · obtain ⟨e, he⟩ : ∃ e, es[k]? = some e := ⟨_, List.getElem?_eq_getElem (by rw [HN.out]; exact hlt)⟩
        obtain ⟨ad, rfl, hadl, a0, a1, a2, a3, a4⟩ := (HS.out.below HB.out (Nat.le_refl _)).at_ he
        have hk' : (k : Int) < (n : Int) := by omega
        obtain ⟨w2, hw2⟩ : ∃ w2, wq.alloc (.cells #[.string (strB e.name), .int .i64 e.addr, .int .i64 e.size, .int .u32 e.print, .int .i64 e.way] 40) = w2 := ⟨_, rfl⟩
        have hK2 : Blk w2 wq.heap.size 40 #[.string (strB e.name), .int .i64 e.addr, .int .i64 e.size, .int .u32 e.print, .int .i64 e.way] := by rw [← hw2]; exact Blk.new wq _ _
        have hB2 : Below wq.heap.size wq w2 := by rw [← hw2]; exact (Below.refl _ _).alloc (Nat.le_refl _) _
        have HB2 := keepHid (HB.out.trans (hB2.mono HB.out.size))
        have HK2 := keepHid hK2
        have HGL := keepHid hK2.lt
        have HE := keepHid he
        have HEF := keepHid (HF.out e (List.mem_of_getElem? he))
        have hcut := fun wx => heade_any (some ad) n c k (by omega) wx
        clear hK2 hB2 he
        go_upto_region 7 with fail
        try rw [hw2]
        clear hw2 a0 a1 a2 a3 a4
        go_wp2_with fail
        go_loopw [29, 6, 7] (fun jv tv ov wr => ∃ (j : Nat) (O : Bool), j ≤ k ∧ jv = .int .i64 (j : Int) ∧ tv = .bool (twA e es j) ∧ ov = .bool O ∧ Hid (fitsB e = true → O = ovA e es j) ∧ Hid (Below w2.heap.size w2 wr)) (fun jv _ _ _ => k - (intOf jv).toNat)
        case atStart => exact ⟨0, false, Nat.zero_le _, rfl, rfl, rfl, keepHid (fun _ => rfl), keepHid (Below.refl _ _)⟩
        case round =>
          obtain ⟨j, O, hj, rfl, rfl, rfl, HOJ, HBJ⟩ := hrel
          generalize wr = wj at *
          by_cases hjk : j < k
          · obtain ⟨o, ho⟩ : ∃ o, es[j]? = some o := ⟨_, List.getElem?_eq_getElem (by rw [HN.out]; omega)⟩
            have HFO := keepHid (HO.out j o hjk ho)
            obtain ⟨ad', had, hadl', a0, a1, a2, a3, a4⟩ := (HS.out.below (HB2.out.trans (HBJ.out.mono HB2.out.size)) (Nat.le_refl _)).at_ ho
            obtain rfl := Option.some.inj had
            have hjk' : (j : Int) < (k : Int) := by omega
            obtain ⟨w4, hw4⟩ : ∃ w4, wj.alloc (.cells #[.string (strB o.name), .int .i64 o.addr, .int .i64 o.size, .int .u32 o.print, .int .i64 o.way] 40) = w4 := ⟨_, rfl⟩
            have hK4 : Blk w4 wj.heap.size 40 #[.string (strB o.name), .int .i64 o.addr, .int .i64 o.size, .int .u32 o.print, .int .i64 o.way] := by rw [← hw4]; exact Blk.new wj _ _
            have hB4 : Below wj.heap.size wj w4 := by rw [← hw4]; exact (Below.refl _ _).alloc (Nat.le_refl _) _
            have HB4 := keepHid (HBJ.out.trans (hB4.mono HBJ.out.size))
            have hK24 := HK2.out.below HB4.out HGL.out
            have p0 : w4.cell? ⟨wj.heap.size, 0, none⟩ = some (.string (strB o.name)) := hK4.cell 0
            have q0 : w4.cell? ⟨wq.heap.size, 0, none⟩ = some (.string (strB e.name)) := hK24.cell 0
            have o0 := cell_regrown p0
            have o1 := cell_regrown (show w4.cell? ⟨wj.heap.size, 1, none⟩ = some (.int .i64 o.addr) from hK4.cell 1)
            have o2 := cell_regrown (show w4.cell? ⟨wj.heap.size, 2, none⟩ = some (.int .i64 o.size) from hK4.cell 2)
            have o3 := cell_regrown (show w4.cell? ⟨wj.heap.size, 3, none⟩ = some (.int .u32 o.print) from hK4.cell 3)
            have o4 := cell_regrown (show w4.cell? ⟨wj.heap.size, 4, none⟩ = some (.int .i64 o.way) from hK4.cell 4)
            have e0 := cell_regrown q0
            have e1 := cell_regrown (show w4.cell? ⟨wq.heap.size, 1, none⟩ = some (.int .i64 e.addr) from hK24.cell 1)
            have e2 := cell_regrown (show w4.cell? ⟨wq.heap.size, 2, none⟩ = some (.int .i64 e.size) from hK24.cell 2)
            have e3 := cell_regrown (show w4.cell? ⟨wq.heap.size, 3, none⟩ = some (.int .u32 e.print) from hK24.cell 3)
            have e4 := cell_regrown (show w4.cell? ⟨wq.heap.size, 4, none⟩ = some (.int .i64 e.way) from hK24.cell 4)
            have C1 := keepHid (fun d os => Calls.regrown_of (lroom_any (strB e.name) e.addr e.size e.print e.way (Sort.grow (redrawn w4 d) os)))
            have C2 := keepHid (fun d os => Calls.regrown_of (lroom_any (strB o.name) o.addr o.size o.print o.way (Sort.grow (redrawn w4 d) os)))
            have f2 := fits_is HFO.out
            unfold roomE at f2
            obtain ⟨R1, hR1⟩ : ∃ z, roomI e.size e.way = z := ⟨_, rfl⟩
            obtain ⟨R2, hR2⟩ : ∃ z, roomI o.size o.way = z := ⟨_, rfl⟩
            rw [hR1] at C1
            rw [hR2] at C2 f2
            have v2 : IntKind.i64.wrap (o.addr + R2) = o.addr + R2 := by rw [IntKind.wrap_i64]; omega
            obtain ⟨S2, v1⟩ : ∃ z, IntKind.i64.wrap (e.addr + R1) = z := ⟨_, rfl⟩
            obtain ⟨MX, hMX⟩ : ∃ z, max o.addr e.addr = z := ⟨_, rfl⟩
            obtain ⟨MN, hMN⟩ : ∃ z, min (o.addr + R2) S2 = z := ⟨_, rfl⟩
            have m1 := fun ts t W => max_z ts t o.addr e.addr MX hMX W
            have m2 := fun ts t W => min_z ts t (o.addr + R2) S2 MN hMN W
            have HOV : Hid (fitsB e = true → ov1 e o = decide (MX < MN)) := keepHid (fun h => by
              have f1 := fits_is h
              rw [ov_is h HFO.out]
              unfold roomE at f1 ⊢
              rw [hR1] at f1
              rw [hR1, hR2, hMX]
              have : S2 = e.addr + R1 := by rw [← v1, IntKind.wrap_i64]; omega
              rw [← this, hMN])
            have hbq := strB_beq o.name e.name
            obtain ⟨T1, hT1⟩ : ∃ T1, twA e es (j + 1) = T1 := ⟨_, rfl⟩
            obtain ⟨T, hT⟩ : ∃ T, twA e es j = T := ⟨_, rfl⟩
            have hTT := twA_step (e := e) ho
            rw [hT, hT1] at hTT
            have hcT : (T = true ∧ T1 = true) ∨ (T = false ∧ ((strB o.name).toList == (strB e.name).toList) = true ∧ T1 = true) ∨ (T = false ∧ ((strB o.name).toList == (strB e.name).toList) = false ∧ T1 = false) := by
              rw [hbq, hTT]
              cases T <;> by_cases h : o.name = e.name <;> simp [h]
            have HOO : Hid (fitsB e = true → ovA e es (j + 1) = (O || decide (MX < MN))) := keepHid (fun h => by rw [ovA_step ho, HOV.out h, HOJ.out h])
            obtain ⟨O1, hO1⟩ : ∃ O1, (O || decide (MX < MN)) = O1 := ⟨_, rfl⟩
            rw [hO1] at HOO
            have hcO : (O = true ∧ O1 = true) ∨ (O = false ∧ MX < MN ∧ O1 = true) ∨ (O = false ∧ ¬ MX < MN ∧ O1 = false) := by
              rw [← hO1]
              cases O <;> by_cases h : MX < MN <;> simp [h]
            have HO2 : Hid (fitsB e = true → O1 = ovA e es (j + 1)) := keepHid (fun h => (HOO.out h).symm)
            have HT1 := keepHid hT1
            rw [hT]
            clear hTT hT hT1 hbq hO1 HOO HOV HOJ hMX hMN f2 hR1 hR2 hK4 hB4 hK24 had ho
            generalize strB o.name = NO at *
            generalize strB e.name = NE at *
            generalize o.addr = AO at *
            generalize o.size = SO at *
            generalize o.print = PO at *
            generalize o.way = WO at *
            generalize e.addr = AE at *
            generalize e.size = SE at *
            generalize e.print = PE at *
            generalize e.way = WE at *
            rcases hcT with ⟨rfl, rfl⟩ | ⟨rfl, hq, rfl⟩ | ⟨rfl, hq, rfl⟩
            all_goals
              rcases hcO with ⟨rfl, rfl⟩ | ⟨rfl, hq2, rfl⟩ | ⟨rfl, hq2, rfl⟩
              all_goals
                go_upto_region 11 with fail
                try rw [hw4]
                clear hw4 a0 a1 a2 a3 a4 p0 q0
                refine wp_region_quiet_below (by kernel_rfl) (by kernel_rfl) ?_
                repeat (go_big_quiet_step (first | (with_reducible exact C1.out _ _) | (with_reducible exact C2.out _ _)))
                refine wpQuiet_nil ?_
                intro _ hw'
                obtain ⟨⟨dq, osq⟩, hw''⟩ := hw'
                subst hw''
                have HB5 := keepHid (HB4.out.trans ((below_regrown w4 dq osq).mono HB4.out.size))
                clear o0 o1 o2 o3 o4 e0 e1 e2 e3 e4 C1 C2 m1 m2
                go_wp2
                go_roundw
                case rel => exact ⟨j + 1, _, by omega, by go_num, by rw [HT1.out], rfl, HO2, HB5⟩
                case measure => simp [intOf]; omega
          · obtain rfl : j = k := by omega
            have HW4 := keepHid (HB2.out.trans (HBJ.out.mono HB2.out.size))
            have hKJ := HK2.out.below HBJ.out HGL.out
            have q0 : wj.cell? ⟨wq.heap.size, 0, none⟩ = some (.string (strB e.name)) := hKJ.cell 0
            have e0 := cell_regrown q0
            have e1 := cell_regrown (show wj.cell? ⟨wq.heap.size, 1, none⟩ = some (.int .i64 e.addr) from hKJ.cell 1)
            have e2 := cell_regrown (show wj.cell? ⟨wq.heap.size, 2, none⟩ = some (.int .i64 e.size) from hKJ.cell 2)
            have e3 := cell_regrown (show wj.cell? ⟨wq.heap.size, 3, none⟩ = some (.int .u32 e.print) from hKJ.cell 3)
            have e4 := cell_regrown (show wj.cell? ⟨wq.heap.size, 4, none⟩ = some (.int .i64 e.way) from hKJ.cell 4)
            have C1 := keepHid (fun d os => Calls.regrown_of (lroom_any (strB e.name) e.addr e.size e.print e.way (Sort.grow (redrawn wj d) os)))
            have HNM := keepHid (fun w => name_any e.name HEF.out.name w)
            obtain ⟨m, hm⟩ : ∃ m, chkE e (es.take j) = m := ⟨_, rfl⟩
            have HCE : Hid (m = if nameB e.name = false then 3 else if twA e es j then 4 else if fitsB e = false then 5 else if ovB e (es.take j) then 6 else 0) := keepHid (by rw [← hm]; rfl)
            have HST : Hid (m ≠ 0 → checkL es = ((j : Int), m)) := keepHid (fun h => by
              rw [HC.out, ← HG.out, show n - j = (n - (j + 1)) + 1 by omega, chkG_at HE.out (by rw [hm]; exact h), hm])
            have HGO : Hid (m = 0 → chkG es (n - (j + 1)) (j + 1) = chkG es n 0 ∧ ∀ i o, i < j + 1 → es[i]? = some o → fitsB o = true) := keepHid (fun h => by
              refine ⟨by rw [← HG.out, show n - j = (n - (j + 1)) + 1 by omega, chkG_go HE.out (by rw [hm]; exact h)], fun i o hi ho => ?_⟩
              rcases Nat.lt_succ_iff_lt_or_eq.1 hi with hi | rfl
              · exact HO.out i o hi ho
              · obtain rfl : o = e := by rw [HE.out] at ho; exact (Option.some.inj ho).symm
                exact chk_fits (by rw [hm]; exact h))
            have hr := room_is e.size e.way
            have HFB : Hid (fitsB e = (decide (0 ≤ e.addr) && decide (1 ≤ e.size) && decide (e.size ≤ 8192) && decide (e.addr ≤ 16384 - roomI e.size e.way) && isW e.way)) := keepHid rfl
            obtain ⟨R, hR⟩ : ∃ z, roomI e.size e.way = z := ⟨_, rfl⟩
            rw [hR] at C1 hr HFB
            obtain ⟨T, hT⟩ : ∃ T, twA e es j = T := ⟨_, rfl⟩
            rw [hT] at HCE ⊢
            have HOV : Hid (fitsB e = true → O = ovB e (es.take j)) := keepHid (fun h => by rw [HOJ.out h, ovA_all])
            clear hm hR hT hKJ HG HC HOJ HK2 HO
            cases hnm : nameB e.name with
            | false =>
              rw [hnm] at HNM HCE
              have hm3 : m = 3 := by rw [HCE.out]; rfl
              have HR := keepHid (HST.out (by omega))
              subst hm3
              clear hnm HCE HST HGO HFB HOV C1 e0 e1 e2 e3 e4
              go_wp2_with fail
              refine (HNM.out _).mono ?_
              rintro r w5 ⟨rfl, rfl⟩
              go_wp2
              go_ret2
              exact ⟨by rw [HR.out]; rfl, HW4.out⟩
            | true =>
              rw [hnm] at HNM HCE
              clear hnm
              cases T with
              | true =>
                have hm3 : m = 4 := by rw [HCE.out]; rfl
                have HR := keepHid (HST.out (by omega))
                subst hm3
                clear HCE HST HGO HFB HOV C1 e0 e1 e2 e3 e4
                go_wp2_with fail
                refine (HNM.out _).mono ?_
                rintro r w5 ⟨rfl, rfl⟩
                go_wp2
                go_ret2
                exact ⟨by rw [HR.out]; rfl, HW4.out⟩
              | false =>
                have hcs : (e.addr < 0) ∨ (¬ e.addr < 0 ∧ 16384 < e.addr) ∨ (¬ e.addr < 0 ∧ ¬ 16384 < e.addr ∧ e.size < 1) ∨ (¬ e.addr < 0 ∧ ¬ 16384 < e.addr ∧ ¬ e.size < 1 ∧ 8192 < e.size) ∨ (¬ e.addr < 0 ∧ ¬ 16384 < e.addr ∧ ¬ e.size < 1 ∧ ¬ 8192 < e.size ∧ 16384 < e.addr + R) ∨
                    (¬ e.addr < 0 ∧ ¬ 16384 < e.addr ∧ ¬ e.size < 1 ∧ ¬ 8192 < e.size ∧ ¬ 16384 < e.addr + R ∧ e.way < 0) ∨ (¬ e.addr < 0 ∧ ¬ 16384 < e.addr ∧ ¬ e.size < 1 ∧ ¬ 8192 < e.size ∧ ¬ 16384 < e.addr + R ∧ ¬ e.way < 0 ∧ 3 < e.way) ∨
                    (¬ e.addr < 0 ∧ ¬ 16384 < e.addr ∧ ¬ e.size < 1 ∧ ¬ 8192 < e.size ∧ ¬ 16384 < e.addr + R ∧ ¬ e.way < 0 ∧ ¬ 3 < e.way) := by omega
                have hwr : ¬ e.addr < 0 → ¬ 16384 < e.addr → IntKind.i64.wrap (e.addr + R) = e.addr + R := fun h1 h2 => by rw [IntKind.wrap_i64]; omega
                have HFN : Hid ((e.addr < 0 ∨ 16384 < e.addr ∨ e.size < 1 ∨ 8192 < e.size ∨ 16384 < e.addr + R ∨ e.way < 0 ∨ 3 < e.way) → fitsB e = false) := keepHid (fun h => by
                  rw [Bool.eq_false_iff]
                  intro hf
                  rw [HFB.out] at hf
                  unfold isW at hf
                  simp only [Bool.and_eq_true, decide_eq_true_eq] at hf
                  omega)
                have HFY : Hid ((¬ e.addr < 0 ∧ ¬ 16384 < e.addr ∧ ¬ e.size < 1 ∧ ¬ 8192 < e.size ∧ ¬ 16384 < e.addr + R ∧ ¬ e.way < 0 ∧ ¬ 3 < e.way) → fitsB e = true) := keepHid (fun h => by
                  rw [HFB.out]
                  unfold isW
                  simp only [Bool.and_eq_true, decide_eq_true_eq]
                  omega)
                clear HFB hr
                rcases hcs with h1 | ⟨h1, h2⟩ | ⟨h1, h2, h3⟩ | ⟨h1, h2, h3, h4⟩ | ⟨h1, h2, h3, h4, h5⟩ | ⟨h1, h2, h3, h4, h5, h6⟩ | ⟨h1, h2, h3, h4, h5, h6, h7⟩ | ⟨h1, h2, h3, h4, h5, h6, h7⟩
                rotate_left 7
                · have hfe := HFY.out ⟨h1, h2, h3, h4, h5, h6, h7⟩
                  have hov := HOV.out hfe
                  have hwr1 := hwr h1 h2
                  rw [hfe, ← hov] at HCE
                  clear hfe hov HFY HFN HOV hwr
                  have d1 := decide_eq_false h1
                  have d2 := decide_eq_false h2
                  have d3 := decide_eq_false h3
                  have d4 := decide_eq_false h4
                  have d5 := decide_eq_false h5
                  have d6 := decide_eq_false h6
                  have d7 := decide_eq_false h7
                  cases O with
                  | true =>
                    have hm3 : m = 6 := by rw [HCE.out]; rfl
                    have HR := keepHid (HST.out (by omega))
                    subst hm3
                    clear HCE HST HGO
                    go_wp2_with fail
                    refine (HNM.out _).mono ?_
                    rintro r w5 ⟨rfl, rfl⟩
                    go_upto_region 17 with fail
                    refine wp_region_quiet_below (by kernel_rfl) (by kernel_rfl) ?_
                    repeat (go_big_quiet_step (first | (with_reducible exact C1.out _ _)))
                    refine wpQuiet_nil ?_
                    intro _ hw'
                    obtain ⟨⟨dq, osq⟩, hw''⟩ := hw'
                    subst hw''
                    have HB5 := keepHid (HW4.out.trans ((below_regrown wj dq osq).mono HW4.out.size))
                    clear e0 e1 e2 e3 e4 C1
                    go_wp2
                    go_ret2
                    exact ⟨by rw [HR.out]; rfl, HB5.out⟩
                  | false =>
                    have hm3 : m = 0 := by rw [HCE.out]; rfl
                    obtain ⟨g1, g2⟩ := HGO.out hm3
                    have HG1 := keepHid g1
                    have HG2 := keepHid g2
                    clear HCE HST HGO g1 g2 hm3
                    go_wp2_with fail
                    refine (HNM.out _).mono ?_
                    rintro r w5 ⟨rfl, rfl⟩
                    go_upto_region 17 with fail
                    refine wp_region_quiet_below (by kernel_rfl) (by kernel_rfl) ?_
                    repeat (go_big_quiet_step (first | (with_reducible exact C1.out _ _)))
                    refine wpQuiet_nil ?_
                    intro _ hw'
                    obtain ⟨⟨dq, osq⟩, hw''⟩ := hw'
                    subst hw''
                    have HB5 := keepHid (HW4.out.trans ((below_regrown wj dq osq).mono HW4.out.size))
                    clear e0 e1 e2 e3 e4 C1
                    go_wp2
                    go_roundw
                    case rel => exact ⟨j + 1, by omega, by go_num, HB5, HG1, HG2⟩
                    case measure => simp [intOf]; omega
                all_goals
                  have hfe := HFN.out (by omega)
                  rw [hfe] at HCE
                  have hm3 : m = 5 := by rw [HCE.out]; rfl
                  have HR := keepHid (HST.out (by omega))
                  subst hm3
                  try (have hwr1 := hwr h1 h2)
                  clear hfe HCE HST HGO HFY HFN HOV hwr
                  try (first | have d1 := decide_eq_false h1 | have d1 := decide_eq_true h1)
                  try (first | have d2 := decide_eq_false h2 | have d2 := decide_eq_true h2)
                  try (first | have d3 := decide_eq_false h3 | have d3 := decide_eq_true h3)
                  try (first | have d4 := decide_eq_false h4 | have d4 := decide_eq_true h4)
                  try (first | have d5 := decide_eq_false h5 | have d5 := decide_eq_true h5)
                  try (first | have d6 := decide_eq_false h6 | have d6 := decide_eq_true h6)
                  try (first | have d7 := decide_eq_false h7 | have d7 := decide_eq_true h7)
                  go_wp2_with fail
                  refine (HNM.out _).mono ?_
                  rintro r w5 ⟨rfl, rfl⟩
                  go_upto_region 17 with fail
                  refine wp_region_quiet_below (by kernel_rfl) (by kernel_rfl) ?_
                  repeat (go_big_quiet_step (first | (with_reducible exact C1.out _ _)))
                  refine wpQuiet_nil ?_
                  intro _ hw'
                  obtain ⟨⟨dq, osq⟩, hw''⟩ := hw'
                  subst hw''
                  have HB5 := keepHid (HW4.out.trans ((below_regrown wj dq osq).mono HW4.out.size))
                  clear e0 e1 e2 e3 e4 C1
                  go_wp2
                  go_ret2
                  exact ⟨by rw [HR.out]; rfl, HB5.out⟩
      · obtain rfl : k = n := by omega
        have HR : Hid (checkL es = (0, 0)) := keepHid (by rw [HC.out, ← HG.out, Nat.sub_self]; rfl)
        go_wp2
        go_ret2
        exact ⟨by rw [HR.out]; rfl, HB.out⟩
end Go.Proofs.YtkhhcclomjfliaaGreatDoor
