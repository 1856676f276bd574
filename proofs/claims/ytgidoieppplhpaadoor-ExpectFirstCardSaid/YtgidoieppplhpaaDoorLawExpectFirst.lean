/-
  'lifelinelaw09.ExpectFirst' answers true for every input of the row, and leaves its arguments as they were.
  Conditions: the package-level variables that the row lists lie as the program's own text lays them (the card ties them to it; what is pinned is a constant of the library's).
-/
import Derived.Test.YtgidoieppplhpaaDoorRows
import Derived.Test.YtgidoieppplhpaaDoorExpectBest
import Derived.Test.YtgidoieppplhpaaDoorExpectAwake
import Derived.Test.YtgidoieppplhpaaDoorErrNo
import Derived.Test.YtgidoieppplhpaaDoorFrameRows
import Derived.LoopTactic
import Derived.Deep.DeepCutAuto
import Derived.Test.YtgidoieppplhpaaDoorFrame
import Derived.Test.YtgidoieppplhpaaDoorFrameRegex
import Derived.Test.YtgidoieppplhpaaDoorFrame
import Derived.Test.YtgidoieppplhpaaDoorFrameRegex
import Derived.Test.YtgidoieppplhpaaDoorCards
import Derived.Test.YtgidoieppplhpaaDoorFrameRows
import Derived.WalkKit
import Derived.ProofKit
import Derived.OpenShut
import Derived.ShutString
import Derived.ChangeOld
import Derived.Below
namespace Go.Proofs.YtgidoieppplhpaaDoor.expectFirst
open Go.ChangeShapes Go.WideShapes Go.ChangeAt Go.RowKit
open Go.ChangeMaps (open_string shut_string)
set_option linter.unusedVariables false

theorem own : ownKnob Tryd.prog.godebug = none := by kernel_rfl
theorem laidOut : laidOutB Tryd.prog = true := by kernel_rfl

theorem min_s9 (ts : Array TypeId) (t : TypeId) (a : Nat) (b : Int) (k : Nat) (h : min ((a : Int) + 1) b = (k : Int)) (w : World) :
    (Builtin.min_ ts t #[.int .i64 ((a : Int) + 1), .int .i64 b]).run Tryd.prog w = .ok (.int .i64 (k : Int)) w := min_i ts t (a + 1) b k h w
set_option maxRecDepth 100000 in
set_option maxHeartbeats 4000000 in
theorem walk (a0 : Option Addr) (n0 c0 : Nat) (y0 : List (List UInt8)) (a1 : Option Addr) (n1 c1 : Nat) (b1 : List UInt8) (w : World) (hT : ErrT w) (h0 : RowsB w a0 n0 y0) (l0 : n0 ≤ c0) (s0 : c0 ≤ 9223372036854775807) (h1 : Bys w w.heap.size a1 n1 b1) (l1 : n1 ≤ c1) (s1 : c1 ≤ 140737488351232) :
    Calls Tryd.prog 3 #[.slice a0 n0 c0, .slice a1 n1 c1] w fun e w' => e = .returned (.bool true) ∧ Below w.heap.size w w' := by
  have HAW := keepHid (awake9_any w)
  have HT := keepHid hT
  have HY0 := keepHid h0
  have HY1 := keepHid h1
  have HL := keepHid h0.1
  clear h0 h1 hT
  go_enter Tryd.func3, Tryd.ntmps3
  go_wp2_with fail
  with_reducible refine HAW.out.mono ?_
  rintro e w1 ⟨rfl, hb1⟩
  have HB1 := keepHid hb1
  clear hb1 HAW
  generalize hL : w1.heap.size = L at *
  have HLS := keepHid hL
  have hR0 : Rw w1 L (.slice none 0 0) [] (.slice none 0 0) [] [] := Rw.nil (by rw [hL]; exact Nat.le_refl _)
  have HR0 := keepHid hR0
  clear hL hR0
  go_wp2_with fail
  go_loopw [5, 6, 29] (fun v1 v2 i wr => ∃ (j : Nat) (A1 A2 : Option Addr) (p1 p2 : Nat) (hs : List Hd), j ≤ n0 ∧ i = .int .i64 j ∧ v1 = .slice A1 (min j 4) p1 ∧ v2 = .slice A2 (min j 4) p2 ∧ Hid (hs.length = min j 4) ∧
    Hid (Rw wr L (.slice A1 (min j 4) p1) (txtsOf (y0.take (min j 4))) (.slice A2 (min j 4) p2) hs (resOf (y0.take (min j 4)))) ∧ Hid (Below L w1 wr)) (fun _ _ i _ => n0 - (intOf i).toNat)
  case atStart => exact ⟨0, none, none, 0, 0, [], Nat.zero_le _, rfl, rfl, rfl, keepHid rfl, HR0, keepHid (HLS.out ▸ Below.refl _ _)⟩
  case round =>
    obtain ⟨j, A1, A2, p1, p2, hs, hj, rfl, rfl, rfl, HHL, HRW, HB⟩ := hrel
    generalize hm : min j 4 = m at *
    have HM := keepHid hm
    clear hm
    have HB0 : Hid (Below w.heap.size w wr) := keepHid (HB1.out.trans (HB.out.mono (by rw [← HLS.out]; exact HB1.out.size)))
    rcases Nat.lt_or_ge j n0 with hlt | hge
    · obtain ⟨x, hxj⟩ : ∃ x, y0[j]? = some x := ⟨_, List.getElem?_eq_getElem (by rw [HL.out]; exact hlt)⟩
      obtain ⟨ad, Ak, ck, rfl, hbl, hcell, hck, hcm, hby⟩ := (rowsB_below HY0.out HB0.out).2 j x hxj
      have HXJ := keepHid hxj
      have HMK : Hid (Calls Tryd.prog 6 #[.slice Ak x.length ck, .int .i64 2] wr (MakePostD 2 x wr)) := keepHid (makes_d (d := 2) (build_all 2 (by decide)) Ak x.length ck x wr hby hck hcm)
      have hji : (j : Int) < (n0 : Int) := by omega
      clear hxj hbl hby hck hcm
      go_wp2_with fail
      with_reducible refine HMK.out.mono ?_
      rintro e w2 ⟨h, rfl, hi2, hb2⟩
      obtain ⟨w3, hw3⟩ : ∃ w3, w2.alloc (.cells (hdC h) 32) = w3 := ⟨_, rfl⟩
      obtain ⟨hi3, hb3, hk3⟩ := node_var hi2 hw3
      have HB23 : Hid (Below wr.heap.size wr w3) := keepHid (hb2.trans (hb3.mono hb2.size))
      have HI3 : Hid (IsS w3 (fun b => wr.heap.size ≤ b) h (bldL 2 x).2.1) := keepHid (hi2.below hb3)
      have HK3 := keepHid hk3
      have HW3 := keepHid hw3
      have HBW : Hid (Below L w1 w3) := keepHid (HB.out.trans (HB23.out.mono HRW.out.base))
      have HR3 := keepHid (HRW.out.below HB23.out)
      unfold hdC at HW3
      clear hi2 hb2 hw3 hi3 hb3 hk3 HMK
      have hp64 : (bldL 2 x).1.length ≤ 64 := bld_short2 x
      have hpz : (strB (bldL 2 x).1).size = (bldL 2 x).1.length := strB_size _
      unfold hdV at *
      go_upto_region 9 with fail
      rw [HW3.out]
      generalize hV : w2.heap.size = V at *
      rcases Nat.lt_or_ge j 4 with h4 | h4
      · have hj4 : (j : Int) < 4 := by omega
        have hpi : ((bldL 2 x).1.length : Int) ≤ 64 := by omega
        go_upto_region 10 with fail
        obtain rfl : m = j := by have := HM.out; omega
        have hsl : (txtsOf (y0.take m)).length = m := by unfold txtsOf; rw [List.length_map, List.length_take, HL.out]; omega
        have HSL := keepHid hsl
        have HTX : Hid (txtsOf (y0.take (m + 1)) = txtsOf (y0.take m) ++ [(bldL 2 x).1]) := keepHid (by rw [List.take_succ_of HXJ.out]; unfold txtsOf; simp)
        have HRX : Hid (resOf (y0.take (m + 1)) = resOf (y0.take m) ++ [(bldL 2 x).2.1]) := keepHid (by rw [List.take_succ_of HXJ.out]; unfold resOf; simp)
        have hrl : (resOf (y0.take m)).length = m := by unfold resOf; rw [List.length_map, List.length_take, HL.out]; omega
        have hnew : ∀ t48 t49 t51 t52 t53 : Value, R10 L (bldL 2 x).1 h (bldL 2 x).2.1 (.slice A1 m p1) (.slice A2 m p2) (txtsOf (y0.take m)) hs (resOf (y0.take m)) V w1 false false false false false t48 t49 t51 t52 t53 w3.drew := by
          intro t48 t49 t51 t52 t53
          refine ⟨HR3.out.below (Below.drew (Below.refl _ _)), (HI3.out.mono fun b hb _ => ⟨fun e => ?_, fun e => ?_⟩).below (Below.drew (Below.refl _ _)), HBW.out.drew, by rw [HHL.out, hrl], fun _ => HK3.out, (fun q => by cases q), (fun q => by cases q), (fun q => by cases q), (fun q => by cases q), (fun q => by cases q)⟩
          · have := (HRW.out.own1.lt b e).2
            have : wr.heap.size ≤ b := hb
            omega
          · have := (HRW.out.own2.lt b e).2
            have : wr.heap.size ≤ b := hb
            omega
        have HNEW := keepHid hnew
        clear hnew hsl hrl
        refine wp_region_any (by kernel_rfl) ?_
        refine twin_any (L := L) (x := h) (r := (bldL 2 x).2.1) (ss := txtsOf (y0.take m)) (hs := hs) (rs := resOf (y0.take m)) (V := V) (w0 := w1) ⟨by rw [HSL.out]; omega, by rw [HHL.out]; omega⟩ (fun _ _ d _ _ h => by cases d <;> exact h) ?_ _ _ _ _ _ _ _ _ _ (HNEW.out _ _ _ _ _)
        intro t46 t47 t48 t49 t50 t51 t52 t53 w4 hR
        obtain ⟨g1, q1, rfl⟩ := hR.s49 rfl
        obtain ⟨g2, q2, rfl⟩ := hR.s53 rfl
        have HRR := keepHid hR.rows
        have HBR := keepHid hR.below
        simp only [if_true] at HRR
        rw [HSL.out, HHL.out] at HRR
        rw [HSL.out, HHL.out]
        have hlen : Hid ((hs ++ [h]).length = m + 1) := keepHid (by simp [HHL.out])
        clear hR HNEW
        go_wp2
        go_roundw
        case rel =>
          have e4 : min (m + 1) 4 = m + 1 := by omega
          exact ⟨m + 1, some ⟨g1, 0, none⟩, some ⟨g2, 0, none⟩, q1, q2, hs ++ [h], by omega, by go_num, by rw [e4], by rw [e4], by rw [e4]; exact hlen, by rw [e4, HTX.out, HRX.out]; exact HRR, HBR⟩
        case measure => simp [intOf]; omega
      · have hj4 : ¬ (j : Int) < 4 := by omega
        go_wp2
        go_roundw
        case rel =>
          have e4 : min (j + 1) 4 = m := by have := HM.out; omega
          exact ⟨j + 1, A1, A2, p1, p2, hs, by omega, by go_num, by rw [e4], by rw [e4], by rw [e4]; exact HHL, by rw [e4]; exact HR3, HBW⟩
        case measure => simp [intOf]; omega
    · obtain rfl : j = n0 := by omega
      have hji : ¬ (j : Int) < (j : Int) := by omega
      have hM4 : m ≤ 4 := by have := HM.out; omega
      have hsl : (txtsOf (y0.take m)).length = m := by unfold txtsOf; rw [List.length_map, List.length_take, HL.out]; have := HM.out; omega
      have hrl : (resOf (y0.take m)).length = m := by unfold resOf; rw [List.length_map, List.length_take, HL.out]; have := HM.out; omega
      have HBT := keepHid (of9_built (y0.take m))
      have HEM := keepHid (of9_empty (y0.take m))
      have HSMA : Hid (∀ r ∈ resOf (y0.take m), Sm (addF r tb0).2) := keepHid (fun r hr => by
        unfold resOf at hr
        obtain ⟨y, _, rfl⟩ := List.mem_map.1 hr
        exact sm_bld (d := 2) (by decide) y)
      generalize txtsOf (y0.take m) = ss at *
      generalize resOf (y0.take m) = rs at *
      have hs9 : Sl strV wr A1 m ss := Sl.of_own (by rw [← hsl]; rw [← hsl] at HRW; exact HRW.out.own1) (by unfold maxLen; omega)
      have HOF := keepHid (ofw_any (c := p1) ss hs9)
      have HSL := keepHid hsl
      have HRL := keepHid hrl
      clear hs9 hsl hrl
      go_wp2_with fail
      with_reducible refine HOF.out.mono ?_
      rintro e w2 ⟨hb2, hc⟩
      have HB2 := keepHid (HB0.out.trans (hb2.mono HB0.out.size))
      have HR2 := keepHid (HRW.out.below hb2)
      have HT2 := keepHid (HT.out.below HB2.out HT.out.pos)
      rw [HSL.out] at hc
      have hcs : (m = 0 ∧ e = .returned (.tuple #[.pointer none, errnoV 7])) ∨ (1 ≤ m ∧ ∃ (gp : Option Addr) (ev : Value), e = .returned (.tuple #[.pointer gp, ev]) ∧ Hid ((∃ r ∈ rs, emp r = true) → gp = none ∧ ev = errnoV 8) ∧ Hid ((∀ r ∈ rs, emp r = false) → ev = .nilIface ∧ ∃ g A cap, gp = some ⟨g, 0, none⟩ ∧ w.heap.size ≤ g ∧ Wat0 w2 w2.heap.size g (rs.map auOf) A cap)) := by
        rcases hc with ⟨h0, rfl⟩ | ⟨h1, _, ⟨rs', g, A, cap, hof, rfl, hg, hw⟩ | ⟨x, v, hof, rfl⟩⟩
        · exact .inl ⟨by omega, rfl⟩
        · refine .inr ⟨h1, some ⟨g, 0, none⟩, _, rfl, keepHid ?_, keepHid ?_⟩
          · rintro ⟨r, hr, he⟩
            rw [HEM.out r hr he] at hof
            cases hof
          · intro he
            rw [HBT.out he] at hof
            injection hof with hof
            subst hof
            exact ⟨rfl, g, A, cap, rfl, Nat.le_trans HB0.out.size hg, hw⟩
        · refine .inr ⟨h1, none, _, rfl, keepHid ?_, keepHid ?_⟩
          · rintro ⟨r, hr, he⟩
            rw [HEM.out r hr he] at hof
            injection hof with hof
            exact ⟨rfl, hof.symm⟩
          · intro he
            rw [HBT.out he] at hof
            cases hof
      have HCS := keepHid hcs
      clear hc hb2 hcs HOF HBT HEM
      rcases HCS.out with ⟨rfl, rfl⟩ | ⟨hm1, gp, ev, rfl, HE1, HE0⟩
      · have HN := keepHid (number_e 7 w2 HT2.out)
        unfold errnoV
        go_wp2_with fail
        with_reducible refine HN.out.mono ?_
        rintro e w3 ⟨rfl, hb3⟩
        have HB3 := keepHid (HB2.out.trans (hb3.mono HB2.out.size))
        clear hb3
        go_wp2
        go_ret
        exact ⟨rfl, HB3.out⟩
      · have hz : ((m : Int) == 0) = false := by simp only [beq_eq_false_iff_ne, ne_eq]; omega
        go_wp2_with fail
        clear hz hji
        go_loopw [68] (fun i wq => ∃ k : Nat, k ≤ m ∧ i = .int .i64 k ∧ Hid (Below w2.heap.size w2 wq) ∧ Hid (∀ i r, i < k → rs[i]? = some r → emp r = false)) (fun i _ => m - (intOf i).toNat)
        case atStart => exact ⟨0, Nat.zero_le _, rfl, keepHid (Below.refl _ _), keepHid (fun i r hi => by omega)⟩
        case round =>
          obtain ⟨k, hk, rfl, HBK, HNE⟩ := hrel
          rcases Nat.lt_or_ge k m with hklt | hkge
          · obtain ⟨r, hr⟩ : ∃ r, rs[k]? = some r := ⟨_, List.getElem?_eq_getElem (by rw [HRL.out]; exact hklt)⟩
            obtain ⟨B, x, S, rfl, hat, his⟩ := (HR2.out.below HBK.out).nd HHL.out hr
            have HR := keepHid hr
            obtain ⟨d0, d1, d2, d3, d4, d5⟩ := hat
            obtain ⟨w3, hw3⟩ : ∃ w3, wr.alloc (.cells (hdC x) 32) = w3 := ⟨_, rfl⟩
            obtain ⟨hi3, hb3, hk3⟩ := node_var his hw3
            have HO := keepHid (of_any hi3 (HSMA.out r (List.mem_of_getElem? hr)))
            have HB3 := keepHid (HBK.out.trans (hb3.mono HBK.out.size))
            have HW3 := keepHid hw3
            have hki : (k : Int) < (m : Int) := by omega
            unfold hdC at hk3 HW3
            obtain ⟨m0, m1, m2, m3, m4, m5, mf⟩ := blk6 hk3
            clear hi3 hb3 hk3 hw3 his hr
            unfold hdV at *
            go_upto_region 18 with fail
            rw [HW3.out]
            generalize wr.heap.size = V at *
            clear d0 d1 d2 d3 d4 d5
            go_wp2_with fail
            with_reducible refine HO.out.mono ?_
            rintro e w4 ⟨g4, rfl, hA, hb4⟩
            have HE := keepHid (tabA_empty hA)
            rw [show (auOf r).e = emp r from (auOf_ok r).e] at HE
            have HB4 := keepHid (HB3.out.trans (hb4.mono HB3.out.size))
            obtain ⟨E, hE⟩ : ∃ E, emp r = E := ⟨_, rfl⟩
            rw [hE] at HE
            have HEE := keepHid hE
            clear hA hb4 hE m0 m1 m2 m3 m4 m5 mf HW3 HO
            go_wp2_with fail
            with_reducible refine HE.out.mono ?_
            rintro e w' ⟨rfl, rfl⟩
            cases E
            · have HNE2 : Hid (∀ i r, i < k + 1 → rs[i]? = some r → emp r = false) := keepHid (fun i r' hi hr' => by
                rcases Nat.lt_or_ge i k with h | h
                · exact HNE.out i r' h hr'
                · obtain rfl : i = k := by omega
                  rw [HR.out] at hr'
                  obtain rfl := Option.some.inj hr'
                  exact HEE.out)
              go_wp2
              go_roundw
              case rel => exact ⟨k + 1, by omega, by go_num, HB4, HNE2⟩
              case measure => simp [intOf]; omega
            · obtain ⟨rfl, rfl⟩ := HE1.out ⟨r, List.mem_of_getElem? HR.out, HEE.out⟩
              have HT4 := keepHid (HT2.out.below HB4.out HT2.out.pos)
              have HB04 := keepHid (HB2.out.trans (HB4.out.mono HB2.out.size))
              have HN := keepHid (number_e 8 w4 HT4.out)
              unfold errnoV
              go_wp2_with fail
              with_reducible refine HN.out.mono ?_
              rintro e w5 ⟨rfl, hb5⟩
              have HB5 := keepHid (HB04.out.trans (hb5.mono HB04.out.size))
              clear hb5
              go_wp2
              go_ret
              exact ⟨rfl, HB5.out⟩
          · obtain rfl : k = m := by omega
            generalize wr = wz at *
            have hki : ¬ (k : Int) < (k : Int) := by omega
            have HEA : Hid (∀ r ∈ rs, emp r = false) := keepHid (fun r hr => by
              obtain ⟨i, hi, e⟩ := List.getElem_of_mem hr
              exact HNE.out i r (by rw [HRL.out] at hi; exact hi) (by rw [List.getElem?_eq_getElem hi, e]))
            obtain ⟨rfl, g, AW, capw, rfl, hg, hw⟩ := HE0.out HEA.out
            have HG := keepHid hg
            have HWW := keepHid (hw.below HBK.out)
            have HBX := keepHid (HB2.out.trans (HBK.out.mono HB2.out.size))
            have HRX := keepHid (HR2.out.below HBK.out)
            have HTX := keepHid (text_any (k := c1) b1 (HY1.out.below HBX.out))
            generalize hS : txt b1 = s at *
            have hs14 : s.length ≤ 14 := by rw [← hS]; exact txt_len _
            clear hS
            obtain ⟨q, hq⟩ : ∃ q, s.length = q := ⟨_, rfl⟩
            have hsz : (strB s).size = q := by rw [strB_size, hq]
            have HQ := keepHid hq
            rw [hq] at hs14
            have HBE := keepHid (best_start rs s)
            rw [hq] at HBE
            generalize w2.heap.size = H at *
            clear hg hw hq
            go_wp2_with fail
            with_reducible refine HTX.out.mono ?_
            rintro e w' ⟨rfl, rfl⟩
            go_wp2_with fail
            clear hki HE0 HE1 HCS HSMA
            go_loopw [16, 17, 92] (fun bv av i wq => ∃ (t : Nat) (β : Int) (α : Nat), t ≤ k ∧ i = .int .i64 t ∧ bv = .int .i64 β ∧ av = .int .i64 α ∧ Hid (Below wz.heap.size wz wq) ∧ Hid (Best rs s t β α)) (fun _ _ i _ => k - (intOf i).toNat)
            case atStart => exact ⟨0, -1, q + 1, Nat.zero_le _, rfl, rfl, by go_num, keepHid (Below.refl _ _), HBE⟩
            case round =>
              obtain ⟨t, β, α, ht, rfl, rfl, rfl, HBQ, HBS⟩ := hrel
              generalize wr = wq at *
              rcases Nat.lt_or_ge t k with htl | htg
              · obtain ⟨r, hr⟩ : ∃ r, rs[t]? = some r := ⟨_, List.getElem?_eq_getElem (by rw [HRL.out]; exact htl)⟩
                obtain ⟨B, x, S, rfl, hat, his⟩ := (HRX.out.below HBQ.out).nd HHL.out hr
                have HR := keepHid hr
                obtain ⟨d0, d1, d2, d3, d4, d5⟩ := hat
                obtain ⟨w3, hw3⟩ : ∃ w3, wq.alloc (.cells (hdC x) 32) = w3 := ⟨_, rfl⟩
                obtain ⟨hi3, hb3, hk3⟩ := node_var his hw3
                have HF := keepHid (first_any s hi3 (by rw [HQ.out]; omega))
                unfold FirstPost at HF
                have HB3 := keepHid (HBQ.out.trans (hb3.mono HBQ.out.size))
                have HW3 := keepHid hw3
                have hki : (t : Int) < (k : Int) := by omega
                unfold hdC at hk3 HW3
                obtain ⟨m0, m1, m2, m3, m4, m5, mf⟩ := blk6 hk3
                clear hi3 hb3 hk3 hw3 his hr
                unfold hdV at *
                go_upto_region 28 with fail
                rw [HW3.out]
                generalize wq.heap.size = V at *
                clear d0 d1 d2 d3 d4 d5
                go_wp2_with fail
                with_reducible refine HF.out.mono ?_
                rintro e w4 ⟨rfl, hb4⟩
                have HB4 := keepHid (HB3.out.trans (hb4.mono HB3.out.size))
                obtain ⟨K, hK⟩ : ∃ K, firstL r s = K := ⟨_, rfl⟩
                have HKK := keepHid hK
                rw [hK]
                clear hb4 hK m0 m1 m2 m3 m4 m5 mf HW3 HF
                obtain ⟨K1, K2⟩ := K
                simp only
                cases K2
                · have HBS2 := keepHid (best_skip HBS.out HR.out HKK.out (.inl rfl))
                  go_wp2
                  go_roundw
                  case rel => exact ⟨t + 1, β, α, by omega, by go_num, rfl, rfl, HB4, HBS2⟩
                  case measure => simp [intOf]; omega
                · rcases Nat.lt_or_ge K1 α with hlt | hge
                  · have HBS2 := keepHid (best_take HBS.out HR.out HKK.out hlt)
                    have hlti : (K1 : Int) < (α : Int) := by omega
                    go_wp2
                    go_roundw
                    case rel => exact ⟨t + 1, (t : Int), K1, by omega, by go_num, rfl, rfl, HB4, HBS2⟩
                    case measure => simp [intOf]; omega
                  · have HBS2 := keepHid (best_skip HBS.out HR.out HKK.out (.inr hge))
                    have hlti : ¬ (K1 : Int) < (α : Int) := by omega
                    go_wp2
                    go_roundw
                    case rel => exact ⟨t + 1, β, α, by omega, by go_num, rfl, rfl, HB4, HBS2⟩
                    case measure => simp [intOf]; omega
              · obtain rfl : t = k := by omega
                have hki : ¬ (t : Int) < (t : Int) := by omega
                have HBF : Hid (Best rs s rs.length β α) := keepHid (by rw [HRL.out]; exact HBS.out)
                have HBY := keepHid (HBX.out.trans (HBQ.out.mono HBX.out.size))
                have HWT : Hid (Wat wq H H g (rs.map auOf) (s.take 0)) := keepHid (by
                  rw [List.take_zero]
                  exact (HWW.out.below HBQ.out).wat (Nat.le_refl _) (HWW.out.below HBQ.out).base.2)
                clear HBS HBE HWW
                rcases best_none HBF.out with ⟨rfl, hα⟩ | ⟨b, rfl⟩
                · have HAL := keepHid hα
                  rw [HQ.out] at HAL
                  clear hα
                  go_wp2_with fail
                  go_loopw [22] (fun i wv => ∃ j : Nat, j ≤ q ∧ i = .int .i64 j ∧ Hid (Below w.heap.size w wv) ∧ Hid (Wat wv H H g (rs.map auOf) (s.take j))) (fun i _ => q - (intOf i).toNat)
                  case atStart => exact ⟨0, Nat.zero_le _, rfl, HBY, HWT⟩
                  case round =>
                    obtain ⟨j, hj, rfl, HBJ, HW⟩ := hrel
                    generalize wr = wv at *
                    rcases Nat.lt_or_ge j q with hjl | hjg
                    · have hji : (j : Int) < (q : Int) := by omega
                      obtain ⟨c, hcc⟩ : ∃ c, s[j]? = some c := ⟨_, List.getElem?_eq_getElem (by rw [HQ.out]; exact hjl)⟩
                      have hix := run_idx hcc (j : Int) rfl
                      have HTK : Hid (s.take j ++ [c] = s.take (j + 1)) := keepHid (List.take_succ_of hcc).symm
                      have HP := keepHid (put_wait HW.out c (by rw [List.length_take]; omega))
                      rw [HTK.out] at HP
                      have hlen : (s.take (j + 1)).length = j + 1 := by rw [List.length_take, HQ.out]; omega
                      have HLEN := keepHid hlen
                      clear hcc hlen
                      go_wp2_with fail
                      with_reducible refine HP.out.mono ?_
                      rintro e w6 ⟨hcase, ht6⟩
                      have HB6 := keepHid (HBJ.out.trans (ht6.below (B := w.heap.size) (fun b e => by rw [e]; exact HG.out) HBJ.out.size))
                      clear ht6
                      have hnone : armA (rs.map auOf) (s.take (j + 1)) = none := best_before HBF.out HEA.out (by rw [HQ.out]; omega) (by have := HAL.out; omega)
                      rw [hnone] at hcase
                      rcases hcase with ⟨i, ha, _⟩ | ⟨_, rfl, hw6⟩
                      · cases ha
                      have HV := keepHid hw6
                      have HSE := keepHid (seen_any hw6.cells)
                      have HOV := keepHid (over_any hw6.cells)
                      rw [HLEN.out, show ((j + 1 : Nat) : Int) = (j : Int) + 1 by omega] at HSE
                      have hmin := fun W ts t => min_s9 ts t j (α : Int) (j + 1) (by have := HAL.out; omega) W
                      simp only [show ((j + 1 : Nat) : Int) = (j : Int) + 1 by omega] at hmin
                      have hge : ¬ (α : Int) ≤ (j : Int) + 1 := by have := HAL.out; omega
                      clear hw6 hnone
                      go_wp2_with fail
                      with_reducible refine HSE.out.mono ?_
                      rintro e w' ⟨rfl, rfl⟩
                      go_wp2_with fail
                      with_reducible refine HOV.out.mono ?_
                      rintro e w' ⟨rfl, rfl⟩
                      go_wp2
                      go_roundw
                      case rel => exact ⟨j + 1, by omega, by go_num, HB6, HV⟩
                      case measure => simp [intOf]; omega
                    · have hji : ¬ (j : Int) < (q : Int) := by omega
                      go_wp2
                      go_ret
                      exact ⟨rfl, HBJ.out⟩
                · obtain ⟨hb1, hb2, hb3⟩ := best_at HBF.out HEA.out
                  have hb0 : (0 : Int) ≤ (b : Int) := by omega
                  have HA1 := keepHid hb1
                  have HA2 := keepHid hb2
                  have HA3 := keepHid hb3
                  clear hb1 hb2 hb3
                  go_wp2_with fail
                  go_loopw [22] (fun i wv => ∃ j : Nat, j ≤ q ∧ i = .int .i64 j ∧ Hid (Below w.heap.size w wv) ∧ ((Hid (Wat wv H H g (rs.map auOf) (s.take j)) ∧ j < α) ∨ (Hid (Wov wv g α) ∧ α ≤ j))) (fun i _ => q - (intOf i).toNat)
                  case atStart => exact ⟨0, Nat.zero_le _, rfl, HBY, .inl ⟨HWT, HA1.out⟩⟩
                  case round =>
                    obtain ⟨j, hj, rfl, HBJ, hst⟩ := hrel
                    generalize wr = wv at *
                    rcases Nat.lt_or_ge j q with hjl | hjg
                    · have hji : (j : Int) < (q : Int) := by omega
                      obtain ⟨c, hcc⟩ : ∃ c, s[j]? = some c := ⟨_, List.getElem?_eq_getElem (by rw [HQ.out]; exact hjl)⟩
                      have hix := run_idx hcc (j : Int) rfl
                      rcases hst with ⟨HW, hja⟩ | ⟨HV, hja⟩
                      · skip
                        have HTK : Hid (s.take j ++ [c] = s.take (j + 1)) := keepHid (List.take_succ_of hcc).symm
                        have HP := keepHid (put_wait HW.out c (by rw [List.length_take]; omega))
                        rw [HTK.out] at HP
                        have hlen : (s.take (j + 1)).length = j + 1 := by rw [List.length_take, HQ.out]; omega
                        have HLEN := keepHid hlen
                        clear hcc hlen
                        go_wp2_with fail
                        with_reducible refine HP.out.mono ?_
                        rintro e w6 ⟨hcase, ht6⟩
                        have HB6 := keepHid (HBJ.out.trans (ht6.below (B := w.heap.size) (fun b e => by rw [e]; exact HG.out) HBJ.out.size))
                        clear ht6
                        rcases Nat.lt_or_ge (j + 1) α with hlt | hge
                        · have hnone : armA (rs.map auOf) (s.take (j + 1)) = none := best_before HBF.out HEA.out (by rw [HQ.out]; omega) hlt
                          rw [hnone] at hcase
                          rcases hcase with ⟨i, ha, _⟩ | ⟨_, rfl, hw6⟩
                          · cases ha
                          have HV := keepHid hw6
                          have HSE := keepHid (seen_any hw6.cells)
                          have HOV := keepHid (over_any hw6.cells)
                          rw [HLEN.out, show ((j + 1 : Nat) : Int) = (j : Int) + 1 by omega] at HSE
                          have hmin := fun W ts t => min_s9 ts t j (α : Int) (j + 1) (by omega) W
                          simp only [show ((j + 1 : Nat) : Int) = (j : Int) + 1 by omega] at hmin
                          have hgei : ¬ (α : Int) ≤ (j : Int) + 1 := by omega
                          have hz : (((j : Int) + 1) == (α : Int)) = false := by simp only [beq_eq_false_iff_ne, ne_eq]; omega
                          clear hw6 hnone
                          go_wp2_with fail
                          with_reducible refine HSE.out.mono ?_
                          rintro e w' ⟨rfl, rfl⟩
                          go_wp2_with fail
                          with_reducible refine HOV.out.mono ?_
                          rintro e w' ⟨rfl, rfl⟩
                          go_wp2
                          go_roundw
                          case rel => exact ⟨j + 1, by omega, by go_num, HB6, .inl ⟨HV, hlt⟩⟩
                          case measure => simp [intOf]; omega
                        · have hαj : j + 1 = α := by omega
                          rw [hαj, HA3.out] at hcase
                          rcases hcase with ⟨i, ha, rfl, hv6⟩ | ⟨ha, _⟩
                          · injection ha with ha
                            subst ha
                            rw [← hαj, HLEN.out, hαj] at hv6
                            have HV := keepHid hv6
                            have HSE := keepHid (seen_any hv6.cells)
                            have HOV := keepHid (over_any hv6.cells)
                            have hmin := fun W ts t => min_s9 ts t j (α : Int) α (by omega) W
                            have hgei : (α : Int) ≤ (j : Int) + 1 := by omega
                            have hz : (((j : Int) + 1) == (α : Int)) = true := by simp only [beq_iff_eq]; omega
                            have HJA : Hid (α ≤ j + 1) := keepHid (by omega)
                            clear hv6 hαj
                            go_wp2_with fail
                            with_reducible refine HSE.out.mono ?_
                            rintro e w' ⟨rfl, rfl⟩
                            go_wp2_with fail
                            with_reducible refine HOV.out.mono ?_
                            rintro e w' ⟨rfl, rfl⟩
                            go_wp2
                            go_roundw
                            case rel => exact ⟨j + 1, by omega, by go_num, HB6, .inr ⟨HV, HJA.out⟩⟩
                            case measure => simp [intOf]; omega
                          · cases ha
                      · have HP := keepHid (put_over HV.out (c.toNat : Int))
                        have HSE := keepHid (seen_any HV.out.cells)
                        have HOV := keepHid (over_any HV.out.cells)
                        have hmin := fun W ts t => min_s9 ts t j (α : Int) α (by omega) W
                        have hgei : (α : Int) ≤ (j : Int) + 1 := by omega
                        have hz : (((j : Int) + 1) == (α : Int)) = false := by simp only [beq_eq_false_iff_ne, ne_eq]; omega
                        clear hcc
                        go_wp2_with fail
                        with_reducible refine HP.out.mono ?_
                        rintro e w' ⟨rfl, rfl⟩
                        go_wp2_with fail
                        with_reducible refine HSE.out.mono ?_
                        rintro e w' ⟨rfl, rfl⟩
                        go_wp2_with fail
                        with_reducible refine HOV.out.mono ?_
                        rintro e w' ⟨rfl, rfl⟩
                        go_wp2
                        go_roundw
                        case rel => exact ⟨j + 1, by omega, by go_num, HBJ, .inr ⟨HV, by omega⟩⟩
                        case measure => simp [intOf]; omega
                    · have hji : ¬ (j : Int) < (q : Int) := by omega
                      clear hst
                      go_wp2
                      go_ret
                      exact ⟨rfl, HBJ.out⟩

set_option maxRecDepth 100000 in
theorem lifted (os : Os) (started : os.Started) (H : Type) (enc : TypeId × Value → H) :
    ReturnsInHanded {} Tryd.checked os 3 .any (fun w args => (Rows.expectFirstSpec.pre enc Tryd.prog Tryd.f3 [] false w args ∧ laidMetH Tryd.prog laidR w) ∧ sizedMet enc Tryd.prog Tryd.f3 (OpenSpec.ofChange Rows.expectFirstSpec) false w args) (Rows.expectFirstSpec.post enc Tryd.prog Tryd.f3 false true false false) := by
  refine returnsInHanded_of_change_and (C := Tryd.checked) (X := fun w _ => laidMetH Tryd.prog laidR w) (fun _ _ _ hh h => h.of_heap hh) own started (by kernel_rfl) Tryd.func3
    (ChangeSpec.witness_shaped (enc := enc) (C := Tryd.checked) (os := os) (X := fun w _ => laidMetH Tryd.prog laidR w) false (World.doorLaid Tryd.prog 400 os) #[.slice none 0 0, .slice none 0 0] 8 rfl (World.shaped_of_RefB (by kernel_rfl) (by kernel_rfl)) (by kernel_rfl) (by kernel_rfl) (by kernel_rfl) (doorR os _)) ?_
  intro W base args ds gs before hval0 hW hcnd hsz0 hL _
  have hsz : (DataW.weightsEach Tryd.prog (Tryd.f3.params.toList ++ Rows.expectFirstSpec.plain.varTypes Tryd.prog) (ds ++ gs)).all (· ≤ reachBytes) = true := hsz0
  clear hsz0
  have hval : ∀ (j : Nat) t v, Tryd.f3.params[j]? = some t → args[j]? = some v → Value.okWide Tryd.prog W .any base t v := hval0
  have hW' := hW
  obtain ⟨p, q, hA0, hV, rfl, hfz, hnd⟩ := hW
  have hA : DataW.TrodAll enc Tryd.prog W 0 (fun _ => true) true Tryd.f3.params.toList args.toList ds p := hA0
  rw [Tryd.params3] at hA hval hsz
  obtain ⟨v0, vs0, d0, ds0, p0, q0, hargs, rfl, rfl, h0, r0⟩ := trodAll_cons hA
  obtain ⟨v1, vs1, d1, ds1, p1, q1, rfl, rfl, rfl, h1, r1⟩ := trodAll_cons r0
  obtain ⟨rfl, rfl, rfl⟩ := trodAll_nil r1
  obtain rfl : args = #[v0, v1] := by cases args; simp_all
  obtain ⟨rfl, rfl⟩ := trodVars_none hV
  have k0 := h0
  have lt0 : ∀ x ∈ p0, x.block < W.heap.size := by obtain ⟨m, hm⟩ := k0; exact DataW.trod_lt m _ _ _ hm
  have k1 := h1
  have lt1 : ∀ x ∈ p1, x.block < W.heap.size := by obtain ⟨m, hm⟩ := k1; exact DataW.trod_lt m _ _ _ hm
  obtain ⟨a0, n0, c0, y0, rfl, w0, l0, s0, b0⟩ := open_rows Tryd.underlying22 Tryd.underlying23 Tryd.underlying5 (by kernel_rfl) (by kernel_rfl) (hval 0 22 v0 rfl rfl) h0
  obtain ⟨a1, n1, c1, b1, rfl, w1, l1, s1⟩ := open_bys Tryd.underlying23 Tryd.underlying5 (by kernel_rfl) (by kernel_rfl) (hval 1 23 v1 rfl rfl) (fun _ => rfl) h1 (fun el sp hd => sized_slice hsz (j := 1) (t := 23) (e := 5) rfl (by rw [hd]; rfl) Tryd.underlying23)
  clear hA0 hval0
  refine (walk a0 n0 c0 y0 a1 n1 c1 b1 W (tabsR hL) w0 l0 s0 w1 l1 s1).mono fun e W' ⟨he, bel⟩ => ?_
  subst he
  exact ⟨_, rfl, _, _, _, [], _, [], hW', trodAll_mk1 (shut_bool Tryd.underlying4 _), (trodAll_cons_mk (Below.trod laidOut (by kernel_rfl) (of_decide_eq_true (by kernel_rfl)) k0 bel lt0) (trodAll_cons_mk (Below.trod laidOut (by kernel_rfl) (of_decide_eq_true (by kernel_rfl)) k1 bel lt1) trodAll_mk0)), rfl, bel.frame _, fun h => by cases h⟩

theorem over : Rows.expectFirstRow.holds Tryd.pinned (OpenSpec.ofChange Rows.expectFirstSpec) :=
  OpenClaim.holds_of_wide 3 Tryd.f3 rfl rfl rfl rfl rfl rfl rfl ⟨rfl, rfl, rfl, rfl, rfl⟩ rfl rfl rfl rfl rfl (by kernel_rfl) Tryd.func3 (by kernel_rfl)
    (of_decide_eq_true (by kernel_rfl)) (by unfold Func.isWrapper; first | (rw [if_pos (by decide +kernel)]; kernel_rfl) | (rw [if_neg (by decide +kernel)]; exact ⟨rfl, rfl⟩))
    (fun os started H enc _ => lifted os started H enc)

/-- The card: what the row lists is tied to the program's own text. -/
theorem proved : Rows.ExpectFirstCardSaid :=
  Claim7.holds_tied_plain_at .later [] [.handle] true Rows.expectFirstCard.stood.harness true
    over (fun _ h => by cases h) (by kernel_rfl) (fun _ h => by cases h) expectFirst_row_tie rfl ⟨rfl, rfl⟩ (by kernel_rfl) rfl
    (fun f fn hf hfn => by
      obtain rfl : f = 3 := Option.some.inj ((show Tryd.prog.funcNamed "lifeline/lifelinelaw09.ExpectFirst" = some 3 by kernel_rfl).symm.trans hf) |>.symm
      obtain rfl : fn = Tryd.f3 := (Option.some.inj (Tryd.func3.symm.trans hfn)).symm
      exact ⟨by kernel_rfl, fun j t ht => by
        rw [Tryd.params3] at ht
        have hm : t ∈ [22, 23] := by simpa using Array.mem_of_getElem? ht
        have hall : ([22, 23].all fun u => !Tryd.prog.wantsStandIn u) = true := by kernel_rfl
        exact (show Tryd.prog.wantsStandIn t = false by simpa using List.all_eq_true.1 hall t hm)⟩)
    (by kernel_rfl)
end Go.Proofs.YtgidoieppplhpaaDoor.expectFirst
