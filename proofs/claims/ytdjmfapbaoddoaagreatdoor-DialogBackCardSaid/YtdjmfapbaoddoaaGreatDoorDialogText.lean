/-
  A dialogue's text: package dialog's quoted, arms, rest, line and Text.
-/
import Derived.Test.YtdjmfapbaoddoaaGreatDoorDialogRows
import Derived.Test.YtdjmfapbaoddoaaGreatDoorDialogTake
import Derived.Test.YtdjmfapbaoddoaaGreatDoorItoa
import Derived.Test.YtdjmfapbaoddoaaGreatDoorBuilderS
import Derived.Test.YtdjmfapbaoddoaaGreatDoorMinMax
import Derived.Lib.QuietBelow
import Derived.Deep.DeepCutAuto
import Derived.Deep.RegionHeld3
import Derived.Deep.RegionWith
namespace Go.Proofs.YtdjmfapbaoddoaaGreatDoor
open Go.RowKit
set_option linter.unusedVariables false

theorem write_str2 (b : Nat) (l s : List UInt8) (w : World) (h : Bld w b l) (hl : l.length + s.length ≤ 140737488355328) (hb : b ≤ w.heap.size) :
    Calls Tryz.prog 23 #[.pointer (some ⟨b, 0, none⟩), .string (strB s)] w fun e w' => e = .returned (.tuple #[.int .i64 (s.length : Int), .nilIface]) ∧ Bld w' b (l ++ s) ∧ Below b w w' ∧ ∀ g t cs, g ≠ b → t ≠ 5 → Blk w g t cs → Blk w' g t cs :=
  (writeString_any b b _ (strB s) w h (by rw [Lib.byteCells_length, strB_size]; exact hl) hb).mono fun e w' ⟨he, h1, h2, h3⟩ => ⟨by rw [he, strB_size], by
    show Lib.IsBuilderF _ _ b b (Lib.byteCells (l ++ s)) w'
    rw [Lib.byteCells_append, ← strCells_strB s]; exact Or.inr h1, h2, fun g t cs hg ht hk => h3 g _ hk (by simpa using hg) (fun c fz e => ht (by injection e))⟩
theorem quoted_any (l : List UInt8) (hl : l.length ≤ 1048576) (w : World) :
    Calls Tryz.prog 59 #[.string (strB l)] w fun e w' => e = .returned (.string (strB (quoE l))) ∧ Below w.heap.size w w' := by
  have HQ := keepHid (quote_any l hl w)
  obtain ⟨b, hb⟩ := quoV_is l
  rw [hb] at HQ
  clear hb hl
  generalize strB (quoE l) = Q at *
  generalize strB l = X at *
  go_enter Tryz.func59, Tryz.ntmps59
  go_wp2_with fail
  refine HQ.out.mono ?_
  rintro e w1 ⟨rfl, hb1⟩
  have HB1 := keepHid hb1
  clear hb1
  go_wp2
  go_ret
  exact ⟨rfl, HB1.out⟩
theorem arms_take {rs : List Ar} {k : Nat} {a : Ar} (h : rs[k]? = some a) : armsL (rs.take (k + 1)) = armsL (rs.take k) ++ (if k = 0 then [] else [44, 32]) ++ armL a := by
  rw [List.take_succ_of h, arms_snoc]
  congr 2
  by_cases hk : k = 0
  · subst hk; simp
  · have hl : k < rs.length := (List.getElem?_eq_some_iff.1 h).1
    rw [if_neg hk, if_neg]
    intro e
    have := congrArg List.length e
    rw [List.length_take, List.length_nil] at this
    omega
theorem arms_app (a b : List Ar) : (armsL a).length ≤ (armsL (a ++ b)).length := by
  cases a with
  | nil => simp [armsL]
  | cons x r => simp [armsL]
theorem arms_take_le (rs : List Ar) (k : Nat) : (armsL (rs.take k)).length ≤ (armsL rs).length := by
  have := arms_app (rs.take k) (rs.drop k)
  rwa [List.take_append_drop] at this
set_option maxRecDepth 100000 in
set_option maxHeartbeats 8000000 in
theorem darms_any (rs : List Ar) (A : Option Addr) (n c : Nat) (hF : ∀ a ∈ rs, a.pat.length ≤ 1048576) (ht : (armsL rs).length ≤ 70368744177664) (w : World) (hS : ArS w A n rs) :
    Calls Tryz.prog 60 #[.slice A n c] w fun r w' => r = .returned (.string (strB (armsL rs))) ∧ Below w.heap.size w w' := by
  obtain ⟨w1, hw1⟩ : ∃ w1, w.alloc (.cells #[.pointer none, .slice none 0 0] 67) = w1 := ⟨_, rfl⟩
  have HI1 : Hid (Bld w1 w.heap.size (armsL (rs.take 0))) := keepHid (by rw [← hw1]; exact Lib.IsBuilderF.of (Lib.fresh_isBuilder _ _ w))
  have HB1 : Hid (Below w.heap.size w w1) := keepHid (by rw [← hw1]; exact (Below.refl _ w).alloc (Nat.le_refl _) _)
  have HS := keepHid hS
  have HF := keepHid hF
  have HTL := keepHid ht
  have HN := keepHid hS.len
  have hn : n ≤ 9223372036854775807 := hS.2.1
  have HC : Hid (strB [44, 32] = ⟨#[44, 32]⟩) := keepHid rfl
  clear hS hF ht
  go_enter Tryz.func60, Tryz.ntmps60
  go_wp2_with fail
  try rw [hw1]
  clear hw1
  go_loopw [8] (fun iv wr => ∃ k : Nat, k ≤ n ∧ iv = .int .i64 (k : Int) ∧ Hid (Bld wr w.heap.size (armsL (rs.take k))) ∧ Hid (Below w.heap.size w wr)) (fun iv _ => n - (intOf iv).toNat)
  case atStart => exact ⟨0, Nat.zero_le _, rfl, HI1, HB1⟩
  case round =>
    obtain ⟨k, hk, rfl, HI, HB⟩ := hrel
    generalize wr = wq at *
    by_cases hlt : k < n
    · obtain ⟨a, ha⟩ : ∃ a, rs[k]? = some a := ⟨_, List.getElem?_eq_getElem (by rw [HN.out]; exact hlt)⟩
      have hfp := HF.out a (List.mem_of_getElem? ha)
      obtain ⟨ad, rfl, hadl, a0, a1⟩ := (HS.out.below HB.out (Nat.le_refl _)).at_ ha
      have HTK := keepHid (arms_take ha)
      have HLN : Hid ((armsL (rs.take k)).length + (if k = 0 then [] else [44, 32] : List UInt8).length + (armL a).length ≤ 70368744177664) := keepHid (by
        have h1 := arms_take_le rs (k + 1)
        rw [HTK.out, List.length_append, List.length_append] at h1
        have := HTL.out
        omega)
      have hk' : (k : Int) < (n : Int) := by omega
      have HQ := keepHid (fun w => quoted_any a.pat hfp w)
      have HAL : Hid (armL a = quoE a.pat ++ cGo ++ a.dst) := keepHid rfl
      have hl1 : (quoE a.pat).length + 4 + a.dst.length ≤ 70368744177664 := by
        have := HLN.out
        rw [HAL.out, List.length_append, List.length_append] at this
        have e : cGo.length = 4 := rfl
        rw [e] at this
        omega
      have k1 : ∀ w, (Op.stringOp .add (strB (quoE a.pat)) ⟨#[32, 103, 111, 32]⟩).run Tryz.prog w = .ok (.string (strB (quoE a.pat ++ cGo))) w := fun w => run_strAdd _ cGo (by have e : cGo.length = 4 := rfl; omega) w
      have k2 : ∀ w, (Op.stringOp .add (strB (quoE a.pat ++ cGo)) (strB a.dst)).run Tryz.prog w = .ok (.string (strB (armL a))) w := fun w => by rw [HAL.out]; exact run_strAdd _ _ (by have e : cGo.length = 4 := rfl; rw [List.length_append, e]; omega) w
      obtain ⟨w2, hw2⟩ : ∃ w2, wq.alloc (.cells #[.string (strB a.pat), .string (strB a.dst)] 51) = w2 := ⟨_, rfl⟩
      have hK2 : Blk w2 wq.heap.size 51 #[.string (strB a.pat), .string (strB a.dst)] := by rw [← hw2]; exact Blk.new wq _ _
      have hB2 : Below wq.heap.size wq w2 := by rw [← hw2]; exact (Below.refl _ _).alloc (Nat.le_refl _) _
      have HK2 := keepHid hK2
      have HI2 := keepHid (bld_below HI.out hB2)
      have HB2 := keepHid (HB.out.trans (hB2.mono HB.out.size))
      have HBN : Hid (wq.heap.size ≠ w.heap.size) := keepHid (by
        have := HB.out.size
        have : w.heap.size < wq.heap.size := by
          rcases HI.out with h | h <;> (obtain ⟨_, v, h1, _⟩ := h; exact (Array.getElem?_eq_some_iff.1 h1).1)
        omega)
      clear ha hK2 hB2 HI hfp hl1
      generalize hPA : strB a.pat = PA at *
      generalize hDA : strB a.dst = DA at *
      generalize hLA : armL a = LA at *
      generalize strB (quoE a.pat ++ cGo) = S2 at *
      generalize strB (quoE a.pat) = S1 at *
      by_cases h0 : k = 0
      · have h0I : ¬ 0 < (k : Int) := by omega
        rw [if_pos h0] at HTK HLN
        rw [List.append_nil] at HTK
        rw [List.length_nil] at HLN
        obtain ⟨w3, hw3⟩ : ∃ w3, w2 = w3 := ⟨_, rfl⟩
        rw [hw3] at HK2 HI2 HB2 hw2
        have HK3 := HK2
        have HI3 := HI2
        have HB3 := HB2
        obtain ⟨L0, hL0⟩ : ∃ L, armsL (rs.take k) = L := ⟨_, rfl⟩
        rw [hL0] at HI3 HTK HLN
        have HWS := keepHid (fun w' h1 h2 => write_str w.heap.size L0 LA w' h1 (by have := HLN.out; omega) h2)
        have HLL : Hid (armsL (rs.take (k + 1)) = L0 ++ LA) := HTK
        clear hw3 hL0 HTK HK2 HI2 HB2 h0
        have hk3 := HK3.out
        have b0 : w3.cell? ⟨wq.heap.size, 0, none⟩ = some (.string PA) := hk3.cell 0
        have b1 : w3.cell? ⟨wq.heap.size, 1, none⟩ = some (.string DA) := hk3.cell 1
        have HCL : Hid (∀ w', Below w3.heap.size w3 w' → ∀ w5, Below w'.heap.size w' w5 → Bld w5 w.heap.size L0 ∧ w5.cell? ⟨wq.heap.size, 1, none⟩ = some (.string DA) ∧ Below w.heap.size w w5) := keepHid (fun w' h w5 h5 => by
          have hb : Below w3.heap.size w3 w5 := h.trans (h5.mono h.size)
          exact ⟨bld_below HI3.out hb, (HK3.out.below hb HK3.out.lt).cell 1, HB3.out.trans (hb.mono HB3.out.size)⟩)
        clear hk3
        go_upto_region 7 with fail
        go_region_with (first
          | (go_at_call 59; (with_reducible refine (HQ.out _).mono ?_); rintro e w5 ⟨rfl, hb5⟩; obtain ⟨hi5, hc1, hs5⟩ := HCL.out _ (by first | exact Below.refl _ _ | exact (Below.refl _ _).drew) _ hb5; have HI5 := keepHid hi5; have HS5 := keepHid hs5; clear hi5 hs5 hb5)
          | (go_at_call 23; (refine (HWS.out _ (by exact HI5.out) (by exact HS5.out.size)).mono ?_); rintro e w6 ⟨rfl, hi6, hb6⟩; have HI6 := keepHid hi6; have HB6 := keepHid (HS5.out.trans hb6); clear hi6 hb6))
        all_goals
          go_wp2
          go_roundw
          case rel => exact ⟨k + 1, by omega, by go_num, keepHid (by rw [HLL.out]; exact HI6.out), HB6⟩
          case measure => simp [intOf]; omega
      · have h0I : 0 < (k : Int) := by omega
        rw [if_neg h0] at HTK HLN
        have e2 : ([44, 32] : List UInt8).length = 2 := rfl
        rw [e2] at HLN
        have HW0 := keepHid (show Calls Tryz.prog 23 #[.pointer (some ⟨w.heap.size, 0, none⟩), .string ⟨#[44, 32]⟩] w2 _ from write_str2 w.heap.size (armsL (rs.take k)) [44, 32] w2 HI2.out (by rw [e2]; have := HLN.out; omega) HB2.out.size)
        obtain ⟨L0, hL0⟩ : ∃ L, armsL (rs.take k) ++ [44, 32] = L := ⟨_, rfl⟩
        have hl0 : L0.length = (armsL (rs.take k)).length + 2 := by rw [← hL0, List.length_append]; rfl
        rw [hL0] at HW0 HTK
        have HWS := keepHid (fun w' h1 h2 => write_str w.heap.size L0 LA w' h1 (by have := HLN.out; omega) h2)
        have HLL : Hid (armsL (rs.take (k + 1)) = L0 ++ LA) := HTK
        clear hL0 hl0 e2 h0 HTK HI2
        go_wp2_with fail
        try rw [hw2]
        clear hw2
        refine HW0.out.mono ?_
        rintro e w3 ⟨rfl, hi3, hb3, hk3'⟩
        have HI3 := keepHid hi3
        have HB3 := keepHid (HB2.out.trans hb3)
        have HK3 : Hid (Blk w3 wq.heap.size 51 #[.string PA, .string DA]) := keepHid (hk3' _ _ _ HBN.out (by decide) HK2.out)
        clear hi3 hb3 hk3' HW0
        have hk3 := HK3.out
        have b0 : w3.cell? ⟨wq.heap.size, 0, none⟩ = some (.string PA) := hk3.cell 0
        have b1 : w3.cell? ⟨wq.heap.size, 1, none⟩ = some (.string DA) := hk3.cell 1
        have HCL : Hid (∀ w', Below w3.heap.size w3 w' → ∀ w5, Below w'.heap.size w' w5 → Bld w5 w.heap.size L0 ∧ w5.cell? ⟨wq.heap.size, 1, none⟩ = some (.string DA) ∧ Below w.heap.size w w5) := keepHid (fun w' h w5 h5 => by
          have hb : Below w3.heap.size w3 w5 := h.trans (h5.mono h.size)
          exact ⟨bld_below HI3.out hb, (HK3.out.below hb HK3.out.lt).cell 1, HB3.out.trans (hb.mono HB3.out.size)⟩)
        clear hk3
        go_upto_region 7 with fail
        go_region_with (first
          | (go_at_call 59; (with_reducible refine (HQ.out _).mono ?_); rintro e w5 ⟨rfl, hb5⟩; obtain ⟨hi5, hc1, hs5⟩ := HCL.out _ (by first | exact Below.refl _ _ | exact (Below.refl _ _).drew) _ hb5; have HI5 := keepHid hi5; have HS5 := keepHid hs5; clear hi5 hs5 hb5)
          | (go_at_call 23; (refine (HWS.out _ (by exact HI5.out) (by exact HS5.out.size)).mono ?_); rintro e w6 ⟨rfl, hi6, hb6⟩; have HI6 := keepHid hi6; have HB6 := keepHid (HS5.out.trans hb6); clear hi6 hb6))
        all_goals
          go_wp2
          go_roundw
          case rel => exact ⟨k + 1, by omega, by go_num, keepHid (by rw [HLL.out]; exact HI6.out), HB6⟩
          case measure => simp [intOf]; omega
    · obtain rfl : k = n := by omega
      have hall : rs.take k = rs := List.take_of_length_le (by rw [HN.out]; exact Nat.le_refl _)
      rw [hall] at HI
      have HSS := keepHid (btext_any w.heap.size (armsL rs) wq HI.out HB.out.size)
      clear hall
      go_wp2_with fail
      refine HSS.out.mono ?_
      rintro r w2 ⟨rfl, hb2⟩
      have HB2 := keepHid (HB.out.trans hb2)
      clear hb2
      go_wp2
      go_ret
      exact ⟨rfl, HB2.out⟩
end Go.Proofs.YtdjmfapbaoddoaaGreatDoor
