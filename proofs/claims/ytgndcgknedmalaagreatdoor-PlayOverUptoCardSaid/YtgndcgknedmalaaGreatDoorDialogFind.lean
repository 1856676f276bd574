/-
  Where a label is: package dialog's Find.
-/
import Derived.Test.YtgndcgknedmalaaGreatDoorDialogRows
import Derived.Test.YtgndcgknedmalaaGreatDoorStr
import Derived.LoopTactic
import Derived.OpenShut
namespace Go.Proofs.YtgndcgknedmalaaGreatDoor
open Go.RowKit
set_option linter.unusedVariables false

/-! ### where a label is -/
def findG (ls : List (List UInt8)) (l : List UInt8) (i : Nat) : Int := match ls with
  | [] => -1
  | x :: r => if x = l then (i : Int) else findG r l (i + 1)
def findS (ss : List Sp) (l : List UInt8) : Int := if l = [] then -1 else findG (ss.map Sp.label) l 0
theorem find_drop {ss : List Sp} {k : Nat} {x : Sp} {l : List UInt8} (h : ss[k]? = some x) : findG ((ss.drop k).map Sp.label) l k = if x.label = l then (k : Int) else findG ((ss.drop (k + 1)).map Sp.label) l (k + 1) := by
  obtain ⟨hlt, rfl⟩ := List.getElem?_eq_some_iff.1 h
  rw [List.drop_eq_getElem_cons hlt, List.map_cons]
  rfl
set_option maxRecDepth 100000 in
set_option maxHeartbeats 4000000 in
theorem dfind_any (ss : List Sp) (l : List UInt8) (A : Option Addr) (n c : Nat) (w : World) (hS : StS w A n ss) :
    Calls Tryz.prog 27 #[.slice A n c, .string (strB l)] w fun r w' => r = .returned (.int .i64 (findS ss l)) ∧ Below w.heap.size w w' := by
  have hse : (strB l).toList = l := strB_toList _
  have hbeq := fun y => strB_beq y l
  by_cases h0 : l = []
  · have hR : findS ss l = -1 := by unfold findS; rw [if_pos h0]
    rw [hR]
    have hse2 : (strB l).toList = [] := by rw [hse]; exact h0
    have hse3 : (strB l).toList.isEmpty = true := by rw [hse2]; rfl
    clear hbeq hse hS hR h0
    generalize strB l = X at *
    go_enter Tryz.func27, Tryz.ntmps27
    go_wp2
    go_ret
    exact ⟨rfl, Below.refl _ _⟩
  have hse2 : ¬ (strB l).toList = [] := by rw [hse]; exact h0
  have hse3 : (strB l).toList.isEmpty = false := by rw [hse]; simpa using h0
  have HS := keepHid hS
  have HN := keepHid hS.len
  have hn : n ≤ 9223372036854775807 := hS.2.1
  have HR : Hid (findS ss l = findG ((ss.drop 0).map Sp.label) l 0) := keepHid (by unfold findS; rw [if_neg h0]; rfl)
  clear hS hse h0
  generalize strB l = X at *
  go_enter Tryz.func27, Tryz.ntmps27
  go_wp2_with fail
  go_loopw [11] (fun iv wr => ∃ k : Nat, k ≤ n ∧ iv = .int .i64 (k : Int) ∧ Hid (findS ss l = findG ((ss.drop k).map Sp.label) l k) ∧ Hid (Below w.heap.size w wr)) (fun iv _ => n - (intOf iv).toNat)
  case atStart => exact ⟨0, Nat.zero_le _, rfl, HR, keepHid (Below.refl _ _)⟩
  case round =>
    obtain ⟨k, hk, rfl, HK, HB⟩ := hrel
    generalize wr = wq at *
    by_cases hlt : k < n
    · obtain ⟨x, hx⟩ : ∃ x, ss[k]? = some x := ⟨_, List.getElem?_eq_getElem (by rw [HN.out]; exact hlt)⟩
      obtain ⟨ad, P, m, cc, rfl, hadl, a0, a1, a2, a3, a4, a5, a6, hA, hmc⟩ := (HS.out.below HB.out (Nat.le_refl _)).at_ hx
      have HFD := keepHid (find_drop (l := l) hx)
      have hk' : (k : Int) < (n : Int) := by omega
      obtain ⟨w2, hw2⟩ : ∃ w2, wq.alloc (.cells #[.string (strB x.label), .int .i64 x.kind, .string (strB x.text), .slice P m cc, .int .i64 x.n, .string (strB x.dst), .int .i64 x.pos] 26) = w2 := ⟨_, rfl⟩
      have hK2 : Blk w2 wq.heap.size 26 #[.string (strB x.label), .int .i64 x.kind, .string (strB x.text), .slice P m cc, .int .i64 x.n, .string (strB x.dst), .int .i64 x.pos] := by rw [← hw2]; exact Blk.new wq _ _
      have hB2 : Below wq.heap.size wq w2 := by rw [← hw2]; exact (Below.refl _ _).alloc (Nat.le_refl _) _
      have b0 := hK2.cell 0
      simp at b0
      have HB2 := keepHid (HB.out.trans (hB2.mono HB.out.size))
      have hq := hbeq x.label
      clear hx hK2 hB2 hA hmc
      generalize hLB : strB x.label = LB at *
      generalize strB x.text = TX at *
      generalize strB x.dst = DD at *
      by_cases hl : x.label = l
      · rw [decide_eq_true hl] at hq
        have HV : Hid (findS ss l = (k : Int)) := keepHid (by rw [HK.out, HFD.out, if_pos hl])
        clear hl hbeq hLB
        go_wp2
        try rw [hw2]
        go_ret
        exact ⟨by rw [HV.out]; rfl, HB2.out⟩
      · rw [decide_eq_false hl] at hq
        have HV : Hid (findS ss l = findG ((ss.drop (k + 1)).map Sp.label) l (k + 1)) := keepHid (by rw [HK.out, HFD.out, if_neg hl])
        clear hl hbeq hLB
        go_wp2
        try rw [hw2]
        go_roundw
        case rel => exact ⟨k + 1, by omega, by go_num, HV, HB2⟩
        case measure => simp [intOf]; omega
    · obtain rfl : k = n := by omega
      have HV : Hid (findS ss l = -1) := keepHid (by
        rw [HK.out, List.drop_of_length_le (by rw [HN.out]; exact Nat.le_refl _)]; rfl)
      clear hbeq
      go_wp2
      go_ret
      exact ⟨by rw [HV.out]; rfl, HB.out⟩
end Go.Proofs.YtgndcgknedmalaaGreatDoor
