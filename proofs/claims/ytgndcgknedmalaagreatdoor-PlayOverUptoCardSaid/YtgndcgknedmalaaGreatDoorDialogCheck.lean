/-
  A dialogue that is right: package dialog's patterns, targets, check and Check.
-/
import Derived.Test.YtgndcgknedmalaaGreatDoorDialogFind
import Derived.Test.YtgndcgknedmalaaGreatDoorExpectOf
import Derived.Lib.QuietBelow
namespace Go.Proofs.YtgndcgknedmalaaGreatDoor
open Go.RowKit
set_option linter.unusedVariables false

theorem infoStr : (Tryz.prog.info? 9).map (fun i => (i.zero, i.size, i.bytes)) = some (some (.string ⟨#[]⟩), 1, 16) := by kernel_rfl
abbrev OwnX (w : World) (base : Nat) (v : Value) (n : Nat) (xs : List (List UInt8)) : Prop := w.ownsRow base 9 1 v n (xs.map strV)
theorem OwnX.below {w w' : World} {base n : Nat} {v : Value} {xs : List (List UInt8)} (h : OwnX w base v n xs) (hb : Below w.heap.size w w') : OwnX w' base v n xs := own_keep h fun i _ hi => hb.block i hi
theorem OwnX.sl {w : World} {base n c : Nat} {A : Option Addr} {xs : List (List UInt8)} (h : OwnX w base (.slice A n c) n xs) : Sl strV w A n xs := by
  obtain ⟨A', c', e, h1, h2⟩ := own_val h
  exact Sl.of_own h (by injection e with e1 e2 e3; rw [← e3] at h2; omega)
set_option maxRecDepth 100000 in
set_option maxHeartbeats 4000000 in
theorem pats_any (rs : List Ar) (A : Option Addr) (n c : Nat) (hn9 : n ≤ 1000000) (w : World) (hS : ArS w A n rs) :
    Calls Tryz.prog 47 #[.slice A n c] w fun e w' => (∃ P cc, e = .returned (.slice P n cc) ∧ Sl strV w' P n (rs.map Ar.pat)) ∧ Below w.heap.size w w' := by
  have HS := keepHid hS
  have HN := keepHid hS.len
  have hn : n ≤ 9223372036854775807 := hS.2.1
  clear hS
  go_enter Tryz.func47, Tryz.ntmps47
  go_wp2_with fail
  go_loopw [8, 3] (fun iv v wr => ∃ (k : Nat) (P : Option Addr) (cc : Nat), k ≤ n ∧ iv = .int .i64 (k : Int) ∧ v = .slice P k cc ∧ Hid (OwnX wr w.heap.size (.slice P k cc) k ((rs.take k).map Ar.pat)) ∧ Hid (Below w.heap.size w wr)) (fun iv _ _ => n - (intOf iv).toNat)
  case atStart => exact ⟨0, none, 0, Nat.zero_le _, rfl, rfl, keepHid (World.ownsRow_nil _ _ _ _), keepHid (Below.refl _ _)⟩
  case round =>
    obtain ⟨k, P, cc, hk, rfl, rfl, HO, HB⟩ := hrel
    generalize wr = wq at *
    by_cases hlt : k < n
    · obtain ⟨a, ha⟩ : ∃ a, rs[k]? = some a := ⟨_, List.getElem?_eq_getElem (by rw [HN.out]; exact hlt)⟩
      obtain ⟨ad, rfl, hadl, a0, a1⟩ := (HS.out.below HB.out (Nat.le_refl _)).at_ ha
      have HTK : Hid ((rs.take (k + 1)).map Ar.pat = (rs.take k).map Ar.pat ++ [a.pat]) := keepHid (by rw [List.take_succ_of ha, List.map_append]; rfl)
      have hk' : (k : Int) < (n : Int) := by omega
      obtain ⟨w2, hw2⟩ : ∃ w2, wq.alloc (.cells #[.string (strB a.pat), .string (strB a.dst)] 28) = w2 := ⟨_, rfl⟩
      have hK2 : Blk w2 wq.heap.size 28 #[.string (strB a.pat), .string (strB a.dst)] := by rw [← hw2]; exact Blk.new wq _ _
      have hB2 : Below wq.heap.size wq w2 := by rw [← hw2]; exact (Below.refl _ _).alloc (Nat.le_refl _) _
      have b0 := hK2.cell 0
      simp at b0
      obtain ⟨w3, hw3⟩ : ∃ w3, w2.alloc (.cells #[.string (strB a.pat)] 9) = w3 := ⟨_, rfl⟩
      have hK3 : Blk w3 w2.heap.size 9 #[.string (strB a.pat)] := by rw [← hw3]; exact Blk.new w2 _ _
      have hB3 : Below w2.heap.size w2 w3 := by rw [← hw3]; exact (Below.refl _ _).alloc (Nat.le_refl _) _
      have HC3 : Hid (w3.cell? ⟨w2.heap.size, 0, none⟩ = some (strV a.pat)) := keepHid (hK3.cell 0)
      have HO3 := keepHid ((HO.out.below hB2).below hB3)
      have HB3 := keepHid ((HB.out.trans (hB2.mono HB.out.size)).trans (hB3.mono (Nat.le_trans HB.out.size hB2.size)))
      clear ha hK2 hB2 hK3 hB3 HO
      generalize hPA : strB a.pat = PA at *
      generalize strB a.dst = DA at *
      go_wp2_with (at_builtin; refine wpList_append_cell Tryz.underlying58 infoStr rfl (by omega) w3 rfl _ _ rfl w.heap.size (.slice P k cc) k ((rs.take k).map Ar.pat |>.map strV) (by rfl) HO3.out w2.heap.size (by rfl) (strV a.pat) HC3.out rfl (by omega) HB3.out.size ?_)
      intro P4 c4 w4 h4 h4g h4v
      have HO4 : Hid (OwnX w4 w.heap.size (.slice P4 (k + 1) c4) (k + 1) ((rs.take (k + 1)).map Ar.pat)) := keepHid (by rw [HTK.out]; simpa [OwnX] using h4)
      have HB4 := keepHid (HB3.out.trans (below_grown h4g (fun i hi => (World.ownsRow.lt HO3.out i hi).1) HB3.out.size))
      clear h4 h4g h4v hw2 hw3 b0
      go_wp2
      go_roundw
      case rel => exact ⟨k + 1, P4, c4, by omega, by go_num, by go_num, HO4, HB4⟩
      case measure => simp [intOf]; omega
    · obtain rfl : k = n := by omega
      have hall : rs.take k = rs := List.take_of_length_le (by rw [HN.out]; exact Nat.le_refl _)
      rw [hall] at HO
      go_wp2
      go_ret
      exact ⟨⟨P, cc, rfl, HO.out.sl⟩, HB.out⟩
/-- The labels where a step may go on. -/
def tgtS (x : Sp) : List (List UInt8) := if x.kind = 2 ∨ x.kind = 3 then [x.dst] else if x.kind = 1 then x.dst :: x.arms.map Ar.dst else []
set_option maxRecDepth 100000 in
set_option maxHeartbeats 4000000 in
theorem tgts_any (x : Sp) (P : Option Addr) (m c : Nat) (hm9 : m ≤ 1000000) (w : World) (hA : ArS w P m x.arms) :
    Calls Tryz.prog 49 #[.agg #[.string (strB x.label), .int .i64 x.kind, .string (strB x.text), .slice P m c, .int .i64 x.n, .string (strB x.dst), .int .i64 x.pos]] w fun e w' => (∃ Q n cc, e = .returned (.slice Q n cc) ∧ Sl strV w' Q n (tgtS x)) ∧ Below w.heap.size w w' := by
  obtain ⟨w1, hw1⟩ : ∃ w1, w.alloc (.cells #[.string (strB x.label), .int .i64 x.kind, .string (strB x.text), .slice P m c, .int .i64 x.n, .string (strB x.dst), .int .i64 x.pos] 26) = w1 := ⟨_, rfl⟩
  have hK1 : Blk w1 w.heap.size 26 #[.string (strB x.label), .int .i64 x.kind, .string (strB x.text), .slice P m c, .int .i64 x.n, .string (strB x.dst), .int .i64 x.pos] := by rw [← hw1]; exact Blk.new w _ _
  have hB1 : Below w.heap.size w w1 := by rw [← hw1]; exact (Below.refl _ _).alloc (Nat.le_refl _) _
  have HA1 := keepHid (hA.below hB1 (Nat.le_refl _))
  have HB1 := keepHid hB1
  have HN := keepHid hA.len
  have HA0 := keepHid hA
  have c1 : w1.cell? ⟨w.heap.size, 1, none⟩ = some (.int .i64 x.kind) := hK1.cell 1
  have c5 : w1.cell? ⟨w.heap.size, 5, none⟩ = some (.string (strB x.dst)) := hK1.cell 5
  obtain ⟨w2, hw2⟩ : ∃ w2, w1.alloc (.cells #[.string (strB x.dst)] 9) = w2 := ⟨_, rfl⟩
  have hB2 : Below w1.heap.size w1 w2 := by rw [← hw2]; exact (Below.refl _ _).alloc (Nat.le_refl _) _
  have hO2 : OwnX w2 w.heap.size (.slice (some ⟨w1.heap.size, 0, none⟩) 1 1) 1 [x.dst] := by
    rw [← hw2]; exact World.ownsRow_lit (base := w.heap.size) (e := 9) (size := 1) w1 #[.string (strB x.dst)] 1 hB1.size (by unfold maxLen; omega) rfl
  have hK2 := hK1.below hB2 hK1.lt
  have HB2 := keepHid (hB1.trans (hB2.mono hB1.size))
  have HA2 := keepHid (HA1.out.below hB2 (Nat.le_refl _))
  have HO2 := keepHid hO2
  have d3 : w2.cell? ⟨w.heap.size, 3, none⟩ = some (.slice P m c) := hK2.cell 3
  clear hA hB1 hB2 hO2 hK1 hK2
  by_cases h1 : x.kind = 1
  · have e1 : (x.kind == 1) = true := by simp [h1]
    have e2 : (x.kind == 2) = false := by simp [h1]
    have e3 : (x.kind == 3) = false := by simp [h1]
    have HTG : Hid (tgtS x = x.dst :: x.arms.map Ar.dst) := keepHid (by unfold tgtS; rw [if_neg (by omega), if_pos h1])
    clear h1
    generalize tgtS x = TG at *
    generalize strB x.label = LB at *
    generalize strB x.text = TX at *
    generalize hDD : strB x.dst = DD at *
    generalize x.kind = KK at *
    go_enter Tryz.func49, Tryz.ntmps49
    go_wp2_with fail
    try rw [hw1]
    try rw [hw2]
    clear hw1 hw2 c1 c5 HA1 HB1
    go_loopw [22, 3] (fun iv v wr => ∃ (k : Nat) (Q : Option Addr) (cc : Nat), k ≤ m ∧ iv = .int .i64 (k : Int) ∧ v = .slice Q (k + 1) cc ∧ Hid (OwnX wr w.heap.size (.slice Q (k + 1) cc) (k + 1) (x.dst :: (x.arms.take k).map Ar.dst)) ∧ Hid (Below w.heap.size w wr)) (fun iv _ _ => m - (intOf iv).toNat)
    case atStart => exact ⟨0, _, _, Nat.zero_le _, rfl, rfl, HO2, HB2⟩
    case round =>
      obtain ⟨k, Q, cc, hk, rfl, rfl, HO, HB⟩ := hrel
      generalize wr = wq at *
      by_cases hlt : k < m
      · obtain ⟨a, ha⟩ : ∃ a, x.arms[k]? = some a := ⟨_, List.getElem?_eq_getElem (by rw [HN.out]; exact hlt)⟩
        obtain ⟨ad, rfl, hadl, a0, a1⟩ := (HA0.out.below HB.out (Nat.le_refl _)).at_ ha
        have HTK : Hid ((x.dst :: (x.arms.take (k + 1)).map Ar.dst) = (x.dst :: (x.arms.take k).map Ar.dst) ++ [a.dst]) := keepHid (by rw [List.take_succ_of ha, List.map_append]; rfl)
        have hk' : (k : Int) < (m : Int) := by omega
        obtain ⟨w3, hw3⟩ : ∃ w3, wq.alloc (.cells #[.string (strB a.pat), .string (strB a.dst)] 28) = w3 := ⟨_, rfl⟩
        have hK3 : Blk w3 wq.heap.size 28 #[.string (strB a.pat), .string (strB a.dst)] := by rw [← hw3]; exact Blk.new wq _ _
        have hB3 : Below wq.heap.size wq w3 := by rw [← hw3]; exact (Below.refl _ _).alloc (Nat.le_refl _) _
        have b1 := hK3.cell 1
        simp at b1
        obtain ⟨w4, hw4⟩ : ∃ w4, w3.alloc (.cells #[.string (strB a.dst)] 9) = w4 := ⟨_, rfl⟩
        have hK4 : Blk w4 w3.heap.size 9 #[.string (strB a.dst)] := by rw [← hw4]; exact Blk.new w3 _ _
        have hB4 : Below w3.heap.size w3 w4 := by rw [← hw4]; exact (Below.refl _ _).alloc (Nat.le_refl _) _
        have HC4 : Hid (w4.cell? ⟨w3.heap.size, 0, none⟩ = some (strV a.dst)) := keepHid (hK4.cell 0)
        have HO4 := keepHid ((HO.out.below hB3).below hB4)
        have HB4 := keepHid ((HB.out.trans (hB3.mono HB.out.size)).trans (hB4.mono (Nat.le_trans HB.out.size hB3.size)))
        clear ha hK3 hB3 hK4 hB4 HO
        generalize strB a.pat = PA at *
        generalize strB a.dst = DA at *
        go_wp2_with (at_builtin; refine wpList_append_cell Tryz.underlying58 infoStr rfl (by omega) w4 rfl _ _ rfl w.heap.size (.slice Q (k + 1) cc) (k + 1) ((x.dst :: (x.arms.take k).map Ar.dst) |>.map strV) (by rfl) HO4.out w3.heap.size (by rfl) (strV a.dst) HC4.out rfl (by omega) HB4.out.size ?_)
        intro P5 c5 w5 h5 h5g h5v
        have HO5 : Hid (OwnX w5 w.heap.size (.slice P5 (k + 1 + 1) c5) (k + 1 + 1) (x.dst :: (x.arms.take (k + 1)).map Ar.dst)) := keepHid (by rw [HTK.out]; simpa [OwnX] using h5)
        have HB5 := keepHid (HB4.out.trans (below_grown h5g (fun i hi => (World.ownsRow.lt HO4.out i hi).1) HB4.out.size))
        clear h5 h5g h5v hw3 hw4 b1
        go_wp2
        go_roundw
        case rel => exact ⟨k + 1, P5, c5, by omega, by go_num, by go_num, HO5, HB5⟩
        case measure => simp [intOf]; omega
      · obtain rfl : k = m := by omega
        have hall : x.arms.take k = x.arms := List.take_of_length_le (by rw [HN.out]; exact Nat.le_refl _)
        rw [hall] at HO
        go_wp2
        go_ret
        exact ⟨⟨Q, k + 1, cc, rfl, by rw [HTG.out]; exact HO.out.sl⟩, HB.out⟩
  · have e1 : (x.kind == 1) = false := by simp [h1]
    by_cases h2 : x.kind = 2
    · have e2 : (x.kind == 2) = true := by simp [h2]
      have HTG : Hid (tgtS x = [x.dst]) := keepHid (by unfold tgtS; rw [if_pos (.inl h2)])
      clear h1 h2
      generalize tgtS x = TG at *
      generalize strB x.label = LB at *
      generalize strB x.text = TX at *
      generalize hDD : strB x.dst = DD at *
      generalize x.kind = KK at *
      go_enter Tryz.func49, Tryz.ntmps49
      go_wp2
      try rw [hw1]
      try rw [hw2]
      go_ret
      exact ⟨⟨_, 1, 1, rfl, by rw [HTG.out]; exact HO2.out.sl⟩, HB2.out⟩
    · have e2 : (x.kind == 2) = false := by simp [h2]
      by_cases h3 : x.kind = 3
      · have e3 : (x.kind == 3) = true := by simp [h3]
        have HTG : Hid (tgtS x = [x.dst]) := keepHid (by unfold tgtS; rw [if_pos (.inr h3)])
        clear h1 h2 h3
        generalize tgtS x = TG at *
        generalize strB x.label = LB at *
        generalize strB x.text = TX at *
        generalize hDD : strB x.dst = DD at *
        generalize x.kind = KK at *
        go_enter Tryz.func49, Tryz.ntmps49
        go_wp2
        try rw [hw1]
        try rw [hw2]
        go_ret
        exact ⟨⟨_, 1, 1, rfl, by rw [HTG.out]; exact HO2.out.sl⟩, HB2.out⟩
      · have e3 : (x.kind == 3) = false := by simp [h3]
        have HTG : Hid (tgtS x = []) := keepHid (by unfold tgtS; rw [if_neg (by omega), if_neg h1])
        clear h1 h2 h3
        generalize tgtS x = TG at *
        generalize strB x.label = LB at *
        generalize strB x.text = TX at *
        generalize hDD : strB x.dst = DD at *
        generalize x.kind = KK at *
        go_enter Tryz.func49, Tryz.ntmps49
        go_wp2
        try rw [hw1]
        go_ret
        exact ⟨⟨none, 0, 0, rfl, by rw [HTG.out]; exact Sl.nil⟩, HB1.out⟩
/-- Nothing is wrong of this step. -/
structure ChkOk (ss : List Sp) (i : Nat) (x : Sp) : Prop where
  lab : findS (ss.take i) x.label < 0
  pat : x.kind = 1 → 1 ≤ x.arms.length ∧ x.arms.length ≤ 8 ∧ ∃ qs, of9 (x.arms.map Ar.pat) = .inl qs
  few : x.arms.length ≤ 1000000
  tgt : ∀ t ∈ tgtS x, 0 ≤ findS ss t
theorem run_upto7 (A : Option Addr) (n c i : Nat) (hi : i ≤ n) (hn : n ≤ c) (hc : c ≤ 9223372036854775807) (W : World) :
    (Instr.slice 29 (.slice A n c) none (some (.int .i64 (i : Int))) none).run Tryz.prog W = .ok (.slice A i c) W := by
  rw [run_slice_h W 29 A n c (by kernel_rfl) .i64 (i : Int) (by omega) (by omega)]
  have hs : ∀ W, (sizeOf (Tryz.prog.elem 29)).run Tryz.prog W = .ok 7 W := fun W => by kernel_rfl
  rw [hs]
  have ha : A.map (·.add (0 * 7)) = A := by
    cases A with
    | none => rfl
    | some ad =>
      have : ad.add 0 = ad := by unfold Addr.add; split <;> simp_all
      simp [this]
  show Result.ok (Value.slice (if c = 0 then A else A.map (·.add (0 * 7))) ((i : Int).toNat - 0) (c - 0)) W = _
  rw [ha]
  simp
set_option maxRecDepth 100000 in
set_option maxHeartbeats 8000000 in
theorem chk_any (ss : List Sp) (i : Nat) (x : Sp) (hx : ss[i]? = some x) (hOk : ChkOk ss i x) (A : Option Addr) (n c : Nat) (hnc : n ≤ c) (hc9 : c ≤ 9223372036854775807) (w : World) (hS : StS w A n ss) :
    Calls Tryz.prog 26 #[.slice A n c, .int .i64 (i : Int)] w fun e w' => e = .returned .nilIface ∧ Below w.heap.size w w' := by
  obtain ⟨ad, P, m, cc, rfl, hadl, a0, a1, a2, a3, a4, a5, a6, hA, hmc⟩ := hS.at_ hx
  have hin : i < n := by have := (List.getElem?_eq_some_iff.1 hx).1; have := hS.len; omega
  have hinI : (i : Int) < (n : Int) := by omega
  obtain ⟨w1, hw1⟩ : ∃ w1, w.alloc (.cells #[.string (strB x.label), .int .i64 x.kind, .string (strB x.text), .slice P m cc, .int .i64 x.n, .string (strB x.dst), .int .i64 x.pos] 26) = w1 := ⟨_, rfl⟩
  have hK1 : Blk w1 w.heap.size 26 #[.string (strB x.label), .int .i64 x.kind, .string (strB x.text), .slice P m cc, .int .i64 x.n, .string (strB x.dst), .int .i64 x.pos] := by rw [← hw1]; exact Blk.new w _ _
  have hB1 : Below w.heap.size w w1 := by rw [← hw1]; exact (Below.refl _ _).alloc (Nat.le_refl _) _
  have HS1 := keepHid (hS.below hB1 (Nat.le_refl _))
  have HA1 := keepHid (hA.below hB1 (Nat.le_refl _))
  have HB1 := keepHid hB1
  have HK1 := keepHid hK1
  have HML := keepHid hA.len
  have HOK := keepHid hOk
  have hsl := run_upto7 (some ad) n c i (by omega) hnc hc9
  have HF1 := keepHid (fun w' h => dfind_any (ss.take i) x.label (some ad) i c w' h)
  have HF2 := keepHid (fun t w' h => dfind_any ss t (some ad) n c w' h)
  have HTG := keepHid (fun w' h => tgts_any x P m cc (by have := hOk.few; have := hA.len; omega) w' h)
  have HS1i := keepHid (HS1.out.take (m := i) (by omega))
  obtain ⟨F1, hF1⟩ : ∃ F, findS (ss.take i) x.label = F := ⟨_, rfl⟩
  have hF1n : ¬ 0 ≤ F1 := by have := hOk.lab; omega
  rw [hF1] at HF1
  have c0 := hK1.cell 0
  have c1 := hK1.cell 1
  have c3 := hK1.cell 3
  simp at c0 c1 c3
  have d0 := fun q os => cell_regrown (show w1.cell? ⟨w.heap.size, 0, none⟩ = some (.string (strB x.label)) from c0) q os
  have CF := keepHid (fun d os => Calls.regrown_of (HF1.out (Sort.grow (redrawn w1 d) os) (HS1i.out.below (below_regrown w1 d os) (Nat.le_refl _))))
  generalize hLB : strB x.label = LB at *
  generalize hTX : strB x.text = TX at *
  generalize hDD : strB x.dst = DD at *
  clear hS hA hB1 hK1 hF1 hadl
  go_enter Tryz.func26, Tryz.ntmps26
  go_upto_region 2 with fail
  try rw [hw1]
  clear hw1 a0 a1 a2 a3 a4 a5 a6
  refine wp_region_quiet_below (by kernel_rfl) (by kernel_rfl) ?_
  repeat (go_big_quiet_step (first | (with_reducible exact CF.out _ _)))
  refine wpQuiet_nil ?_
  intro _ hw'
  obtain ⟨⟨dq, osq⟩, hw''⟩ := hw'
  subst hw''
  have HW2 := keepHid (below_regrown w1 dq osq)
  generalize Sort.grow (redrawn w1 dq) osq = w2 at *
  have hK2 := HK1.out.below HW2.out HK1.out.lt
  have g1 := hK2.cell 1
  have g3 := hK2.cell 3
  simp at g1 g3
  clear d0 CF hK2 c0 c1 c3
  by_cases hk1 : x.kind = 1
  · have e1 : (x.kind == 1) = true := by simp [hk1]
    obtain ⟨hp1, hp8, qs, hqs⟩ := HOK.out.pat hk1
    have hml := HML.out
    have HPA := keepHid (pats_any x.arms P m cc (by omega) w2 (HA1.out.below HW2.out (Nat.le_refl _)))
    have HQS := keepHid hqs
    have HL8 : Hid (1 ≤ (x.arms.map Ar.pat).length ∧ (x.arms.map Ar.pat).length ≤ 8) := keepHid (by rw [List.length_map]; exact ⟨hp1, hp8⟩)
    clear hp1 hp8 hqs hk1 hml
    go_wp2_with fail
    refine HPA.out.mono ?_
    rintro e w3 ⟨⟨PP, pc, rfl, hsl3⟩, hb3⟩
    have HOF := keepHid (ofw_any (c := pc) (x.arms.map Ar.pat) hsl3)
    have HW3 := keepHid (HW2.out.trans (hb3.mono HW2.out.size))
    clear hsl3 hb3 HPA
    go_wp2_with fail
    refine HOF.out.mono ?_
    rintro e w4 ⟨hb4, ⟨h8, _⟩ | ⟨_, _, ⟨rs', g4, A4, c4, _, rfl, _, _⟩ | ⟨xx, vv, hbad, _⟩⟩⟩
    · exfalso; have := HL8.out; omega
    · have HW4 := keepHid (HW3.out.trans (hb4.mono HW3.out.size))
      unfold ptrV
      clear hb4
      have hK4 := HK1.out.below HW4.out HK1.out.lt
      have e0 := hK4.cell 0; have e1' := hK4.cell 1; have e2 := hK4.cell 2; have e3 := hK4.cell 3; have e4 := hK4.cell 4; have e5 := hK4.cell 5; have e6 := hK4.cell 6
      simp at e0 e1' e2 e3 e4 e5 e6
      have HA4 := keepHid (HA1.out.below HW4.out (Nat.le_refl _))
      have HS4 := keepHid (HS1.out.below HW4.out (Nat.le_refl _))
      have HB4 := keepHid (HB1.out.trans (HW4.out.mono HB1.out.size))
      clear hK4
      go_wp2_with fail
      refine (HTG.out _ HA4.out).mono ?_
      rintro e w5 ⟨⟨Q, nq, cq, rfl, hsl5⟩, hb5⟩
      have HSL := keepHid hsl5
      have HS5 := keepHid (HS4.out.below hb5 (Nat.le_refl _))
      have HB5 := keepHid (HB4.out.trans (hb5.mono HB4.out.size))
      have hnq : nq ≤ 9223372036854775807 := hsl5.max
      have HNQ := keepHid hsl5.len
      clear hsl5 hb5 e0 e1' e2 e3 e4 e5 e6
      go_wp2_with fail
      go_loopw [40] (fun iv wr => ∃ j : Nat, j ≤ nq ∧ iv = .int .i64 (j : Int) ∧ Hid (Below w5.heap.size w5 wr)) (fun iv _ => nq - (intOf iv).toNat)
      case atStart => exact ⟨0, Nat.zero_le _, rfl, keepHid (Below.refl _ _)⟩
      case round =>
        obtain ⟨j, hj, rfl, HBW⟩ := hrel
        generalize wr = wq at *
        by_cases hlt : j < nq
        · obtain ⟨t, ht⟩ : ∃ t, (tgtS x)[j]? = some t := ⟨_, List.getElem?_eq_getElem (by rw [HNQ.out]; exact hlt)⟩
          obtain ⟨aq, rfl, haq, cq0⟩ := (HSL.out.below HBW.out).2.2 j t ht
          have cq1 : wq.cell? (aq.add j) = some (.string (strB t)) := cq0
          have HFT := keepHid (HF2.out t wq (HS5.out.below HBW.out (Nat.le_refl _)))
          obtain ⟨F2, hF2⟩ : ∃ F, findS ss t = F := ⟨_, rfl⟩
          have hF2n : 0 ≤ F2 := by rw [← hF2]; exact HOK.out.tgt t (List.mem_of_getElem? ht)
          have hF2n' : ¬ F2 < 0 := by omega
          rw [hF2] at HFT
          have hjI : (j : Int) < (nq : Int) := by omega
          clear ht cq0 hF2
          generalize strB t = T at *
          go_wp2_with fail
          refine HFT.out.mono ?_
          rintro e w6 ⟨rfl, hb6⟩
          have HB6 := keepHid (HBW.out.trans (hb6.mono HBW.out.size))
          clear hb6
          go_wp2
          go_roundw
          case rel => exact ⟨j + 1, by omega, by go_num, HB6⟩
          case measure => simp [intOf]; omega
        · obtain rfl : j = nq := by omega
          go_wp2
          go_ret
          exact ⟨rfl, HB5.out.trans (HBW.out.mono HB5.out.size)⟩
    · rw [HQS.out] at hbad; cases hbad
  · have e1 : (x.kind == 1) = false := by simp [hk1]
    have HW4 := HW2
    obtain ⟨w4, hw4⟩ : ∃ w4, w2 = w4 := ⟨_, rfl⟩
    subst hw4
    have hK4 := HK1.out.below HW4.out HK1.out.lt
    have e0 := hK4.cell 0; have e1' := hK4.cell 1; have e2 := hK4.cell 2; have e3 := hK4.cell 3; have e4 := hK4.cell 4; have e5 := hK4.cell 5; have e6 := hK4.cell 6
    simp at e0 e1' e2 e3 e4 e5 e6
    have HA4 := keepHid (HA1.out.below HW4.out (Nat.le_refl _))
    have HS4 := keepHid (HS1.out.below HW4.out (Nat.le_refl _))
    have HB4 := keepHid (HB1.out.trans (HW4.out.mono HB1.out.size))
    clear hK4
    go_wp2_with fail
    refine (HTG.out _ HA4.out).mono ?_
    rintro e w5 ⟨⟨Q, nq, cq, rfl, hsl5⟩, hb5⟩
    have HSL := keepHid hsl5
    have HS5 := keepHid (HS4.out.below hb5 (Nat.le_refl _))
    have HB5 := keepHid (HB4.out.trans (hb5.mono HB4.out.size))
    have hnq : nq ≤ 9223372036854775807 := hsl5.max
    have HNQ := keepHid hsl5.len
    clear hsl5 hb5 e0 e1' e2 e3 e4 e5 e6
    go_wp2_with fail
    go_loopw [40] (fun iv wr => ∃ j : Nat, j ≤ nq ∧ iv = .int .i64 (j : Int) ∧ Hid (Below w5.heap.size w5 wr)) (fun iv _ => nq - (intOf iv).toNat)
    case atStart => exact ⟨0, Nat.zero_le _, rfl, keepHid (Below.refl _ _)⟩
    case round =>
      obtain ⟨j, hj, rfl, HBW⟩ := hrel
      generalize wr = wq at *
      by_cases hlt : j < nq
      · obtain ⟨t, ht⟩ : ∃ t, (tgtS x)[j]? = some t := ⟨_, List.getElem?_eq_getElem (by rw [HNQ.out]; exact hlt)⟩
        obtain ⟨aq, rfl, haq, cq0⟩ := (HSL.out.below HBW.out).2.2 j t ht
        have cq1 : wq.cell? (aq.add j) = some (.string (strB t)) := cq0
        have HFT := keepHid (HF2.out t wq (HS5.out.below HBW.out (Nat.le_refl _)))
        obtain ⟨F2, hF2⟩ : ∃ F, findS ss t = F := ⟨_, rfl⟩
        have hF2n : 0 ≤ F2 := by rw [← hF2]; exact HOK.out.tgt t (List.mem_of_getElem? ht)
        have hF2n' : ¬ F2 < 0 := by omega
        rw [hF2] at HFT
        have hjI : (j : Int) < (nq : Int) := by omega
        clear ht cq0 hF2
        generalize strB t = T at *
        go_wp2_with fail
        refine HFT.out.mono ?_
        rintro e w6 ⟨rfl, hb6⟩
        have HB6 := keepHid (HBW.out.trans (hb6.mono HBW.out.size))
        clear hb6
        go_wp2
        go_roundw
        case rel => exact ⟨j + 1, by omega, by go_num, HB6⟩
        case measure => simp [intOf]; omega
      · obtain rfl : j = nq := by omega
        go_wp2
        go_ret
        exact ⟨rfl, HB5.out.trans (HBW.out.mono HB5.out.size)⟩
set_option maxRecDepth 100000 in
set_option maxHeartbeats 8000000 in
/-- A dialogue of which nothing is wrong. -/
theorem dcheck_any (ss : List Sp) (h1 : 1 ≤ ss.length) (h64 : ss.length ≤ 64) (hOk : ∀ i x, ss[i]? = some x → ChkOk ss i x) (A : Option Addr) (n c : Nat) (hnc : n ≤ c) (hc9 : c ≤ 9223372036854775807) (w : World) (hS : StS w A n ss) :
    Calls Tryz.prog 17 #[.slice A n c] w fun e w' => e = .returned (.tuple #[.int .i64 0, .nilIface]) ∧ Below w.heap.size w w' := by
  have HN := keepHid hS.len
  have hlen := hS.len
  have hz : ((n : Int) == 0) = false := by simp; omega
  have hz2 : ¬ (64 : Int) < (n : Int) := by omega
  have HS := keepHid hS
  have HCK := keepHid (fun i x w' hx h => chk_any ss i x hx (hOk i x hx) A n c hnc hc9 w' h)
  clear hS hOk h1 h64 hlen
  go_enter Tryz.func17, Tryz.ntmps17
  go_wp2_with fail
  go_loopw [17] (fun iv wr => ∃ j : Nat, j ≤ n ∧ iv = .int .i64 (j : Int) ∧ Hid (Below w.heap.size w wr)) (fun iv _ => n - (intOf iv).toNat)
  case atStart => exact ⟨0, Nat.zero_le _, rfl, keepHid (Below.refl _ _)⟩
  case round =>
    obtain ⟨j, hj, rfl, HB⟩ := hrel
    generalize wr = wq at *
    by_cases hlt : j < n
    · obtain ⟨x, hx⟩ : ∃ x, ss[j]? = some x := ⟨_, List.getElem?_eq_getElem (by rw [HN.out]; exact hlt)⟩
      have HC1 := keepHid (HCK.out j x wq hx (HS.out.below HB.out (Nat.le_refl _)))
      have hjI : (j : Int) < (n : Int) := by omega
      clear hx
      go_wp2_with fail
      refine HC1.out.mono ?_
      rintro e w2 ⟨rfl, hb2⟩
      have HB2 := keepHid (HB.out.trans (hb2.mono HB.out.size))
      clear hb2
      go_wp2
      go_roundw
      case rel => exact ⟨j + 1, by omega, by go_num, HB2⟩
      case measure => simp [intOf]; omega
    · obtain rfl : j = n := by omega
      go_wp2
      go_ret2
      exact ⟨rfl, HB.out⟩
end Go.Proofs.YtgndcgknedmalaaGreatDoor
