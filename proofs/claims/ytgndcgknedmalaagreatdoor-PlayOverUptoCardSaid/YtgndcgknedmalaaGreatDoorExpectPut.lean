/-
  A Watch that waits takes a byte.
-/
import Derived.Test.YtgndcgknedmalaaGreatDoorNfaCov
import Derived.Test.YtgndcgknedmalaaGreatDoorExpect
import Derived.Test.YtgndcgknedmalaaGreatDoorRegexSets
import Derived.LoopTactic
import Derived.RegionTactic
import Derived.Deep.DeepCutAuto
import Derived.Deep.RegionHeld3
import Derived.Deep.DrawnRows
namespace Go.Proofs.YtgndcgknedmalaaGreatDoor
open Go.RowKit
set_option linter.unusedVariables false

/-- The places that were there, and those made since. -/
def more (P : Nat → Prop) (w w' : World) : Nat → Prop := fun b => P b ∨ (w.heap.size ≤ b ∧ b < w'.heap.size)
def PutPost (H : Nat) (P : Nat → Prop) (g : Nat) (As : List Au) (s : List UInt8) (w : World) (e : Ending) (w' : World) : Prop :=
  ((∃ i, armA As s = some i ∧ e = .returned (.tuple #[.int .i64 (i : Int), .bool true]) ∧ Wov w' g s.length) ∨ (armA As s = none ∧ e = .returned (.tuple #[.int .i64 0, .bool false]) ∧ Wat w' H (more P w w') g As s)) ∧ Turn (fun b => b = g) w w'
theorem eight {α : Type} : ∀ (l : List α), l.length = 8 → ∃ a0 a1 a2 a3 a4 a5 a6 a7, l = [a0, a1, a2, a3, a4, a5, a6, a7]
  | [a0, a1, a2, a3, a4, a5, a6, a7], _ => ⟨a0, a1, a2, a3, a4, a5, a6, a7, rfl⟩
theorem wov_new {w w' : World} {g n : Nat} {V : Value} {vs : List Value} (z : Int) (hz : z = (n : Int)) (h : Blk w g 101 (cellsW V vs n false)) (hl : vs.length = 8)
    (hw : (((((((((((w.setCell ⟨g, 0, none⟩ (.slice none 0 0)).setCell ⟨g, 1, none⟩ (.slice none 0 0)).setCell ⟨g, 2, none⟩ (.slice none 0 0)).setCell ⟨g, 3, none⟩ (.slice none 0 0)).setCell ⟨g, 4, none⟩ (.slice none 0 0)).setCell ⟨g, 5, none⟩ (.slice none 0 0)).setCell ⟨g, 6, none⟩ (.slice none 0 0)).setCell ⟨g, 7, none⟩ (.slice none 0 0)).setCell ⟨g, 8, none⟩ (.slice none 0 0)).setCell ⟨g, 9, none⟩ (.int .i64 z)).setCell ⟨g, 10, none⟩ (.bool true)) = w') :
    Wov w' g n ∧ Turn (fun b => b = g) w w' := by
  subst hw hz
  refine ⟨⟨_, ((((((((((h.put 0 _).put 1 _).put 2 _).put 3 _).put 4 _).put 5 _).put 6 _).put 7 _).put 8 _).put 9 _).put 10 _, ?_, ?_⟩, ?_⟩
  · simp [cellsW, hl]
  · simp [cellsW, hl]
  · have t : ∀ {a : World} (i : Nat) (u : Value), Turn (fun b => b = g) w a → Turn (fun b => b = g) w (a.setCell ⟨g, i, none⟩ u) := fun i u k => Turn.setCell (S := fun b => b = g) k (.inl rfl) _
    exact t _ _ (t _ _ (t _ _ (t _ _ (t _ _ (t _ _ (t _ _ (t _ _ (t _ _ (t _ _ (t _ _ (Turn.refl _ w)))))))))))
set_option maxRecDepth 100000 in
set_option maxHeartbeats 4000000 in
theorem put_wait {H g : Nat} {P : Nat → Prop} {As : List Au} {s : List UInt8} {w : World} (h : Wat w H P g As s) (c : UInt8) (hs : s.length < 9223372036854775807) :
    Calls Tryz.prog 21 #[.pointer (some ⟨g, 0, none⟩), .int .u8 (c.toNat : Int)] w (PutPost H P g As (s ++ [c]) w) := by
  obtain ⟨c9, c10⟩ := h.cells
  obtain ⟨A, cap, vs, h⟩ := h
  have HP0 := keepHid h.base
  have h := h.sub (P' := fun b => P b ∨ w.heap.size ≤ b) (fun b hb _ => .inl hb) (fun b hb => by
    rcases hb with hb | hb
    · exact h.base.2.2 b hb
    · have := h.base.2.1; omega)
  obtain ⟨PP, hPP⟩ : ∃ PP : Nat → Prop, PP = fun b => P b ∨ w.heap.size ≤ b := ⟨_, rfl⟩
  rw [← hPP] at h
  have HPP := keepHid hPP
  clear hPP
  have hf := h.blk.frozen
  have hS := h.seen (s.length + 1)
  obtain ⟨w1, hw1⟩ : ∃ w1, w.setCell ⟨g, 9, none⟩ (.int .i64 ((s.length : Int) + 1)) = w1 := ⟨_, rfl⟩
  have e1 : (((s.length + 1 : Nat)) : Int) = (s.length : Int) + 1 := by omega
  rw [e1, hw1] at hS
  have HT1 : Hid (Turn (fun b => b = g) w w1) := keepHid (by rw [← hw1]; exact Turn.setCell (S := fun b => b = g) (Turn.refl _ w) (.inl rfl) _)
  have HS := keepHid hS
  obtain ⟨k, hk⟩ : ∃ k, As.length = k := ⟨_, rfl⟩
  have HK := keepHid hk
  have c0 : w1.cell? ⟨g, 0, none⟩ = some (.slice A k cap) := (hS.blk.cell 0).trans (by rw [cells_tabs, hk])
  obtain ⟨n, hn⟩ : ∃ n, s.length = n := ⟨_, rfl⟩
  have HN := keepHid hn
  rw [hn] at c9 hw1 hs
  clear h hS e1 hk hn
  go_enter Tryz.func21, Tryz.ntmps21
  go_wp2
  go_loopw [24] (fun i wr => ∃ (j : Nat) (us : List Value), j ≤ k ∧ i = .int .i64 j ∧ Hid (WatIn wr H PP g As (fun p => if p < j then s ++ [c] else s) (n + 1) A cap us) ∧ Hid (Turn (fun b => b = g) w wr) ∧ Hid (∀ p a, p < j → As[p]? = some a → endA a (s ++ [c]) = false)) (fun i _ => k - (intOf i).toNat)
  case atStart =>
    refine ⟨0, vs, Nat.zero_le _, rfl, keepHid ?_, HT1, keepHid (fun p a hp => by omega)⟩
    rw [← HN.out]
    exact HS.out.text fun j a _ => by rw [if_neg (by omega)]
  case round =>
    obtain ⟨j, us, hj, rfl, HW, HT, HNO⟩ := hrel
    clear c0 c9 c10 hf hw1
    rcases Nat.lt_or_ge j k with hlt | hge
    · obtain ⟨a, ha⟩ : ∃ a, As[j]? = some a := ⟨_, List.getElem?_eq_getElem (by rw [HK.out]; exact hlt)⟩
      have HA := keepHid ha
      obtain ⟨ts, w0, htb⟩ := HW.out.tabs
      obtain ⟨t, ad, rfl, hcell, hta, hwf⟩ := htb.at_ ha
      obtain ⟨At, m, c0, hat, hsl, -⟩ := HW.out.ats.at_ j a ha
      rw [if_neg (by omega)] at hsl
      have cat : wr.cell? ⟨g, 1 + j, none⟩ = some (.slice At m c0) := (HW.out.blk.cell _).trans (cells_at hat)
      have hf := HW.out.blk.frozen
      have HST : Hid (∀ w', Below wr.heap.size wr w' → Calls Tryz.prog 32 #[.pointer (some ⟨t, 0, none⟩), .slice At m c0, .int .u8 (c.toNat : Int), .bool true] w' (StepPost a (srch a s) c true w')) := keepHid (fun w' hb => step_any (k := c0) c true (hta.keep hb) hwf (hsl.below hb))
      have HGL : Hid (g < wr.heap.size) := keepHid HW.out.blk.lt
      have HD : Hid (Below wr.heap.size wr wr.drew) := keepHid (Below.drew (Below.refl _ _))
      have hji : (j : Int) < (k : Int) := by omega
      have hj8 : (j : Int) < 8 := by have := HW.out.few; have := HK.out; omega
      unfold ptrV at hcell
      clear htb hta hsl hat ha
      go_upto_region 7 with fail
      go_region_with (go_at_call 32; (with_reducible refine (HST.out _ HD.out).mono ?_); rintro e w5 ⟨G, rfl, hkG, hgG, hb5⟩; have cat5 : w5.cell? ⟨g, 1 + j, none⟩ = some (.slice At m c0) := (hb5.cell (p := ⟨g, 1 + j, none⟩) HGL.out).trans cat; have hf5 : w5.frozen? ⟨g, 1 + j, none⟩ = false := by (have := (HW.out.below (HD.out.trans (hb5.mono HD.out.size))).blk.frozen (1 + j); exact this))
      have hsm : a.T.sets.length ≤ 900000 := hwf.small.sets
      have hst : stepB a (srch a s) c true = srch a (s ++ [c]) := (srch_snoc a s c).symm
      rw [hst] at hkG
      have hbb := HD.out.trans (hb5.mono HD.out.size)
      have hGB : PP G := by rw [HPP.out]; exact .inr (Nat.le_trans HT.out.size hgG)
      have hGl : G < w5.heap.size := hkG.lt
      have hGH : H ≤ G := Nat.le_trans HW.out.base.2.1 hgG
      have hs5 : Sl Value.bool w5 (some ⟨G, 0, none⟩) a.T.sets.length (srch a (s ++ [c])) := sl_blk hkG (by rw [← hst]; exact step_len _ _ _ _) (by unfold maxLen; omega)
      have hW6 := ((HW.out.below hbb).step HA.out hs5 hGB hGl).text (f' := fun p => if p < j + 1 then s ++ [c] else s) (fun p a' hp => by
        by_cases e : p = j
        · rw [if_pos e, if_pos (by omega)]
        · rw [if_neg e]
          by_cases e2 : p < j
          · rw [if_pos e2, if_pos (by omega)]
          · rw [if_neg e2, if_neg (by omega)])
      obtain ⟨w6, hw6⟩ : ∃ w6, w5.setCell ⟨g, 1 + j, none⟩ (.slice (some ⟨G, 0, none⟩) a.T.sets.length a.T.sets.length) = w6 := ⟨_, rfl⟩
      have ht56 : Turn (fun b => b = g) w5 w6 := by rw [← hw6]; exact Turn.setCell (S := fun b => b = g) (Turn.refl _ w5) (.inl rfl) _
      have HT6 : Hid (Turn (fun b => b = g) w w6) := keepHid (HT.out.trans ((Turn.of_below hbb).trans ht56))
      rw [hw6] at hW6
      rw [hw6]
      have HW6 := keepHid hW6
      have hbase := hW6.base
      have hs6 : Sl Value.bool w6 (some ⟨G, 0, none⟩) a.T.sets.length (srch a (s ++ [c])) := hs5.keep2 ht56.size fun ad e hl => ht56.block _ hl (fun e2 => by cases e; simp at e2; have := hbase.1; omega)
      obtain ⟨ts6, w06, htb6⟩ := hW6.tabs
      obtain ⟨t6, ad6, had, hcell6, hta6, -⟩ := htb6.at_ HA.out
      obtain rfl : ad = ad6 := Option.some.inj had
      have hcc : w6.cell? (ad.add j) = some (.pointer (some ⟨t, 0, none⟩)) := by
        have h5 : w5.cell? (ad.add j) = some (.pointer (some ⟨t, 0, none⟩)) := (hbb.cell (p := ad.add j) (World.block_lt_of_cell? _ _ hcell)).trans hcell
        rw [← hw6]
        exact (World.cell?_setCell_far _ _ _ _ (by rw [ad_block]; have := htb6.low ad rfl; simp; omega)).trans h5
      obtain rfl : t6 = t := by
        have := hcell6.symm.trans hcc
        unfold ptrV at this
        simpa using this
      have HEN := keepHid (tabA_ends (c := a.T.sets.length) hta6 hs6)
      have hee : anyB (srch a (s ++ [c])) a.last = endA a (s ++ [c]) := rfl
      rw [hee] at HEN
      have hil : j < us.length := by rw [HW.out.ats.len]; omega
      have cat6 : w6.cell? ⟨g, 1 + j, none⟩ = some (.slice (some ⟨G, 0, none⟩) a.T.sets.length a.T.sets.length) := (hW6.blk.cell _).trans (cells_at (by rw [List.getElem?_set_self hil]))
      have hf6 := hW6.blk.frozen
      have hNO2 : endA a (s ++ [c]) = false → Hid (∀ p a', p < j + 1 → As[p]? = some a' → endA a' (s ++ [c]) = false) := fun h0 => keepHid (fun p a' hp ha' => by
        by_cases e : p = j
        · subst e
          rw [HA.out] at ha'
          obtain rfl := Option.some.inj ha'
          exact h0
        · exact HNO.out p a' (by omega) ha')
      have hYES : endA a (s ++ [c]) = true → Hid (armA As (s ++ [c]) = some j) := fun h1 => keepHid (arm_some.2 ⟨⟨a, HA.out, h1⟩, fun p a' hp ha' => HNO.out p a' hp ha'⟩)
      obtain ⟨E, hE⟩ : ∃ E, endA a (s ++ [c]) = E := ⟨_, rfl⟩
      rw [hE] at HEN hNO2 hYES
      obtain ⟨u0, u1, u2, u3, u4', u5', u6', u7', hus⟩ := eight _ hW6.ats.len
      have hk6 := hW6.blk
      rw [hus] at hk6
      have HK6 := keepHid hk6
      have d0 := hk6.cell 0
      have d1 := hk6.cell 1
      have d2 := hk6.cell 2
      have d3 := hk6.cell 3
      have d4 := hk6.cell 4
      have d5 := hk6.cell 5
      have d6 := hk6.cell 6
      have d7 := hk6.cell 7
      have d8 := hk6.cell 8
      have d9 := hk6.cell 9
      have d10 := hk6.cell 10
      simp only [cellsW, List.cons_append, List.nil_append, List.getElem?_toArray, List.getElem?_cons_zero, List.getElem?_cons_succ] at d0 d1 d2 d3 d4 d5 d6 d7 d8 d9 d10
      clear hkG hgG hb5 cat5 hf5 hsm hst hbb hGB hGl hGH hs5 hW6 hw6 ht56 hbase hs6 htb6 had hcell6 hta6 hcc hee hE hus hk6 hcell cat hf HST HD hwf hil
      generalize a.T.sets.length = NN at *
      go_wp2_with fail
      with_reducible refine HEN.out.mono ?_
      rintro e w' ⟨rfl, rfl⟩
      cases E
      · clear d0 d1 d2 d3 d4 d5 d6 d7 d8 d9 d10
        go_wp2
        go_roundw
        case rel => exact ⟨j + 1, _, by omega, by go_num, HW6, HT6, hNO2 (by simp)⟩
        case measure => simp [intOf]; omega
      · go_wp2
        go_ret2
        have hv := wov_new ((n : Int) + 1) (by omega) HW6.out.blk HW6.out.ats.len rfl
        have hl : (s ++ [c]).length = n + 1 := by simp [HN.out]
        exact ⟨.inl ⟨j, (hYES (by simp)).out, rfl, by rw [hl]; exact hv.1⟩, HT6.out.trans hv.2⟩
    · have HARM : Hid (armA As (s ++ [c]) = none) := keepHid (arm_none.2 (fun a ha => by
        obtain ⟨p, hp, e⟩ := List.getElem_of_mem ha
        exact HNO.out p a (by rw [HK.out] at hp; omega) (by rw [List.getElem?_eq_getElem hp, e])))
      have hji : ¬ (j : Int) < (k : Int) := by omega
      go_wp2
      go_ret2
      refine ⟨.inr ⟨HARM.out, rfl, A, cap, us, ?_⟩, HT.out⟩
      have := (HW.out.sub (P' := more P w wr) (fun b hb hl => by
        rw [HPP.out] at hb
        rcases hb with hb | hb
        · exact .inl hb
        · exact .inr ⟨hb, hl⟩) (fun b hb => by
        rcases hb with hb | hb
        · exact HP0.out.2.2 b hb
        · have := HP0.out.2.1; omega)).text (f' := fun _ => s ++ [c]) (fun p a hp => by
        have : p < As.length := by
          rcases Nat.lt_or_ge p As.length with hl | hl
          · exact hl
          · rw [List.getElem?_eq_none hl] at hp; cases hp
        rw [if_pos (by rw [HK.out] at this; omega)])
      rwa [← HN.out, show s.length + 1 = (s ++ [c]).length by simp] at this
end Go.Proofs.YtgndcgknedmalaaGreatDoor
