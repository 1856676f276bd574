/-
  A load ends, of a receiver of blocks: what 'finish' tells and writes.
-/
import Derived.Test.YtonloefjhofeeaaGreatDoorBoardRows
namespace Go.Proofs.YtonloefjhofeeaaGreatDoor
open Go.RowKit
set_option linter.unusedVariables false

set_option maxRecDepth 100000 in
set_option maxHeartbeats 4000000 in
theorem finish_one {w0 w : World} {G GS GR : Nat} {κ : Nat → Nat} {p : BP Fl} {z1 z2 : Int} {lv rv : Value} {s : Bd} (h : TgtM w0 w G κ p z1 z2 GS lv (.iface 76 (ptV GR)) rv s)
    (hdone : ∀ wx, Below w.heap.size w wx → Calls Tryz.prog 48 #[ptV GR] wx fun e w' => e = .returned (.tuple #[.bool s.ld.ov, errV s.ld.er]) ∧ w' = wx.drew)
    (hdata : ∀ wx, Below w.heap.size w wx → Calls Tryz.prog 49 #[ptV GR] wx (RetB wx s.ld.da)) (had : s.ad < 4294967296) (hda : s.ld.da.length ≤ 140737488355328) :
    Calls Tryz.prog 29 #[ptV G] w (FinPost w0 G κ p z1 z2 s w) := by
  have c5 : w.cell? ⟨G, 5, none⟩ = some (.iface 76 (ptV GR)) := h.blk.cell 5
  have hf := h.blk.frozen
  have HD := keepHid (hdone w (Below.refl _ _))
  have HA := keepHid (hdata w.drew ((Below.refl _ _).drew))
  have H := keepHid h
  clear hdone hdata
  unfold ptV at c5 HD HA ⊢
  cases ho : s.ld.ov with
  | false =>
    rw [ho] at HD
    have HP : Hid (FinPost w0 G κ p z1 z2 s w (.returned (.string ⟨#[]⟩)) w.drew) := keepHid (by
      unfold FinPost
      rw [fin_no ho]
      exact ⟨rfl, TOut.same ⟨_, _, _, _, H.out⟩ ((Below.refl _ _).drew)⟩)
    generalize errV s.ld.er = ev at *
    clear h HA ho H
    go_enter Tryz.func29, Tryz.ntmps29
    go_wp2_with fail
    refine HD.out.mono ?_
    rintro e w1 ⟨rfl, rfl⟩
    go_wp2
    go_ret
    exact HP.out
  | true =>
    rw [ho] at HD
    have had2 : (s.ad : Int) < 4294967296 := by omega
    by_cases her : s.ld.er = 0
    · rw [her] at HD
      rw [errV_zero] at HD
      have HP : Hid (∀ b w2 w3 wx w4, (b = true ∧ s.ad + s.ld.da.length ≤ 16384 ∧ Turn (fun i => i = GS) wx w4 ∧ Sto w4 GS (splice s.st s.ad s.ld.da)) ∨ (b = false ∧ ¬ s.ad + s.ld.da.length ≤ 16384 ∧ wx = w4) → Below w.heap.size w w2 → w2.setCell ⟨G, 5, none⟩ .nilIface = w3 → Below w3.heap.size w3 wx → FinPost w0 G κ p z1 z2 s w (.returned (.string (if b = true then ⟨#[13, 10, 61, 62, 32]⟩ else ⟨#[33, 13, 10, 61, 62, 32]⟩))) w4) := keepHid (fun b w2 w3 wx w4 q0 q1 q2 q3 => by
        obtain ⟨k1, k2, k3⟩ := fin_struck H.out q1 q2
        unfold FinPost
        rcases q0 with ⟨rfl, hfit, q4, q5⟩ | ⟨rfl, hfit, rfl⟩
        · rw [fin_yes ho her hfit]
          exact ⟨rfl, fin_out k1 k2 H.out.g q3 q4 q5⟩
        · rw [fin_bad ho (fun hh => hfit hh.2)]
          exact ⟨rfl, fin_out k1 k2 H.out.g q3 (Turn.refl _ _) (k1.below q3).sto⟩)
      obtain ⟨n, hn⟩ : ∃ n, s.ld.da.length = n := ⟨_, rfl⟩
      have HN := keepHid hn
      clear h ho her
      go_enter Tryz.func29, Tryz.ntmps29
      go_wp2_with fail
      refine HD.out.mono ?_
      rintro e w1 ⟨rfl, rfl⟩
      go_wp2_with fail
      refine HA.out.mono ?_
      rintro e w2 ⟨A, c, rfl, hown, hnc, hcm, hb2⟩
      have hbb : Below w.heap.size w w2 := ((Below.refl _ _).drew).trans hb2
      have d5 : w2.cell? ⟨G, 5, none⟩ = some (.iface 76 (.pointer (some ⟨GR, 0, none⟩))) := (hbb.cell (show G < _ from H.out.blk.lt)).trans c5
      have df : ∀ i, w2.frozen? ⟨G, i, none⟩ = false := (H.out.below hbb).blk.frozen
      obtain ⟨w3, hw3⟩ : ∃ w3, w2.setCell ⟨G, 5, none⟩ .nilIface = w3 := ⟨_, rfl⟩
      obtain ⟨k1, k2, k3⟩ := fin_struck H.out hbb hw3
      have HMEM : Hid (∀ wx, Below w3.heap.size w3 wx → Calls Tryz.prog 45 #[.pointer (some ⟨G, 0, none⟩)] wx fun e w' => e = .returned (.pointer (some ⟨GS, 0, none⟩)) ∧ wx = w') := keepHid (fun wx hx => memory_any (k1.below hx).blk)
      have hGne : ∀ ad, A = some ad → ¬ ad.block = G := fun ad e hh => by
        have := World.ownsRow.lt hown ad.block (by rw [e]; rfl)
        have := H.out.blk.lt
        simp at *
        omega
      have hy : Bys w3 w3.heap.size A n s.ld.da := by
        rw [← HN.out]
        have := (hown.bys (by rw [HN.out]; omega)).turn (show Turn (fun i => i = G) w2 w3 by rw [← hw3]; exact turnAt 5 .nilIface (Turn.refl _ w2)) (Nat.le_refl _) (fun _ => hGne)
        rw [k3]; exact this
      have HWR : Hid (∀ wx, Below w3.heap.size w3 wx → Calls Tryz.prog 22 #[.pointer (some ⟨GS, 0, none⟩), .int .i64 (s.ad : Int), .slice A s.ld.da.length c] wx fun e w' => ∃ b : Bool, e = .returned (.bool b) ∧ FinPost w0 G κ p z1 z2 s w (.returned (.string (if b = true then ⟨#[13, 10, 61, 62, 32]⟩ else ⟨#[33, 13, 10, 61, 62, 32]⟩))) w') := keepHid (fun wx hx => by
        rw [HN.out]
        by_cases hfit : s.ad + s.ld.da.length ≤ 16384
        · exact (swrite_z GS s.st s.ad _ rfl A n c _ s.ld.da wx ((k1.below hx).sto) (hy.below hx) (by rw [← HN.out]; exact hfit)).mono fun e w' hh => ⟨true, hh.1, HP.out true w2 w3 wx w' (.inl ⟨rfl, hfit, hh.2.2, hh.2.1⟩) hbb hw3 hx⟩
        · exact (swrite_no _ (s.ad : Int) A n c wx (by omega) (by omega) (.inr (by rw [HN.out] at hfit; omega))).mono fun e w' hh => ⟨false, hh.1, HP.out false w2 w3 wx w' (.inr ⟨rfl, hfit, hh.2⟩) hbb hw3 hx⟩)
      have e6 : w3.cell? ⟨G, 6, none⟩ = some (.int .i64 (s.ad : Int)) := k1.blk.cell 6
      clear hown hb2 k1 k2 hy hGne hnc hcm had2
      rw [hn] at HWR ⊢
      clear hn
      go_upto_region 6 with fail
      try rw [hw3]
      clear hw3 d5 df c5 hf hbb k3
      go_region_with (first
        | (go_at_call 45; (with_reducible refine (HMEM.out _ (by first | exact Below.refl _ _ | exact (Below.refl _ _).drew | exact below_drewN (Below.refl _ _) _)).mono ?_); rintro e w5 ⟨rfl, rfl⟩)
        | (go_at_call 22; (with_reducible refine (HWR.out _ (by first | exact Below.refl _ _ | exact (Below.refl _ _).drew | exact below_drewN (Below.refl _ _) _)).mono ?_); rintro e w5 ⟨b5, rfl, hp5⟩; have HP5 := keepHid hp5; clear hp5))
      all_goals
        cases b5
        all_goals
          go_wp2
          go_ret
          exact HP5.out
    · have HP : Hid (∀ w2 w3 wx, Below w.heap.size w w2 → w2.setCell ⟨G, 5, none⟩ .nilIface = w3 → Below w3.heap.size w3 wx → FinPost w0 G κ p z1 z2 s w (.returned (.string ⟨#[33, 13, 10, 61, 62, 32]⟩)) wx) := keepHid (fun w2 w3 wx q1 q2 q3 => by
        obtain ⟨k1, k2, k3⟩ := fin_struck H.out q1 q2
        unfold FinPost
        rw [fin_bad ho (fun hh => her hh.1)]
        exact ⟨rfl, fin_out k1 k2 H.out.g q3 (Turn.refl _ _) (k1.below q3).sto⟩)
      obtain ⟨ev, hev⟩ := errV_ne her
      rw [hev] at HD
      clear h ho her hev
      go_enter Tryz.func29, Tryz.ntmps29
      go_wp2_with fail
      refine HD.out.mono ?_
      rintro e w1 ⟨rfl, rfl⟩
      go_wp2_with fail
      refine HA.out.mono ?_
      rintro e w2 ⟨A, c, rfl, hown, hnc, hcm, hb2⟩
      have hbb : Below w.heap.size w w2 := ((Below.refl _ _).drew).trans hb2
      have d5 : w2.cell? ⟨G, 5, none⟩ = some (.iface 76 (.pointer (some ⟨GR, 0, none⟩))) := (hbb.cell (show G < _ from H.out.blk.lt)).trans c5
      have df : ∀ i, w2.frozen? ⟨G, i, none⟩ = false := (H.out.below hbb).blk.frozen
      obtain ⟨w3, hw3⟩ : ∃ w3, w2.setCell ⟨G, 5, none⟩ .nilIface = w3 := ⟨_, rfl⟩
      have HQ := keepHid (fun wx => HP.out w2 w3 wx hbb hw3)
      clear hown hb2 hnc hcm had2 hbb
      go_upto_region 6 with fail
      try rw [hw3]
      clear hw3 d5 df c5 hf
      go_quiet (fail)
      rename_i nq
      generalize hwq : w3.drewN nq = wq
      have hbq : Below w3.heap.size w3 wq := by rw [← hwq]; exact below_drewN (Below.refl _ _) _
      have HR := keepHid (HQ.out _ hbq)
      clear hbq hwq
      go_wp2
      go_ret
      exact HR.out


set_option maxRecDepth 100000 in
set_option maxHeartbeats 4000000 in
theorem finish_files {w0 w : World} {G GS GR : Nat} {κ : Nat → Nat} {p : BP Fl} {z1 z2 : Int} {lv rv : Value} {s : Bd} (h : TgtM w0 w G κ p z1 z2 GS lv (.iface 77 (ptV GR)) rv s)
    (hdone : ∀ wx, Below w.heap.size w wx → Calls Tryz.prog 46 #[ptV GR] wx fun e w' => e = .returned (.tuple #[.bool s.ld.ov, errV s.ld.er]) ∧ w' = wx.drew)
    (hdata : ∀ wx, Below w.heap.size w wx → Calls Tryz.prog 47 #[ptV GR] wx (RetB wx s.ld.da)) (had : s.ad < 4294967296) (hda : s.ld.da.length ≤ 140737488355328) :
    Calls Tryz.prog 29 #[ptV G] w (FinPost w0 G κ p z1 z2 s w) := by
  have c5 : w.cell? ⟨G, 5, none⟩ = some (.iface 77 (ptV GR)) := h.blk.cell 5
  have hf := h.blk.frozen
  have HD := keepHid (hdone w (Below.refl _ _))
  have HA := keepHid (hdata w.drew ((Below.refl _ _).drew))
  have H := keepHid h
  clear hdone hdata
  unfold ptV at c5 HD HA ⊢
  cases ho : s.ld.ov with
  | false =>
    rw [ho] at HD
    have HP : Hid (FinPost w0 G κ p z1 z2 s w (.returned (.string ⟨#[]⟩)) w.drew) := keepHid (by
      unfold FinPost
      rw [fin_no ho]
      exact ⟨rfl, TOut.same ⟨_, _, _, _, H.out⟩ ((Below.refl _ _).drew)⟩)
    generalize errV s.ld.er = ev at *
    clear h HA ho H
    go_enter Tryz.func29, Tryz.ntmps29
    go_wp2_with fail
    refine HD.out.mono ?_
    rintro e w1 ⟨rfl, rfl⟩
    go_wp2
    go_ret
    exact HP.out
  | true =>
    rw [ho] at HD
    have had2 : (s.ad : Int) < 4294967296 := by omega
    by_cases her : s.ld.er = 0
    · rw [her] at HD
      rw [errV_zero] at HD
      have HP : Hid (∀ b w2 w3 wx w4, (b = true ∧ s.ad + s.ld.da.length ≤ 16384 ∧ Turn (fun i => i = GS) wx w4 ∧ Sto w4 GS (splice s.st s.ad s.ld.da)) ∨ (b = false ∧ ¬ s.ad + s.ld.da.length ≤ 16384 ∧ wx = w4) → Below w.heap.size w w2 → w2.setCell ⟨G, 5, none⟩ .nilIface = w3 → Below w3.heap.size w3 wx → FinPost w0 G κ p z1 z2 s w (.returned (.string (if b = true then ⟨#[13, 10, 61, 62, 32]⟩ else ⟨#[33, 13, 10, 61, 62, 32]⟩))) w4) := keepHid (fun b w2 w3 wx w4 q0 q1 q2 q3 => by
        obtain ⟨k1, k2, k3⟩ := fin_struck H.out q1 q2
        unfold FinPost
        rcases q0 with ⟨rfl, hfit, q4, q5⟩ | ⟨rfl, hfit, rfl⟩
        · rw [fin_yes ho her hfit]
          exact ⟨rfl, fin_out k1 k2 H.out.g q3 q4 q5⟩
        · rw [fin_bad ho (fun hh => hfit hh.2)]
          exact ⟨rfl, fin_out k1 k2 H.out.g q3 (Turn.refl _ _) (k1.below q3).sto⟩)
      obtain ⟨n, hn⟩ : ∃ n, s.ld.da.length = n := ⟨_, rfl⟩
      have HN := keepHid hn
      clear h ho her
      go_enter Tryz.func29, Tryz.ntmps29
      go_wp2_with fail
      refine HD.out.mono ?_
      rintro e w1 ⟨rfl, rfl⟩
      go_wp2_with fail
      refine HA.out.mono ?_
      rintro e w2 ⟨A, c, rfl, hown, hnc, hcm, hb2⟩
      have hbb : Below w.heap.size w w2 := ((Below.refl _ _).drew).trans hb2
      have d5 : w2.cell? ⟨G, 5, none⟩ = some (.iface 77 (.pointer (some ⟨GR, 0, none⟩))) := (hbb.cell (show G < _ from H.out.blk.lt)).trans c5
      have df : ∀ i, w2.frozen? ⟨G, i, none⟩ = false := (H.out.below hbb).blk.frozen
      obtain ⟨w3, hw3⟩ : ∃ w3, w2.setCell ⟨G, 5, none⟩ .nilIface = w3 := ⟨_, rfl⟩
      obtain ⟨k1, k2, k3⟩ := fin_struck H.out hbb hw3
      have HMEM : Hid (∀ wx, Below w3.heap.size w3 wx → Calls Tryz.prog 45 #[.pointer (some ⟨G, 0, none⟩)] wx fun e w' => e = .returned (.pointer (some ⟨GS, 0, none⟩)) ∧ wx = w') := keepHid (fun wx hx => memory_any (k1.below hx).blk)
      have hGne : ∀ ad, A = some ad → ¬ ad.block = G := fun ad e hh => by
        have := World.ownsRow.lt hown ad.block (by rw [e]; rfl)
        have := H.out.blk.lt
        simp at *
        omega
      have hy : Bys w3 w3.heap.size A n s.ld.da := by
        rw [← HN.out]
        have := (hown.bys (by rw [HN.out]; omega)).turn (show Turn (fun i => i = G) w2 w3 by rw [← hw3]; exact turnAt 5 .nilIface (Turn.refl _ w2)) (Nat.le_refl _) (fun _ => hGne)
        rw [k3]; exact this
      have HWR : Hid (∀ wx, Below w3.heap.size w3 wx → Calls Tryz.prog 22 #[.pointer (some ⟨GS, 0, none⟩), .int .i64 (s.ad : Int), .slice A s.ld.da.length c] wx fun e w' => ∃ b : Bool, e = .returned (.bool b) ∧ FinPost w0 G κ p z1 z2 s w (.returned (.string (if b = true then ⟨#[13, 10, 61, 62, 32]⟩ else ⟨#[33, 13, 10, 61, 62, 32]⟩))) w') := keepHid (fun wx hx => by
        rw [HN.out]
        by_cases hfit : s.ad + s.ld.da.length ≤ 16384
        · exact (swrite_z GS s.st s.ad _ rfl A n c _ s.ld.da wx ((k1.below hx).sto) (hy.below hx) (by rw [← HN.out]; exact hfit)).mono fun e w' hh => ⟨true, hh.1, HP.out true w2 w3 wx w' (.inl ⟨rfl, hfit, hh.2.2, hh.2.1⟩) hbb hw3 hx⟩
        · exact (swrite_no _ (s.ad : Int) A n c wx (by omega) (by omega) (.inr (by rw [HN.out] at hfit; omega))).mono fun e w' hh => ⟨false, hh.1, HP.out false w2 w3 wx w' (.inr ⟨rfl, hfit, hh.2⟩) hbb hw3 hx⟩)
      have e6 : w3.cell? ⟨G, 6, none⟩ = some (.int .i64 (s.ad : Int)) := k1.blk.cell 6
      clear hown hb2 k1 k2 hy hGne hnc hcm had2
      rw [hn] at HWR ⊢
      clear hn
      go_upto_region 6 with fail
      try rw [hw3]
      clear hw3 d5 df c5 hf hbb k3
      go_region_with (first
        | (go_at_call 45; (with_reducible refine (HMEM.out _ (by first | exact Below.refl _ _ | exact (Below.refl _ _).drew | exact below_drewN (Below.refl _ _) _)).mono ?_); rintro e w5 ⟨rfl, rfl⟩)
        | (go_at_call 22; (with_reducible refine (HWR.out _ (by first | exact Below.refl _ _ | exact (Below.refl _ _).drew | exact below_drewN (Below.refl _ _) _)).mono ?_); rintro e w5 ⟨b5, rfl, hp5⟩; have HP5 := keepHid hp5; clear hp5))
      all_goals
        cases b5
        all_goals
          go_wp2
          go_ret
          exact HP5.out
    · have HP : Hid (∀ w2 w3 wx, Below w.heap.size w w2 → w2.setCell ⟨G, 5, none⟩ .nilIface = w3 → Below w3.heap.size w3 wx → FinPost w0 G κ p z1 z2 s w (.returned (.string ⟨#[33, 13, 10, 61, 62, 32]⟩)) wx) := keepHid (fun w2 w3 wx q1 q2 q3 => by
        obtain ⟨k1, k2, k3⟩ := fin_struck H.out q1 q2
        unfold FinPost
        rw [fin_bad ho (fun hh => her hh.1)]
        exact ⟨rfl, fin_out k1 k2 H.out.g q3 (Turn.refl _ _) (k1.below q3).sto⟩)
      obtain ⟨ev, hev⟩ := errV_ne her
      rw [hev] at HD
      clear h ho her hev
      go_enter Tryz.func29, Tryz.ntmps29
      go_wp2_with fail
      refine HD.out.mono ?_
      rintro e w1 ⟨rfl, rfl⟩
      go_wp2_with fail
      refine HA.out.mono ?_
      rintro e w2 ⟨A, c, rfl, hown, hnc, hcm, hb2⟩
      have hbb : Below w.heap.size w w2 := ((Below.refl _ _).drew).trans hb2
      have d5 : w2.cell? ⟨G, 5, none⟩ = some (.iface 77 (.pointer (some ⟨GR, 0, none⟩))) := (hbb.cell (show G < _ from H.out.blk.lt)).trans c5
      have df : ∀ i, w2.frozen? ⟨G, i, none⟩ = false := (H.out.below hbb).blk.frozen
      obtain ⟨w3, hw3⟩ : ∃ w3, w2.setCell ⟨G, 5, none⟩ .nilIface = w3 := ⟨_, rfl⟩
      have HQ := keepHid (fun wx => HP.out w2 w3 wx hbb hw3)
      clear hown hb2 hnc hcm had2 hbb
      go_upto_region 6 with fail
      try rw [hw3]
      clear hw3 d5 df c5 hf
      go_quiet (fail)
      rename_i nq
      generalize hwq : w3.drewN nq = wq
      have hbq : Below w3.heap.size w3 wq := by rw [← hwq]; exact below_drewN (Below.refl _ _) _
      have HR := keepHid (HQ.out _ hbq)
      clear hbq hwq
      go_wp2
      go_ret
      exact HR.out
end Go.Proofs.YtonloefjhofeeaaGreatDoor
