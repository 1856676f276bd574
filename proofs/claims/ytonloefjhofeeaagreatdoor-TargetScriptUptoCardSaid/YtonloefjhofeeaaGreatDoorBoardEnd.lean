/-
  A load ends, of a receiver of blocks: what 'finish' tells and writes.
-/
import Derived.Test.YtonloefjhofeeaaGreatDoorBoardRows
import Derived.Test.YtonloefjhofeeaaGreatDoorAppStr
namespace Go.Proofs.YtonloefjhofeeaaGreatDoor
open Go.RowKit
set_option linter.unusedVariables false

set_option maxRecDepth 100000 in
set_option maxHeartbeats 4000000 in
theorem finish_one {w0 w : World} {G GS GR : Nat} {κ : Nat → Nat} {p : BP Fl} {z1 z2 : Int} {lv rv : Value} {s : Bd} (h : TgtM w0 w G κ p z1 z2 GS lv (.iface 76 (ptV GR)) rv s)
    (hdone : ∀ wx, Below w.heap.size w wx → Calls Tryz.prog 48 #[ptV GR] wx fun e w' => e = .returned (.tuple #[.bool s.ld.ov, errV s.ld.er]) ∧ w' = wx.drew)
    (hdata : ∀ wx, Below w.heap.size w wx → Calls Tryz.prog 49 #[ptV GR] wx (RetB wx s.ld.da)) (had : s.ad < 4294967296) (hda : s.ld.da.length ≤ 140737488355328) :
    Calls Tryz.prog 29 #[ptV G] w (FinPost w0 G κ p z1 z2 s w) := by
  have c5 : w.cell? ⟨G, 5, none⟩ = some (.iface 76 (ptV GR)) := h.blk.cell 5
  have hf := h.blk.frozen
  have HD := keepHid (hdone w (Below.refl _ _))
  have HA := keepHid (hdata w.drew ((Below.refl _ _).drew))
  have H := keepHid h
  clear hdone hdata
  unfold ptV at c5 HD HA ⊢
  cases ho : s.ld.ov with
  | false =>
    rw [ho] at HD
    have HP : Hid (FinPost w0 G κ p z1 z2 s w (.returned (.string ⟨#[]⟩)) w.drew) := keepHid (by
      unfold FinPost
      rw [fin_no ho]
      exact ⟨rfl, TOut.same ⟨_, _, _, _, H.out⟩ ((Below.refl _ _).drew)⟩)
    generalize errV s.ld.er = ev at *
    clear h HA ho H
    go_enter Tryz.func29, Tryz.ntmps29
    go_wp2_with fail
    refine HD.out.mono ?_
    rintro e w1 ⟨rfl, rfl⟩
    go_wp2
    go_ret
    exact HP.out
  | true =>
    rw [ho] at HD
    have had2 : (s.ad : Int) < 4294967296 := by omega
    by_cases her : s.ld.er = 0
    · rw [her] at HD
      rw [errV_zero] at HD
      have HP : Hid (∀ b w2 w3 wx w4, (b = true ∧ s.ad + s.ld.da.length ≤ 16384 ∧ Turn (fun i => i = GS) wx w4 ∧ Sto w4 GS (splice s.st s.ad s.ld.da)) ∨ (b = false ∧ ¬ s.ad + s.ld.da.length ≤ 16384 ∧ wx = w4) → Below w.heap.size w w2 → w2.setCell ⟨G, 5, none⟩ .nilIface = w3 → Below w3.heap.size w3 wx → FinPost w0 G κ p z1 z2 s w (.returned (.string (if b = true then ⟨#[13, 10, 61, 62, 32]⟩ else ⟨#[33, 13, 10, 61, 62, 32]⟩))) w4) := keepHid (fun b w2 w3 wx w4 q0 q1 q2 q3 => by
        obtain ⟨k1, k2, k3⟩ := fin_struck H.out q1 q2
        unfold FinPost
        rcases q0 with ⟨rfl, hfit, q4, q5⟩ | ⟨rfl, hfit, rfl⟩
        · rw [fin_yes ho her hfit]
          exact ⟨rfl, fin_out k1 k2 H.out.g q3 q4 q5⟩
        · rw [fin_bad ho (fun hh => hfit hh.2)]
          exact ⟨rfl, fin_out k1 k2 H.out.g q3 (Turn.refl _ _) (k1.below q3).sto⟩)
      obtain ⟨n, hn⟩ : ∃ n, s.ld.da.length = n := ⟨_, rfl⟩
      have HN := keepHid hn
      clear h ho her
      go_enter Tryz.func29, Tryz.ntmps29
      go_wp2_with fail
      refine HD.out.mono ?_
      rintro e w1 ⟨rfl, rfl⟩
      go_wp2_with fail
      refine HA.out.mono ?_
      rintro e w2 ⟨A, c, rfl, hown, hnc, hcm, hb2⟩
      have hbb : Below w.heap.size w w2 := ((Below.refl _ _).drew).trans hb2
      have d5 : w2.cell? ⟨G, 5, none⟩ = some (.iface 76 (.pointer (some ⟨GR, 0, none⟩))) := (hbb.cell (show G < _ from H.out.blk.lt)).trans c5
      have df : ∀ i, w2.frozen? ⟨G, i, none⟩ = false := (H.out.below hbb).blk.frozen
      obtain ⟨w3, hw3⟩ : ∃ w3, w2.setCell ⟨G, 5, none⟩ .nilIface = w3 := ⟨_, rfl⟩
      obtain ⟨k1, k2, k3⟩ := fin_struck H.out hbb hw3
      have HMEM : Hid (∀ wx, Below w3.heap.size w3 wx → Calls Tryz.prog 45 #[.pointer (some ⟨G, 0, none⟩)] wx fun e w' => e = .returned (.pointer (some ⟨GS, 0, none⟩)) ∧ wx = w') := keepHid (fun wx hx => memory_any (k1.below hx).blk)
      have hGne : ∀ ad, A = some ad → ¬ ad.block = G := fun ad e hh => by
        have := World.ownsRow.lt hown ad.block (by rw [e]; rfl)
        have := H.out.blk.lt
        simp at *
        omega
      have hy : Bys w3 w3.heap.size A n s.ld.da := by
        rw [← HN.out]
        have := (hown.bys (by rw [HN.out]; omega)).turn (show Turn (fun i => i = G) w2 w3 by rw [← hw3]; exact turnAt 5 .nilIface (Turn.refl _ w2)) (Nat.le_refl _) (fun _ => hGne)
        rw [k3]; exact this
      have HWR : Hid (∀ wx, Below w3.heap.size w3 wx → Calls Tryz.prog 22 #[.pointer (some ⟨GS, 0, none⟩), .int .i64 (s.ad : Int), .slice A s.ld.da.length c] wx fun e w' => ∃ b : Bool, e = .returned (.bool b) ∧ FinPost w0 G κ p z1 z2 s w (.returned (.string (if b = true then ⟨#[13, 10, 61, 62, 32]⟩ else ⟨#[33, 13, 10, 61, 62, 32]⟩))) w') := keepHid (fun wx hx => by
        rw [HN.out]
        by_cases hfit : s.ad + s.ld.da.length ≤ 16384
        · exact (swrite_z GS s.st s.ad _ rfl A n c _ s.ld.da wx ((k1.below hx).sto) (hy.below hx) (by rw [← HN.out]; exact hfit)).mono fun e w' hh => ⟨true, hh.1, HP.out true w2 w3 wx w' (.inl ⟨rfl, hfit, hh.2.2, hh.2.1⟩) hbb hw3 hx⟩
        · exact (swrite_no _ (s.ad : Int) A n c wx (by omega) (by omega) (.inr (by rw [HN.out] at hfit; omega))).mono fun e w' hh => ⟨false, hh.1, HP.out false w2 w3 wx w' (.inr ⟨rfl, hfit, hh.2⟩) hbb hw3 hx⟩)
      have e6 : w3.cell? ⟨G, 6, none⟩ = some (.int .i64 (s.ad : Int)) := k1.blk.cell 6
      clear hown hb2 k1 k2 hy hGne hnc hcm had2
      rw [hn] at HWR ⊢
      clear hn
      go_upto_region 6 with fail
      try rw [hw3]
      clear hw3 d5 df c5 hf hbb k3
      go_region_with (first
        | (go_at_call 45; (with_reducible refine (HMEM.out _ (by first | exact Below.refl _ _ | exact (Below.refl _ _).drew | exact below_drewN (Below.refl _ _) _)).mono ?_); rintro e w5 ⟨rfl, rfl⟩)
        | (go_at_call 22; (with_reducible refine (HWR.out _ (by first | exact Below.refl _ _ | exact (Below.refl _ _).drew | exact below_drewN (Below.refl _ _) _)).mono ?_); rintro e w5 ⟨b5, rfl, hp5⟩; have HP5 := keepHid hp5; clear hp5))
      all_goals
        cases b5
        all_goals
          go_wp2
          go_ret
          exact HP5.out
    · have HP : Hid (∀ w2 w3 wx, Below w.heap.size w w2 → w2.setCell ⟨G, 5, none⟩ .nilIface = w3 → Below w3.heap.size w3 wx → FinPost w0 G κ p z1 z2 s w (.returned (.string ⟨#[33, 13, 10, 61, 62, 32]⟩)) wx) := keepHid (fun w2 w3 wx q1 q2 q3 => by
        obtain ⟨k1, k2, k3⟩ := fin_struck H.out q1 q2
        unfold FinPost
        rw [fin_bad ho (fun hh => her hh.1)]
        exact ⟨rfl, fin_out k1 k2 H.out.g q3 (Turn.refl _ _) (k1.below q3).sto⟩)
      obtain ⟨ev, hev⟩ := errV_ne her
      rw [hev] at HD
      clear h ho her hev
      go_enter Tryz.func29, Tryz.ntmps29
      go_wp2_with fail
      refine HD.out.mono ?_
      rintro e w1 ⟨rfl, rfl⟩
      go_wp2_with fail
      refine HA.out.mono ?_
      rintro e w2 ⟨A, c, rfl, hown, hnc, hcm, hb2⟩
      have hbb : Below w.heap.size w w2 := ((Below.refl _ _).drew).trans hb2
      have d5 : w2.cell? ⟨G, 5, none⟩ = some (.iface 76 (.pointer (some ⟨GR, 0, none⟩))) := (hbb.cell (show G < _ from H.out.blk.lt)).trans c5
      have df : ∀ i, w2.frozen? ⟨G, i, none⟩ = false := (H.out.below hbb).blk.frozen
      obtain ⟨w3, hw3⟩ : ∃ w3, w2.setCell ⟨G, 5, none⟩ .nilIface = w3 := ⟨_, rfl⟩
      have HQ := keepHid (fun wx => HP.out w2 w3 wx hbb hw3)
      clear hown hb2 hnc hcm had2 hbb
      go_upto_region 6 with fail
      try rw [hw3]
      clear hw3 d5 df c5 hf
      go_quiet (fail)
      rename_i nq
      generalize hwq : w3.drewN nq = wq
      have hbq : Below w3.heap.size w3 wq := by rw [← hwq]; exact below_drewN (Below.refl _ _) _
      have HR := keepHid (HQ.out _ hbq)
      clear hbq hwq
      go_wp2
      go_ret
      exact HR.out


set_option maxRecDepth 100000 in
set_option maxHeartbeats 4000000 in
theorem finish_files {w0 w : World} {G GS GR : Nat} {κ : Nat → Nat} {p : BP Fl} {z1 z2 : Int} {lv rv : Value} {s : Bd} (h : TgtM w0 w G κ p z1 z2 GS lv (.iface 77 (ptV GR)) rv s)
    (hdone : ∀ wx, Below w.heap.size w wx → Calls Tryz.prog 46 #[ptV GR] wx fun e w' => e = .returned (.tuple #[.bool s.ld.ov, errV s.ld.er]) ∧ w' = wx.drew)
    (hdata : ∀ wx, Below w.heap.size w wx → Calls Tryz.prog 47 #[ptV GR] wx (RetB wx s.ld.da)) (had : s.ad < 4294967296) (hda : s.ld.da.length ≤ 140737488355328) :
    Calls Tryz.prog 29 #[ptV G] w (FinPost w0 G κ p z1 z2 s w) := by
  have c5 : w.cell? ⟨G, 5, none⟩ = some (.iface 77 (ptV GR)) := h.blk.cell 5
  have hf := h.blk.frozen
  have HD := keepHid (hdone w (Below.refl _ _))
  have HA := keepHid (hdata w.drew ((Below.refl _ _).drew))
  have H := keepHid h
  clear hdone hdata
  unfold ptV at c5 HD HA ⊢
  cases ho : s.ld.ov with
  | false =>
    rw [ho] at HD
    have HP : Hid (FinPost w0 G κ p z1 z2 s w (.returned (.string ⟨#[]⟩)) w.drew) := keepHid (by
      unfold FinPost
      rw [fin_no ho]
      exact ⟨rfl, TOut.same ⟨_, _, _, _, H.out⟩ ((Below.refl _ _).drew)⟩)
    generalize errV s.ld.er = ev at *
    clear h HA ho H
    go_enter Tryz.func29, Tryz.ntmps29
    go_wp2_with fail
    refine HD.out.mono ?_
    rintro e w1 ⟨rfl, rfl⟩
    go_wp2
    go_ret
    exact HP.out
  | true =>
    rw [ho] at HD
    have had2 : (s.ad : Int) < 4294967296 := by omega
    by_cases her : s.ld.er = 0
    · rw [her] at HD
      rw [errV_zero] at HD
      have HP : Hid (∀ b w2 w3 wx w4, (b = true ∧ s.ad + s.ld.da.length ≤ 16384 ∧ Turn (fun i => i = GS) wx w4 ∧ Sto w4 GS (splice s.st s.ad s.ld.da)) ∨ (b = false ∧ ¬ s.ad + s.ld.da.length ≤ 16384 ∧ wx = w4) → Below w.heap.size w w2 → w2.setCell ⟨G, 5, none⟩ .nilIface = w3 → Below w3.heap.size w3 wx → FinPost w0 G κ p z1 z2 s w (.returned (.string (if b = true then ⟨#[13, 10, 61, 62, 32]⟩ else ⟨#[33, 13, 10, 61, 62, 32]⟩))) w4) := keepHid (fun b w2 w3 wx w4 q0 q1 q2 q3 => by
        obtain ⟨k1, k2, k3⟩ := fin_struck H.out q1 q2
        unfold FinPost
        rcases q0 with ⟨rfl, hfit, q4, q5⟩ | ⟨rfl, hfit, rfl⟩
        · rw [fin_yes ho her hfit]
          exact ⟨rfl, fin_out k1 k2 H.out.g q3 q4 q5⟩
        · rw [fin_bad ho (fun hh => hfit hh.2)]
          exact ⟨rfl, fin_out k1 k2 H.out.g q3 (Turn.refl _ _) (k1.below q3).sto⟩)
      obtain ⟨n, hn⟩ : ∃ n, s.ld.da.length = n := ⟨_, rfl⟩
      have HN := keepHid hn
      clear h ho her
      go_enter Tryz.func29, Tryz.ntmps29
      go_wp2_with fail
      refine HD.out.mono ?_
      rintro e w1 ⟨rfl, rfl⟩
      go_wp2_with fail
      refine HA.out.mono ?_
      rintro e w2 ⟨A, c, rfl, hown, hnc, hcm, hb2⟩
      have hbb : Below w.heap.size w w2 := ((Below.refl _ _).drew).trans hb2
      have d5 : w2.cell? ⟨G, 5, none⟩ = some (.iface 77 (.pointer (some ⟨GR, 0, none⟩))) := (hbb.cell (show G < _ from H.out.blk.lt)).trans c5
      have df : ∀ i, w2.frozen? ⟨G, i, none⟩ = false := (H.out.below hbb).blk.frozen
      obtain ⟨w3, hw3⟩ : ∃ w3, w2.setCell ⟨G, 5, none⟩ .nilIface = w3 := ⟨_, rfl⟩
      obtain ⟨k1, k2, k3⟩ := fin_struck H.out hbb hw3
      have HMEM : Hid (∀ wx, Below w3.heap.size w3 wx → Calls Tryz.prog 45 #[.pointer (some ⟨G, 0, none⟩)] wx fun e w' => e = .returned (.pointer (some ⟨GS, 0, none⟩)) ∧ wx = w') := keepHid (fun wx hx => memory_any (k1.below hx).blk)
      have hGne : ∀ ad, A = some ad → ¬ ad.block = G := fun ad e hh => by
        have := World.ownsRow.lt hown ad.block (by rw [e]; rfl)
        have := H.out.blk.lt
        simp at *
        omega
      have hy : Bys w3 w3.heap.size A n s.ld.da := by
        rw [← HN.out]
        have := (hown.bys (by rw [HN.out]; omega)).turn (show Turn (fun i => i = G) w2 w3 by rw [← hw3]; exact turnAt 5 .nilIface (Turn.refl _ w2)) (Nat.le_refl _) (fun _ => hGne)
        rw [k3]; exact this
      have HWR : Hid (∀ wx, Below w3.heap.size w3 wx → Calls Tryz.prog 22 #[.pointer (some ⟨GS, 0, none⟩), .int .i64 (s.ad : Int), .slice A s.ld.da.length c] wx fun e w' => ∃ b : Bool, e = .returned (.bool b) ∧ FinPost w0 G κ p z1 z2 s w (.returned (.string (if b = true then ⟨#[13, 10, 61, 62, 32]⟩ else ⟨#[33, 13, 10, 61, 62, 32]⟩))) w') := keepHid (fun wx hx => by
        rw [HN.out]
        by_cases hfit : s.ad + s.ld.da.length ≤ 16384
        · exact (swrite_z GS s.st s.ad _ rfl A n c _ s.ld.da wx ((k1.below hx).sto) (hy.below hx) (by rw [← HN.out]; exact hfit)).mono fun e w' hh => ⟨true, hh.1, HP.out true w2 w3 wx w' (.inl ⟨rfl, hfit, hh.2.2, hh.2.1⟩) hbb hw3 hx⟩
        · exact (swrite_no _ (s.ad : Int) A n c wx (by omega) (by omega) (.inr (by rw [HN.out] at hfit; omega))).mono fun e w' hh => ⟨false, hh.1, HP.out false w2 w3 wx w' (.inr ⟨rfl, hfit, hh.2⟩) hbb hw3 hx⟩)
      have e6 : w3.cell? ⟨G, 6, none⟩ = some (.int .i64 (s.ad : Int)) := k1.blk.cell 6
      clear hown hb2 k1 k2 hy hGne hnc hcm had2
      rw [hn] at HWR ⊢
      clear hn
      go_upto_region 6 with fail
      try rw [hw3]
      clear hw3 d5 df c5 hf hbb k3
      go_region_with (first
        | (go_at_call 45; (with_reducible refine (HMEM.out _ (by first | exact Below.refl _ _ | exact (Below.refl _ _).drew | exact below_drewN (Below.refl _ _) _)).mono ?_); rintro e w5 ⟨rfl, rfl⟩)
        | (go_at_call 22; (with_reducible refine (HWR.out _ (by first | exact Below.refl _ _ | exact (Below.refl _ _).drew | exact below_drewN (Below.refl _ _) _)).mono ?_); rintro e w5 ⟨b5, rfl, hp5⟩; have HP5 := keepHid hp5; clear hp5))
      all_goals
        cases b5
        all_goals
          go_wp2
          go_ret
          exact HP5.out
    · have HP : Hid (∀ w2 w3 wx, Below w.heap.size w w2 → w2.setCell ⟨G, 5, none⟩ .nilIface = w3 → Below w3.heap.size w3 wx → FinPost w0 G κ p z1 z2 s w (.returned (.string ⟨#[33, 13, 10, 61, 62, 32]⟩)) wx) := keepHid (fun w2 w3 wx q1 q2 q3 => by
        obtain ⟨k1, k2, k3⟩ := fin_struck H.out q1 q2
        unfold FinPost
        rw [fin_bad ho (fun hh => her hh.1)]
        exact ⟨rfl, fin_out k1 k2 H.out.g q3 (Turn.refl _ _) (k1.below q3).sto⟩)
      obtain ⟨ev, hev⟩ := errV_ne her
      rw [hev] at HD
      clear h ho her hev
      go_enter Tryz.func29, Tryz.ntmps29
      go_wp2_with fail
      refine HD.out.mono ?_
      rintro e w1 ⟨rfl, rfl⟩
      go_wp2_with fail
      refine HA.out.mono ?_
      rintro e w2 ⟨A, c, rfl, hown, hnc, hcm, hb2⟩
      have hbb : Below w.heap.size w w2 := ((Below.refl _ _).drew).trans hb2
      have d5 : w2.cell? ⟨G, 5, none⟩ = some (.iface 77 (.pointer (some ⟨GR, 0, none⟩))) := (hbb.cell (show G < _ from H.out.blk.lt)).trans c5
      have df : ∀ i, w2.frozen? ⟨G, i, none⟩ = false := (H.out.below hbb).blk.frozen
      obtain ⟨w3, hw3⟩ : ∃ w3, w2.setCell ⟨G, 5, none⟩ .nilIface = w3 := ⟨_, rfl⟩
      have HQ := keepHid (fun wx => HP.out w2 w3 wx hbb hw3)
      clear hown hb2 hnc hcm had2 hbb
      go_upto_region 6 with fail
      try rw [hw3]
      clear hw3 d5 df c5 hf
      go_quiet (fail)
      rename_i nq
      generalize hwq : w3.drewN nq = wq
      have hbq : Below w3.heap.size w3 wq := by rw [← hwq]; exact below_drewN (Below.refl _ _) _
      have HR := keepHid (HQ.out _ hbq)
      clear hbq hwq
      go_wp2
      go_ret
      exact HR.out


/-- Blocks of a receiver are coloured 5. -/
noncomputable def hue5 (κ : Nat → Nat) (O : Nat → Prop) : Nat → Nat := fun i => by classical exact if O i then 5 else κ i
theorem hue5_in {κ : Nat → Nat} {O : Nat → Prop} {i : Nat} (h : O i) : hue5 κ O i = 5 := by unfold hue5; rw [if_pos h]
theorem hue5_out {κ : Nat → Nat} {O : Nat → Prop} {i : Nat} (h : ¬ O i) : hue5 κ O i = κ i := by unfold hue5; rw [if_neg h]
/-- A receiver has turned its own blocks, and may own new ones. -/
theorem TgtM.recv {w0 w w' : World} {G GS : Nat} {κ : Nat → Nat} {p : BP Fl} {z1 z2 : Int} {lv iv iv' rv : Value} {s : Bd} {l' : Lod} {O O' : Nat → Prop} (h : TgtM w0 w G κ p z1 z2 GS lv iv rv s) (ht : Turn O w w') (hO : ∀ i, O i → κ i = 5)
    (hO' : ∀ i, O' i → O i ∨ w.heap.size ≤ i) (hlt : ∀ i, O' i → i < w'.heap.size) (hb : Blk w' G 36 (tgtC GS z1 z2 s.aw lv iv' s.ad rv)) (hl : LodAt w0 w' (hue5 κ O') p z1 z2 iv' l') :
    TgtM w0 w' G (hue5 κ O') p z1 z2 GS lv iv' rv { s with ld := l' } ∧ (∀ i, hue5 κ O' i ≠ 0 → κ i ≠ 0 ∨ w.heap.size ≤ i) := by
  have hk : ∀ k, k ≠ 0 → k ≠ 5 → ∀ i, κ i = k → hue5 κ O' i = k := fun k h0 h5 i hi => by
    rw [hue5_out]
    · exact hi
    · intro ho
      rcases hO' i ho with h1 | h1
      · have := hO i h1; omega
      · have := (h.lt i (by omega)).2; omega
  have hn : ∀ k, k ≠ 5 → ∀ i, κ i = k → ¬ O i := fun k h5 i hi ho => by have := hO i ho; omega
  have hz : ∀ i, hue5 κ O' i ≠ 0 → κ i ≠ 0 ∨ w.heap.size ≤ i ∧ O' i := fun i hi => by
    by_cases ho : O' i
    · rcases hO' i ho with h1 | h1
      · exact .inl (by have := hO i h1; omega)
      · exact .inr ⟨h1, ho⟩
    · rw [hue5_out ho] at hi; exact .inl hi
  refine ⟨⟨hb, hk 1 (by omega) (by omega) G h.g, hk 2 (by omega) (by omega) GS h.gs, h.sto.turn ht (hn 2 (by omega) GS h.gs), (h.line.turns ht (hn 3 (by omega))).hue (hk 3 (by omega) (by omega)), (h.reps.turns ht (hn 4 (by omega))).hue (hk 4 (by omega) (by omega)), hl, fun i hi => ?_, h.base.turns ht fun i hi => (h.lt i (by rw [hO i hi]; omega)).1⟩, fun i hi => (hz i hi).imp id (·.1)⟩
  rcases hz i hi with h1 | ⟨h1, h2⟩
  · exact ⟨(h.lt i h1).1, Nat.lt_of_lt_of_le (h.lt i h1).2 ht.size⟩
  · exact ⟨Nat.le_trans h.base.bel.size h1, hlt i h2⟩
/-- What a load's receiver leaves of a call. -/
def LPost (w0 : World) (G : Nat) (κ : Nat → Nat) (p : BP Fl) (z1 z2 : Int) (GS : Nat) (lv iv rv : Value) (s : Bd) (r : List UInt8 × Lod) (w : World) (e : Ending) (w' : World) : Prop :=
  ∃ A c κ', e = .returned (.slice A r.1.length c) ∧ OwnB w' w.heap.size 5 (.slice A r.1.length c) r.1.length r.1 ∧ r.1.length ≤ c ∧ c ≤ 9223372036854775807 ∧
    TgtM w0 w' G κ' p z1 z2 GS lv iv rv { s with ld := r.2 } ∧ Turn (fun i => κ i = 5) w w' ∧ (∀ i, κ' i ≠ 0 → κ i ≠ 0 ∨ w.heap.size ≤ i) ∧ ∀ ad, A = some ad → κ' ad.block = 0
section
variable {w0 w : World} {G GS : Nat} {κ : Nat → Nat} {p : BP Fl} {z1 z2 : Int} {lv iv rv : Value} {s : Bd}
theorem own_zero {w' : World} {A : Option Addr} {n c : Nat} {d : List UInt8} {O' : Nat → Prop} (h : TgtM w0 w G κ p z1 z2 GS lv iv rv s) (ho : OwnB w' w.heap.size 5 (.slice A n c) n d) (hno : ∀ ad, A = some ad → ¬ O' ad.block) : ∀ ad, A = some ad → hue5 κ O' ad.block = 0 := fun ad e => by
  rw [hue5_out (hno ad e)]
  have h1 := World.ownsRow.lt ho ad.block (by rw [e]; rfl)
  rcases Nat.eq_zero_or_pos (κ ad.block) with h0 | h0
  · exact h0
  · have := (h.lt ad.block (by omega)).2; omega
theorem one_post {GR B : Nat} {O : Nat → Prop} {crc : Bool} {r : List UInt8 × Rd} {e : Ending} {w' : World} (h : TgtM w0 w G κ p z1 z2 GS lv (.iface 76 (ptV GR)) rv s) (hO : ∀ i, O i → κ i = 5) (hB : w0.heap.size ≤ B) (hp : RPost B GR O crc true p.W r w e w') :
    LPost w0 G κ p z1 z2 GS lv (.iface 76 (ptV GR)) rv s (r.1, .one crc r.2) w e w' := by
  obtain ⟨A, c, O', e1, e2, e3, e4, e5, e6, e7, e8⟩ := hp
  have hG : ¬ O G := fun ho => by have := hO G ho; have := h.g; omega
  have hr := h.recv (O' := O') (l' := .one crc r.2) e5 hO e7 e6.lt (e5.blk h.blk hG) ⟨GR, rfl, O', B, hB, e6, fun i hi => hue5_in hi⟩
  exact ⟨A, c, _, e1, e2, e3, e4, hr.1, e5.mono hO, hr.2, own_zero h e2 e8⟩
theorem files_post {GR B : Nat} {O : Nat → Prop} {r : List UInt8 × Br Fl} {e : Ending} {w' : World} (h : TgtM w0 w G κ p z1 z2 GS lv (.iface 77 (ptV GR)) rv s) (hO : ∀ i, O i → κ i = 5) (hB : w0.heap.size ≤ B) (hp : BrPost B GR O p z1 z2 r w e w') :
    LPost w0 G κ p z1 z2 GS lv (.iface 77 (ptV GR)) rv s (r.1, .files r.2) w e w' := by
  obtain ⟨A, c, O', e1, e2, e3, e4, e5, e6, e7, e8⟩ := hp
  have hG : ¬ O G := fun ho => by have := hO G ho; have := h.g; omega
  have hr := h.recv (O' := O') (l' := .files r.2) e5 hO e7 e6.lt (e5.blk h.blk hG) ⟨GR, rfl, O', B, hB, e6, fun i hi => hue5_in hi⟩
  exact ⟨A, c, _, e1, e2, e3, e4, hr.1, e5.mono hO, hr.2, own_zero h e2 e8⟩
/-- How much a load may have. -/
def Lod.fit (l : Lod) : Prop := ∃ C B, l.few C B ∧ C ≤ 500000 ∧ B ≤ 500000000
theorem lod_one_tick {GR : Nat} {crc : Bool} {r : Rd} (h : TgtM w0 w G κ p z1 z2 GS lv (.iface 76 (ptV GR)) rv s) (hs : s.ld = .one crc r) :
    Calls Tryz.prog 32 #[ptV GR] w (LPost w0 G κ p z1 z2 GS lv (.iface 76 (ptV GR)) rv s (s.ld.tick p) w) := by
  have hl := h.lod
  rw [hs] at hl ⊢
  obtain ⟨GR', e, O, B, hB, hR, hO⟩ := hl
  obtain rfl : GR = GR' := by injection e with _ e; injection e with e; injection e with e; injection e
  exact (tick_rcv hR).mono fun e w' hp => one_post h hO hB hp
theorem lod_files_tick (hp : Rdr p) {GR : Nat} {b : Br Fl} (h : TgtM w0 w G κ p z1 z2 GS lv (.iface 77 (ptV GR)) rv s) (hs : s.ld = .files b) (hf : s.ld.fit) :
    Calls Tryz.prog 31 #[ptV GR] w (LPost w0 G κ p z1 z2 GS lv (.iface 77 (ptV GR)) rv s (s.ld.tick p) w) := by
  have hl := h.lod
  rw [hs] at hl hf ⊢
  obtain ⟨GR', e, O, B, hB, hR, hO⟩ := hl
  obtain rfl : GR = GR' := by injection e with _ e; injection e with e; injection e with e; injection e
  obtain ⟨C, B', ⟨f1, f2, f3, f4⟩, hC, hB'⟩ := hf
  refine (brtick_any hp hR h.base.std hB ?_).mono fun e w' hp => files_post h hO hB hp
  have := (tick_few true p.W b.r).1
  omega
theorem lod_one_put {GR : Nat} {crc : Bool} {r : Rd} (h : TgtM w0 w G κ p z1 z2 GS lv (.iface 76 (ptV GR)) rv s) (hs : s.ld = .one crc r) (hf : s.ld.fit) (A : Option Addr) (n c : Nat) (x : List UInt8) (hx : Bys w w.heap.size A n x) (hn : n ≤ 400000000) (hap : ∀ ad, A = some ad → 0 < n → κ ad.block = 0) :
    Calls Tryz.prog 35 #[ptV GR, .slice A n c] w (LPost w0 G κ p z1 z2 GS lv (.iface 76 (ptV GR)) rv s (s.ld.put p x) w) := by
  have hl := h.lod
  rw [hs] at hl hf ⊢
  obtain ⟨GR', e, O, B, hB, hR, hO⟩ := hl
  obtain rfl : GR = GR' := by injection e with _ e; injection e with e; injection e with e; injection e
  obtain ⟨C, B', ⟨f1, f2, f3, f4⟩, hC, hB'⟩ := hf
  refine (put_rcv hR A n c _ x hx (Nat.le_refl _) (fun h0 ad e hh => ?_) (by omega) (by omega) (by omega)).mono fun e w' hp => one_post h hO hB hp
  have h1 := hO GR hR.g
  have h2 := hap ad e h0
  rw [hh] at h2
  omega
theorem lod_files_put (hp : Rdr p) {GR : Nat} {b : Br Fl} (h : TgtM w0 w G κ p z1 z2 GS lv (.iface 77 (ptV GR)) rv s) (hs : s.ld = .files b) (hf : s.ld.fit) (A : Option Addr) (n c : Nat) (x : List UInt8) (hx : Bys w w.heap.size A n x) (hn : n ≤ 400000000) (hap : ∀ ad, A = some ad → 0 < n → κ ad.block = 0) :
    Calls Tryz.prog 34 #[ptV GR, .slice A n c] w (LPost w0 G κ p z1 z2 GS lv (.iface 77 (ptV GR)) rv s (s.ld.put p x) w) := by
  have hl := h.lod
  rw [hs] at hl hf ⊢
  obtain ⟨GR', e, O, B, hB, hR, hO⟩ := hl
  obtain rfl : GR = GR' := by injection e with _ e; injection e with e; injection e with e; injection e
  obtain ⟨C, B', ⟨f1, f2, f3, f4⟩, hC, hB'⟩ := hf
  refine (brput_any hp hR h.base.std hB A n c x hx (fun h0 ad e hh => ?_) (by omega) (by omega) (by omega) ?_).mono fun e w' hp => files_post h hO hB hp
  · have h1 := hO _ hh
    have h2 := hap ad e h0
    omega
  · have := (put_few true (clB b.k) p.W b.r x).1
    omega
/-- The end of a load, whatever receives it. -/
theorem finish_any {GR : Nat} {T : TypeId} (hT : (T = 76 ∧ ∃ crc r, s.ld = .one crc r) ∨ (T = 77 ∧ ∃ b, s.ld = .files b)) (h : TgtM w0 w G κ p z1 z2 GS lv (.iface T (ptV GR)) rv s) (had : s.ad < 4294967296) (hf : ∃ C B, s.ld.few C B ∧ C ≤ 600000) :
    Calls Tryz.prog 29 #[ptV G] w (FinPost w0 G κ p z1 z2 s w) := by
  obtain ⟨C, B', hf, hC⟩ := hf
  rcases hT with ⟨rfl, crc, r, hs⟩ | ⟨rfl, b, hs⟩
  · have hl := h.lod
    rw [hs] at hl
    obtain ⟨GR', e, O, B, hB, hR, hO⟩ := hl
    obtain rfl : GR = GR' := by injection e with _ e; injection e with e; injection e with e; injection e
    have hda : s.ld.da.length ≤ 140737488355328 := by
      rw [hs] at hf ⊢
      have := hf.1
      show r.da.length ≤ _
      omega
    exact finish_one h (fun wx hx => by rw [hs]; exact done_rcv (hR.below hx)) (fun wx hx => by rw [hs] at hda ⊢; exact data_rcv (hR.below hx) hda) had hda
  · have hl := h.lod
    rw [hs] at hl
    obtain ⟨GR', e, O, B, hB, hR, hO⟩ := hl
    obtain rfl : GR = GR' := by injection e with _ e; injection e with e; injection e with e; injection e
    have hda : s.ld.da.length ≤ 140737488355328 := by
      rw [hs]
      have := hR.da
      show b.da.length ≤ _
      omega
    exact finish_files h (fun wx hx => by rw [hs]; exact brdone_any (hR.below hx)) (fun wx hx => by rw [hs]; exact brdata_any (hR.below hx)) had hda
end

/-- What a call of a board's leaves: what is told, in a row of its own. -/
def TRow (w0 : World) (G : Nat) (κ : Nat → Nat) (p : BP Fl) (z1 z2 : Int) (r : List UInt8 × Bd) (w : World) (e : Ending) (w' : World) : Prop :=
  ∃ A c κ', e = .returned (.slice A r.1.length c) ∧ OwnB w' w.heap.size 5 (.slice A r.1.length c) r.1.length r.1 ∧ r.1.length ≤ c ∧ c ≤ 9223372036854775807 ∧
    Tgt w0 w' G κ' p z1 z2 r.2 ∧ Turn (fun i => κ i ≠ 0) w w' ∧ (∀ i, κ' i ≠ 0 → κ i ≠ 0 ∨ w.heap.size ≤ i) ∧ ∀ ad, A = some ad → κ' ad.block = 0
/-- What was told lies in a row of colour 0 that is the call's own; more is appended to it. -/
structure Told (w0 w w1 : World) (κ κ1 : Nat → Nat) (v : Value) (n : Nat) (xs : List UInt8) : Prop where
  own : OwnB w1 w.heap.size 5 v n xs
  zero : ∀ i, v.ownBlock = some i → κ1 i = 0
  turn : Turn (fun i => κ i ≠ 0) w w1
  new : ∀ i, κ1 i ≠ 0 → κ i ≠ 0 ∨ w.heap.size ≤ i
  le : w0.heap.size ≤ w.heap.size
/-- A call between leaves it. -/
theorem Told.next {w0 w w1 w2 : World} {G : Nat} {κ κ1 : Nat → Nat} {p : BP Fl} {z1 z2 : Int} {s2 : Bd} {v : Value} {n : Nat} {xs : List UInt8} (h : Told w0 w w1 κ κ1 v n xs) (ho : TOut w0 G κ1 p z1 z2 s2 w1 w2) :
    ∃ κ2, Tgt w0 w2 G κ2 p z1 z2 s2 ∧ Told w0 w w2 κ κ2 v n xs := by
  obtain ⟨κ2, h1, h2, h3⟩ := ho
  refine ⟨κ2, h1, h.own.keep fun i hi hlt => h2.block i hlt (fun hh => hh (h.zero i hi)), fun i hi => ?_, ?_, fun i hi => ?_, ?_⟩
  · have hlt := (World.ownsRow.lt h.own i hi).2
    rcases Nat.eq_zero_or_pos (κ2 i) with h0 | h0
    · exact h0
    · rcases h3 i (by omega) with q | q
      · exact absurd (h.zero i hi) q
      · omega
  · refine ⟨h2.os.trans h.turn.os, h2.tape.trans h.turn.tape, h2.output.trans h.turn.output, Nat.le_trans h.turn.size h2.size, fun i hi hn => (h2.block i (Nat.lt_of_lt_of_le hi h.turn.size) (fun h1 => ?_)).trans (h.turn.block i hi hn)⟩
    rcases h.new i h1 with q | q
    · exact hn q
    · omega
  · rcases h3 i hi with q | q
    · exact h.new i q
    · exact .inr (Nat.le_trans h.turn.size q)
  · exact h.le
/-- Bytes are appended. -/
theorem Told.app {w0 w w2 w3 : World} {G : Nat} {κ κ2 : Nat → Nat} {p : BP Fl} {z1 z2 : Int} {s2 : Bd} {v v' : Value} {n k : Nat} {xs zs : List UInt8} (h : Told w0 w w2 κ κ2 v n xs) (hT : Tgt w0 w2 G κ2 p z1 z2 s2)
    (ho : OwnB w3 w.heap.size 5 v' k zs) (ht : Turn (fun i => v.ownBlock = some i) w2 w3) (hw : v'.ownBlock = v.ownBlock ∨ v'.ownBlock = some w2.heap.size) : Tgt w0 w3 G κ2 p z1 z2 s2 ∧ Told w0 w w3 κ κ2 v' k zs := by
  have hb := hT.base.bel.size
  refine ⟨hT.turns ht fun i hi => ⟨h.zero i hi, ?_⟩, ho, fun i hi => ?_, ?_, h.new, h.le⟩
  · have := (World.ownsRow.lt h.own i hi).1
    have h2 := h.le
    omega
  · rcases hw with e | e
    · exact h.zero i (e ▸ hi)
    · rw [e] at hi
      obtain rfl := Option.some.inj hi
      rcases Nat.eq_zero_or_pos (κ2 w2.heap.size) with h0 | h0
      · exact h0
      · have := (hT.lt _ (by omega : κ2 w2.heap.size ≠ 0)).2; omega
  · refine ⟨ht.os.trans h.turn.os, ht.tape.trans h.turn.tape, ht.output.trans h.turn.output, Nat.le_trans h.turn.size ht.size, fun i hi hn => (ht.block i (Nat.lt_of_lt_of_le hi h.turn.size) (fun h1 => ?_)).trans (h.turn.block i hi hn)⟩
    have := (World.ownsRow.lt h.own i h1).1
    omega
theorem Told.row {w0 w w3 : World} {G : Nat} {κ κ2 : Nat → Nat} {p : BP Fl} {z1 z2 : Int} {r : List UInt8 × Bd} {A : Option Addr} {k c : Nat} {zs : List UInt8} (h : Told w0 w w3 κ κ2 (.slice A k c) k zs) (hT : Tgt w0 w3 G κ2 p z1 z2 r.2) (e1 : zs = r.1) (hc : k ≤ c) (hm : c ≤ 9223372036854775807) : TRow w0 G κ p z1 z2 r w (.returned (.slice A k c)) w3 := by
  subst e1
  have hl := h.own.len
  subst hl
  exact ⟨A, c, κ2, rfl, h.own, hc, hm, hT, h.turn, h.new, fun ad e => by
    refine h.zero _ ?_
    rw [e]; rfl⟩

/-! ### How much is told -/
theorem finR_few (cl : Bool) (s : Rd) : (finR cl s).1.length ≤ 2 := by unfold finR; split <;> simp
theorem takeR_few (cl : Bool) (s : Rd) (num : UInt8) (d : List UInt8) : (takeR cl s num d).1.length ≤ 2 := by
  unfold takeR
  split
  · exact finR_few _ _
  · split
    · simp
    · exact finR_few _ _
theorem putR_few (crc cl : Bool) (W : Nat) (s : Rd) (x : List UInt8) : (putR crc cl W s x).1.length ≤ 2 := by
  unfold putR seeR scanR
  repeat' split
  all_goals first | (simp; done) | exact takeR_few _ _ _ _
theorem tickR_few (crc : Bool) (W : Nat) (s : Rd) : (tickR crc W s).1.length ≤ 2 := by
  unfold tickR askR
  repeat' split
  all_goals simp
theorem Lod.put_out (p : BP Fl) (x : List UInt8) (l : Lod) : (l.put p x).1.length ≤ 2 := by
  cases l with
  | non => simp [Lod.put]
  | one crc s => exact putR_few _ _ _ _ _
  | files b =>
    show (putBR p b x).1.length ≤ 2
    unfold putBR
    split
    · simp
    · exact putR_few _ _ _ _ _
theorem Lod.tick_out (p : BP Fl) (l : Lod) : (l.tick p).1.length ≤ 2 := by
  cases l with
  | non => simp [Lod.tick]
  | one crc s => exact tickR_few _ _ _
  | files b =>
    show (tickBR p b).1.length ≤ 2
    unfold tickBR
    split
    · simp
    · exact tickR_few _ _ _
theorem fin_out_few (s : Bd) : (fin20 s).1.length ≤ 6 := by
  unfold fin20 readyL
  repeat' split
  all_goals simp
theorem own_hue {κ1 : Nat → Nat} {A : Option Addr} {n c : Nat} (hz : ∀ ad, A = some ad → κ1 ad.block = 0) : ∀ i, (Value.slice A n c).ownBlock = some i → κ1 i = 0 := fun i hi => by
  cases A with
  | none => simp [Value.ownBlock] at hi
  | some ad =>
    simp [Value.ownBlock] at hi
    rw [← hi]; exact hz ad rfl
/-! ### A tick -/
theorem tick_is (p : BP Fl) (s : Bd) : tick20 p s = ((s.ld.tick p).1 ++ (fin20 { s with ld := (s.ld.tick p).2 }).1, (fin20 { s with ld := (s.ld.tick p).2 }).2) := rfl
theorem lput_is (p : BP Fl) (s : Bd) (x : List UInt8) : lput20 p s x = ((s.ld.put p x).1 ++ (fin20 { s with ld := (s.ld.put p x).2 }).1, (fin20 { s with ld := (s.ld.put p x).2 }).2) := rfl

set_option maxRecDepth 100000 in
set_option maxHeartbeats 4000000 in
theorem ttick_one {w0 w : World} {G GS GR : Nat} {κ : Nat → Nat} {p : BP Fl} {z1 z2 : Int} {lv rv : Value} {s : Bd} (h : TgtM w0 w G κ p z1 z2 GS lv (.iface 76 (ptV GR)) rv s)
    (htick : Calls Tryz.prog 32 #[ptV GR] w (LPost w0 G κ p z1 z2 GS lv (.iface 76 (ptV GR)) rv s (s.ld.tick p) w))
    (hfin : ∀ w1 κ1, TgtM w0 w1 G κ1 p z1 z2 GS lv (.iface 76 (ptV GR)) rv { s with ld := (s.ld.tick p).2 } → Calls Tryz.prog 29 #[ptV G] w1 (FinPost w0 G κ1 p z1 z2 { s with ld := (s.ld.tick p).2 } w1)) :
    Calls Tryz.prog 13 #[ptV G] w (TRow w0 G κ p z1 z2 (tick20 p s) w) := by
  have c5 : w.cell? ⟨G, 5, none⟩ = some (.iface 76 (ptV GR)) := h.blk.cell 5
  have H := keepHid h
  have HT := keepHid htick
  have HF := keepHid hfin
  have l1 := Lod.tick_out p s.ld
  have l2 := fin_out_few { s with ld := (s.ld.tick p).2 }
  have he := tick_is p s
  have HE1 : Hid ((tick20 p s).1 = (s.ld.tick p).1 ++ (fin20 { s with ld := (s.ld.tick p).2 }).1) := keepHid (by rw [he])
  have HE2 : Hid ((tick20 p s).2 = (fin20 { s with ld := (s.ld.tick p).2 }).2) := keepHid (by rw [he])
  clear h htick hfin he
  unfold ptV at c5 HT HF ⊢
  generalize tick20 p s = r at *
  generalize s.ld.tick p = lt at *
  obtain ⟨s1, hs1⟩ : ∃ s1, { s with ld := lt.2 } = s1 := ⟨_, rfl⟩
  have HS1 := keepHid hs1
  rw [hs1] at HF l2 HE1 HE2
  clear hs1
  go_enter Tryz.func13, Tryz.ntmps13
  go_wp2_with fail
  refine HT.out.mono ?_
  rintro e w1 ⟨A, c, κ1, rfl, ho, hc1, hc2, hm, ht, hk, hz⟩
  have HTD : Hid (Told w0 w w1 κ κ1 (.slice A lt.1.length c) lt.1.length lt.1) := keepHid ⟨ho, own_hue hz, ht.mono (fun i hi => by rw [hi]; omega), hk, H.out.base.bel.size⟩
  have HFN := keepHid (HF.out w1 κ1 (by rw [← HS1.out]; exact hm))
  unfold FinPost at HFN
  generalize fin20 s1 = f1 at *
  obtain ⟨n, hn⟩ : ∃ n, lt.1.length = n := ⟨_, rfl⟩
  obtain ⟨k, hkk⟩ : ∃ k, n + f1.1.length = k := ⟨_, rfl⟩
  rw [hn] at HTD ⊢
  have hk8 : k ≤ 8 := by omega
  clear ho hc1 hc2 hm ht hk hz HF HT
  go_wp2_with fail
  refine HFN.out.mono ?_
  rintro e w2 ⟨rfl, hout⟩
  obtain ⟨κ2, hT2, hTD2⟩ := HTD.out.next hout
  have HT2 := keepHid hT2
  have HTD2 := keepHid hTD2
  have hws := hTD2.turn.size
  clear hout hT2 hTD2 HFN HTD
  go_wp2_with (at_builtin; refine wpList_append_textO rfl _ _ rfl w.heap.size (.slice A n c) n lt.1 f1.1 (by rfl) HTD2.out.own (by rfl) k hkk (by omega) hws ?_)
  intro A3 c3 w3 q1 q2 q3 q4 q5
  obtain ⟨hT3, hTD3⟩ := HTD2.out.app HT2.out q1 q2 q3
  have HR := keepHid (hTD3.row (r := r) (by rw [HE2.out]; exact hT3) HE1.out.symm q4 q5)
  clear q1 q2 q3 q4 q5 hT3 hTD3
  go_wp2
  go_ret
  exact HR.out

set_option maxRecDepth 100000 in
set_option maxHeartbeats 4000000 in
theorem ttick_files {w0 w : World} {G GS GR : Nat} {κ : Nat → Nat} {p : BP Fl} {z1 z2 : Int} {lv rv : Value} {s : Bd} (h : TgtM w0 w G κ p z1 z2 GS lv (.iface 77 (ptV GR)) rv s)
    (htick : Calls Tryz.prog 31 #[ptV GR] w (LPost w0 G κ p z1 z2 GS lv (.iface 77 (ptV GR)) rv s (s.ld.tick p) w))
    (hfin : ∀ w1 κ1, TgtM w0 w1 G κ1 p z1 z2 GS lv (.iface 77 (ptV GR)) rv { s with ld := (s.ld.tick p).2 } → Calls Tryz.prog 29 #[ptV G] w1 (FinPost w0 G κ1 p z1 z2 { s with ld := (s.ld.tick p).2 } w1)) :
    Calls Tryz.prog 13 #[ptV G] w (TRow w0 G κ p z1 z2 (tick20 p s) w) := by
  have c5 : w.cell? ⟨G, 5, none⟩ = some (.iface 77 (ptV GR)) := h.blk.cell 5
  have H := keepHid h
  have HT := keepHid htick
  have HF := keepHid hfin
  have l1 := Lod.tick_out p s.ld
  have l2 := fin_out_few { s with ld := (s.ld.tick p).2 }
  have he := tick_is p s
  have HE1 : Hid ((tick20 p s).1 = (s.ld.tick p).1 ++ (fin20 { s with ld := (s.ld.tick p).2 }).1) := keepHid (by rw [he])
  have HE2 : Hid ((tick20 p s).2 = (fin20 { s with ld := (s.ld.tick p).2 }).2) := keepHid (by rw [he])
  clear h htick hfin he
  unfold ptV at c5 HT HF ⊢
  generalize tick20 p s = r at *
  generalize s.ld.tick p = lt at *
  obtain ⟨s1, hs1⟩ : ∃ s1, { s with ld := lt.2 } = s1 := ⟨_, rfl⟩
  have HS1 := keepHid hs1
  rw [hs1] at HF l2 HE1 HE2
  clear hs1
  go_enter Tryz.func13, Tryz.ntmps13
  go_wp2_with fail
  refine HT.out.mono ?_
  rintro e w1 ⟨A, c, κ1, rfl, ho, hc1, hc2, hm, ht, hk, hz⟩
  have HTD : Hid (Told w0 w w1 κ κ1 (.slice A lt.1.length c) lt.1.length lt.1) := keepHid ⟨ho, own_hue hz, ht.mono (fun i hi => by rw [hi]; omega), hk, H.out.base.bel.size⟩
  have HFN := keepHid (HF.out w1 κ1 (by rw [← HS1.out]; exact hm))
  unfold FinPost at HFN
  generalize fin20 s1 = f1 at *
  obtain ⟨n, hn⟩ : ∃ n, lt.1.length = n := ⟨_, rfl⟩
  obtain ⟨k, hkk⟩ : ∃ k, n + f1.1.length = k := ⟨_, rfl⟩
  rw [hn] at HTD ⊢
  have hk8 : k ≤ 8 := by omega
  clear ho hc1 hc2 hm ht hk hz HF HT
  go_wp2_with fail
  refine HFN.out.mono ?_
  rintro e w2 ⟨rfl, hout⟩
  obtain ⟨κ2, hT2, hTD2⟩ := HTD.out.next hout
  have HT2 := keepHid hT2
  have HTD2 := keepHid hTD2
  have hws := hTD2.turn.size
  clear hout hT2 hTD2 HFN HTD
  go_wp2_with (at_builtin; refine wpList_append_textO rfl _ _ rfl w.heap.size (.slice A n c) n lt.1 f1.1 (by rfl) HTD2.out.own (by rfl) k hkk (by omega) hws ?_)
  intro A3 c3 w3 q1 q2 q3 q4 q5
  obtain ⟨hT3, hTD3⟩ := HTD2.out.app HT2.out q1 q2 q3
  have HR := keepHid (hTD3.row (r := r) (by rw [HE2.out]; exact hT3) HE1.out.symm q4 q5)
  clear q1 q2 q3 q4 q5 hT3 hTD3
  go_wp2
  go_ret
  exact HR.out

set_option maxRecDepth 100000 in
theorem ttick_any {w0 w : World} {G : Nat} {κ : Nat → Nat} {p : BP Fl} (hp : Rdr p) {z1 z2 : Int} {s : Bd} (h : Tgt w0 w G κ p z1 z2 s) (hf : s.ld.fit) (had : s.ad < 4294967296) :
    Calls Tryz.prog 13 #[ptV G] w (TRow w0 G κ p z1 z2 (tick20 p s) w) := by
  obtain ⟨GS, lv, iv, rv, h⟩ := h
  have hda : ∃ C B, (s.ld.tick p).2.few C B ∧ C ≤ 600000 := by
    obtain ⟨C, B, h1, h2, h3⟩ := hf
    exact ⟨C, B, Lod.few_tick p h1, by omega⟩
  cases hs : s.ld with
  | non =>
    have hl := h.lod
    rw [hs] at hl
    obtain rfl : iv = .nilIface := hl
    have c5 : w.cell? ⟨G, 5, none⟩ = some .nilIface := h.blk.cell 5
    have HP : Hid (TRow w0 G κ p z1 z2 (tick20 p s) w (.returned (.slice none 0 0)) w) := keepHid (by
      rw [tick_non hs]
      exact ⟨none, 0, κ, rfl, OwnB.nil _ _ _, Nat.le_refl _, by omega, ⟨_, _, _, _, h⟩, Turn.refl _ _, fun i hi => .inl hi, fun ad e => by cases e⟩)
    unfold ptV
    clear h
    go_enter Tryz.func13, Tryz.ntmps13
    go_wp2
    go_ret
    exact HP.out
  | one crc r =>
    have hl := h.lod
    rw [hs] at hl
    obtain ⟨GR, rfl, -⟩ := hl
    refine ttick_one h (lod_one_tick h hs) (fun w1 κ1 h1 => finish_any (.inl ⟨rfl, ?_⟩) h1 had hda)
    rw [hs]; exact ⟨_, _, rfl⟩
  | files b =>
    have hl := h.lod
    rw [hs] at hl
    obtain ⟨GR, rfl, -⟩ := hl
    refine ttick_files h (lod_files_tick hp h hs hf) (fun w1 κ1 h1 => finish_any (.inr ⟨rfl, ?_⟩) h1 had hda)
    rw [hs]; exact ⟨_, rfl⟩


/-! ### Which way -/
def wayI (t : List UInt8) : Int := match wayOf t with
  | some k => (k : Int)
  | none => -1
theorem wayI_step {t : List UInt8} {k : Nat} (hk : k ≤ 3) (hb : ∀ j : Nat, j < k → t ≠ wayL j) (h : t = wayL k) : wayI t = (k : Int) := by
  subst h
  rcases (by omega : k = 0 ∨ k = 1 ∨ k = 2 ∨ k = 3) with rfl | rfl | rfl | rfl <;> decide
theorem wayI_no {t : List UInt8} (hb : ∀ j : Nat, j < 4 → t ≠ wayL j) : wayI t = -1 := by
  have h0 : t ≠ wCheck := hb 0 (by omega)
  have h1 : t ≠ wCrc := hb 1 (by omega)
  have h2 : t ≠ wLarge := hb 2 (by omega)
  have h3 : t ≠ wBatch := hb 3 (by omega)
  unfold wayI wayOf
  rw [if_neg h0, if_neg h1, if_neg h2, if_neg h3]
theorem wayOf_le {t : List UInt8} {k : Nat} (h : wayOf t = some k) : k ≤ 3 := by
  unfold wayOf at h
  split at h
  · have := Option.some.inj h; omega
  split at h
  · have := Option.some.inj h; omega
  split at h
  · have := Option.some.inj h; omega
  split at h
  · have := Option.some.inj h; omega
  · cases h
theorem windex_any {w : World} {g : Nat} (hW : WaysAt w g) (t : List UInt8) :
    Calls Tryz.prog 82 #[.slice (some ⟨g, 0, none⟩) 4 4, .string (strB t)] w fun e w' => e = .returned (.int .i64 (wayI t)) ∧ w = w' := by
  have HY : Hid (∀ k : Nat, k ≤ 3 → (∀ j : Nat, j < k → t ≠ wayL j) → t = wayL k → wayI t = (k : Int)) := keepHid fun k hk hb h => wayI_step hk hb h
  have HN : Hid ((∀ j : Nat, j < 4 → t ≠ wayL j) → wayI t = -1) := keepHid wayI_no
  have HWA : Hid (∀ k : Nat, k ≤ 3 → w.cell? ⟨g, k, none⟩ = some (.string (strB (wayL k)))) := keepHid (fun k hk => hW.at_ hk)
  generalize wayI t = R at *
  clear hW
  go_enter Tryz.func82, Tryz.ntmps82
  go_wp2_with fail
  go_loopw [8] (fun i wr => ∃ k : Nat, k ≤ 4 ∧ i = .int .i64 (k : Int) ∧ Hid (wr = w) ∧ Hid (∀ j : Nat, j < k → t ≠ wayL j)) (fun i _ => 4 - (intOf i).toNat)
  case atStart => exact ⟨0, Nat.zero_le _, rfl, keepHid rfl, keepHid (fun j h => by omega)⟩
  case round =>
    obtain ⟨k, hk, rfl, HWR, HK⟩ := hrel
    obtain rfl := HWR.out
    by_cases hlt : k < 4
    · have hlt2 : (k : Int) < 4 := by omega
      have hc := HWA.out k (by omega)
      by_cases he : t = wayL k
      · have HE := keepHid (HY.out k (by omega) HK.out he)
        have hq : ((strB t).toList == (strB (wayL k)).toList) = true := by rw [str_eqB, decide_eq_true he]
        generalize strB (wayL k) = SK at *
        generalize strB t = ST at *
        clear he
        go_wp2
        go_ret
        exact ⟨by rw [HE.out]; rfl, rfl⟩
      · have HE := keepHid he
        have hq : ((strB t).toList == (strB (wayL k)).toList) = false := by rw [str_eqB, decide_eq_false he]
        generalize strB (wayL k) = SK at *
        generalize strB t = ST at *
        clear he
        go_wp2
        go_roundw
        case rel => exact ⟨k + 1, by omega, by go_num, keepHid trivial, keepHid (fun j hj => by rcases Nat.lt_succ_iff_lt_or_eq.1 hj with h | rfl; exact HK.out j h; exact HE.out)⟩
        case measure => simp [intOf]; omega
    · obtain rfl : k = 4 := by omega
      go_wp2
      go_ret
      exact ⟨by rw [HN.out HK.out]; rfl, rfl⟩

/-! ### A reply -/
def RepP (y z : List UInt8) (st : List UInt8) (w : World) (e : Ending) (w' : World) : Prop :=
  ((∃ a n, hexN y = some a ∧ hexN z = some n ∧ a + n ≤ 16384 ∧ e = .returned (.tuple #[.agg (rpA (a, n, prNum (prL (getL st a n)))), .bool true])) ∨
   ((∀ a n, hexN y = some a → hexN z = some n → ¬ a + n ≤ 16384) ∧ ∃ V : Rp, e = .returned (.tuple #[.agg (rpA V), .bool false]))) ∧ Below w.heap.size w w'
theorem rep_res {w : World} {g : Nat} {V : Rp} {b : Bool} {tmps : Array Value} (hb : Blk w g 54 (rpA V)) (h6 : tmps.getD 6 undef = .pointer (some ⟨g, 0, none⟩)) (h7 : tmps.getD 7 undef = .bool b) :
    (results Tryz.f69 tmps).run Tryz.prog w = .ok (.tuple #[.agg (rpA V), .bool b]) w := by
  have c0 : w.cell? ⟨g, 0, none⟩ = some (.int .i64 (V.1 : Int)) := hb.cell 0
  have c1 : w.cell? ⟨g, 1, none⟩ = some (.int .i64 (V.2.1 : Int)) := hb.cell 1
  have c2 : w.cell? ⟨g, 2, none⟩ = some (.int .u32 (V.2.2 : Int)) := hb.cell 2
  rw [results_cell_tmp (p := 6) (u := 7) (ty := 54) rfl, h6, h7]
  go_simp
  rfl
section
variable {w0 w : World} {G GS : Nat} {κ : Nat → Nat} {p : BP Fl} {z1 z2 : Int} {lv iv rv : Value} {s : Bd}
set_option maxRecDepth 100000 in
set_option maxHeartbeats 4000000 in
theorem reply_any (h : TgtM w0 w G κ p z1 z2 GS lv iv rv s) (y z : List UInt8) (hy : y.length ≤ 65536) (hz : z.length ≤ 65536) :
    Calls Tryz.prog 69 #[ptV G, .string (strB y), .string (strB z)] w (RepP y z s.st w) := by
  obtain ⟨w1, hw1⟩ : ∃ w1, w.alloc (.cells #[.int .i64 0, .int .i64 0, .int .u32 0] 54) = w1 := ⟨_, rfl⟩
  have hb1 : Below w.heap.size w w1 := by rw [← hw1]; exact (Below.refl _ _).alloc (Nat.le_refl _) _
  have hs1 : w1.heap.size = w.heap.size + 1 := by rw [← hw1]; simp
  have hk1 : Blk w1 w.heap.size 54 (rpA (0, 0, 0)) := by rw [← hw1]; exact Blk.new w _ _
  have H := keepHid (h.below hb1)
  have HB1 := keepHid hb1
  have HK1 := keepHid hk1
  have HY := keepHid (number_any y hy w1 (h.below hb1).base.supw.errs (h.below hb1).base.supw.four)
  have HZ := keepHid (fun wx hx => number_any z hz wx ((h.below hb1).below hx).base.supw.errs ((h.below hb1).below hx).base.supw.four)
  clear h hb1 hk1 hy hz
  go_enter Tryz.func69, Tryz.ntmps69
  go_wp2_with fail
  try rw [hw1]
  clear hw1
  refine HY.out.mono ?_
  rintro e w2 ⟨a, ok, rfl, ha, hok, hno, hb2⟩
  have HB2 := keepHid hb2
  have HOK := keepHid hok
  have HNO := keepHid hno
  have HZ2 := keepHid (HZ.out w2 hb2)
  have HA := keepHid ha
  clear hok hno hb2 HY HZ ha
  go_wp2_with fail
  refine HZ2.out.mono ?_
  rintro e w3 ⟨n, ok2, rfl, hn, hok2, hno2, hb3⟩
  have HB3 := keepHid (HB2.out.trans (hb3.mono HB2.out.size))
  have HOK2 := keepHid hok2
  have HNO2 := keepHid hno2
  have HN := keepHid hn
  have hk3 : Blk w3 w.heap.size 54 (rpA (0, 0, 0)) := HK1.out.below HB3.out (by omega)
  have HK3 := keepHid hk3
  have hf3 := hk3.frozen
  have e0 : w3.cell? ⟨w.heap.size, 0, none⟩ = some (.int .i64 0) := hk3.cell 0
  have e1 : w3.cell? ⟨w.heap.size, 1, none⟩ = some (.int .i64 0) := hk3.cell 1
  have e2 : w3.cell? ⟨w.heap.size, 2, none⟩ = some (.int .u32 0) := hk3.cell 2
  have H3 := keepHid (H.out.below HB3.out)
  clear hok2 hno2 hb3 HZ2 HB2 hk3 hn
  have HBAD : Hid (ok = false ∨ ok2 = false → ∀ a n, hexN y = some a → hexN z = some n → ¬ a + n ≤ 16384) := keepHid (fun hh a' n' q1 q2 => by
    rcases hh with hh | hh
    · rw [HNO.out hh] at q1; cases q1
    · rw [HNO2.out hh] at q2; cases q2)
  by_cases hgood : ok = true ∧ ok2 = true
  · obtain ⟨rfl, rfl⟩ := hgood
    have HMM := keepHid (memory_any H3.out.blk)
    have ha2 : (a : Int) ≤ 4294967295 := by have := HA.out; omega
    have hn2 : (n : Int) ≤ 4294967295 := by have := HN.out; omega
    have HPR : Hid (∃ (P : Nat) (b : Bool), Calls Tryz.prog 84 #[ptV GS, .int .i64 (a : Int), .int .i64 (n : Int)] w3 fun e w' => e = .returned (.tuple #[.int .u32 (P : Int), .bool b]) ∧ Below w3.heap.size w3 w' ∧ ((b = true ∧ a + n ≤ 16384 ∧ P = prNum (prL (getL s.st a n))) ∨ (b = false ∧ ¬ a + n ≤ 16384))) := keepHid (by
      by_cases hfit : a + n ≤ 16384
      · refine ⟨prNum (prL (getL s.st a n)), true, ?_⟩
        exact (sprint_z GS s.st a n _ _ rfl rfl w3 H3.out.sto hfit).mono fun e w' hh => ⟨hh.1, hh.2, .inl ⟨rfl, hfit, rfl⟩⟩
      · refine ⟨0, false, ?_⟩
        exact (sprint_no (ptV GS) (a : Int) (n : Int) w3 (by omega) (by omega) (.inr (.inr (by omega)))).mono fun e w' hh => ⟨hh.1, by rw [← hh.2]; exact Below.refl _ _, .inr ⟨rfl, hfit⟩⟩)
    obtain ⟨P, b, hpr⟩ := HPR.out
    have HP := keepHid hpr
    clear hpr HPR ha2 hn2
    unfold ptV at HMM HP ⊢
    go_wp2_with fail
    refine HMM.out.mono ?_
    rintro e w4 ⟨rfl, rfl⟩
    go_wp2_with fail
    refine HP.out.mono ?_
    rintro e w4 ⟨rfl, hb4, hcase⟩
    have hk4 : Blk w4 w.heap.size 54 (rpA (0, 0, 0)) := HK3.out.below hb4 HK3.out.lt
    have hf4 := hk4.frozen
    have d0 : w4.cell? ⟨w.heap.size, 0, none⟩ = some (.int .i64 0) := hk4.cell 0
    have d1 : w4.cell? ⟨w.heap.size, 1, none⟩ = some (.int .i64 0) := hk4.cell 1
    have d2 : w4.cell? ⟨w.heap.size, 2, none⟩ = some (.int .u32 0) := hk4.cell 2
    have hbb := HB1.out.trans ((HB3.out.trans (hb4.mono HB3.out.size)).mono HB1.out.size)
    have HK5 := keepHid ((((hk4.put 0 (.int .i64 (a : Int))).put 1 (.int .i64 (n : Int))).put 2 (.int .u32 (P : Int))))
    have HB5 := keepHid (((hbb.setCell (p := ⟨w.heap.size, 0, none⟩) (Nat.le_refl _) (.int .i64 (a : Int))).setCell (p := ⟨w.heap.size, 1, none⟩) (Nat.le_refl _) (.int .i64 (n : Int))).setCell (p := ⟨w.heap.size, 2, none⟩) (Nat.le_refl _) (.int .u32 (P : Int)))
    have HC := keepHid hcase
    clear hb4 hcase hk4 hbb e0 e1 e2 hf3 HMM HP
    go_wp2
    refine bodyPost_ret (rep_res (V := (a, n, P)) HK5.out rfl rfl) rfl ?_
    refine ⟨?_, HB5.out⟩
    rcases HC.out with ⟨rfl, h1, rfl⟩ | ⟨rfl, h1⟩
    · exact .inl ⟨a, n, HOK.out (by first | trivial | rfl), HOK2.out (by first | trivial | rfl), h1, rfl⟩
    · refine .inr ⟨fun a' n' q1 q2 => ?_, _, rfl⟩
      rw [HOK.out (by first | trivial | rfl)] at q1
      rw [HOK2.out (by first | trivial | rfl)] at q2
      obtain rfl := Option.some.inj q1
      obtain rfl := Option.some.inj q2
      exact h1
  · have HBD := keepHid (HBAD.out (by cases ok <;> cases ok2 <;> simp_all))
    have HK5 := keepHid ((((HK3.out.put 0 (.int .i64 0)).put 1 (.int .i64 0)).put 2 (.int .u32 0)))
    have HB5 := keepHid ((((HB1.out.trans (HB3.out.mono HB1.out.size)).setCell (p := ⟨w.heap.size, 0, none⟩) (Nat.le_refl _) (.int .i64 0)).setCell (p := ⟨w.heap.size, 1, none⟩) (Nat.le_refl _) (.int .i64 0)).setCell (p := ⟨w.heap.size, 2, none⟩) (Nat.le_refl _) (.int .u32 0))
    clear HOK HOK2 HNO HNO2 HBAD HA HN
    cases ok <;> cases ok2
    all_goals first
      | exact absurd ⟨rfl, rfl⟩ hgood
      | (clear hgood
         go_wp2
         refine bodyPost_ret (rep_res (V := (0, 0, 0)) HK5.out rfl rfl) rfl ?_
         exact ⟨.inr ⟨HBD.out, _, rfl⟩, HB5.out⟩)
end


/-- A receiver is laid into a Target. -/
theorem TgtM.loaded {w0 w w1 w2 : World} {G GS : Nat} {κ : Nat → Nat} {p : BP Fl} {z1 z2 : Int} {lv iv iv' rv : Value} {s : Bd} {l' : Lod} {O' : Nat → Prop} (h : TgtM w0 w G κ p z1 z2 GS lv iv rv s) (hb : Below w.heap.size w w1)
    (hO' : ∀ i, O' i → w.heap.size ≤ i ∧ i < w1.heap.size) (h2 : w1.setCell ⟨G, 5, none⟩ iv' = w2) (hl : LodAt w0 w1 (hue5 κ O') p z1 z2 iv' l') :
    TgtM w0 w2 G (hue5 κ O') p z1 z2 GS lv iv' rv { s with ld := l' } ∧ Turn (fun i => κ i ≠ 0) w w2 ∧ (∀ i, hue5 κ O' i ≠ 0 → κ i ≠ 0 ∨ w.heap.size ≤ i) := by
  have hk : ∀ k, k ≠ 0 → ∀ i, κ i = k → hue5 κ O' i = k := fun k h0 i hi => by
    rw [hue5_out]
    · exact hi
    · intro ho
      have := (hO' i ho).1
      have := (h.lt i (by omega)).2
      omega
  have h1 := h.below hb
  have ht : Turn (fun i => i = G) w1 w2 := by rw [← h2]; exact turnAt _ _ (Turn.refl _ w1)
  have hs : w2.heap.size = w1.heap.size := by rw [← h2]; simp
  have hn : ∀ k, k ≠ 1 → ∀ i, κ i = k → ¬ i = G := fun k hk i hi e => by rw [e, h.g] at hi; exact hk hi.symm
  have hz : ∀ i, hue5 κ O' i ≠ 0 → κ i ≠ 0 ∨ O' i := fun i hi => by
    by_cases ho : O' i
    · exact .inr ho
    · rw [hue5_out ho] at hi; exact .inl hi
  refine ⟨h1.anew ht (by rw [← h2]; exact h1.blk.put 5 _) (fun i hi => ?_) (fun i hi => ?_) rfl ((h1.line.turns ht (hn 3 (by omega))).hue (hk 3 (by omega))) ((h1.reps.turns ht (hn 4 (by omega))).hue (hk 4 (by omega))) (hl.turns ht fun i hi e => ?_), (Turn.of_below hb).trans (ht.mono fun i hi => by rw [hi, h.g]; omega), fun i hi => (hz i hi).imp id fun ho => (hO' i ho).1⟩
  · rw [hs]
    rcases hz i hi with q | q
    · exact h1.lt i q
    · exact ⟨Nat.le_trans h.base.bel.size (hO' i q).1, (hO' i q).2⟩
  · rcases hi with q | q
    · rw [hk 1 (by omega) i q, q]
    · rw [hk 2 (by omega) i q, q]
  · rw [e, hk 1 (by omega) G h.g] at hi; omega
def BegP (w0 : World) (G : Nat) (κ : Nat → Nat) (p : BP Fl) (z1 z2 : Int) (s : Bd) (y z : List UInt8) (w : World) (e : Ending) (w' : World) : Prop :=
  (∃ k a, wayOf y = some k ∧ hexN z = some a ∧ e = .returned (.bool true) ∧ TOut w0 G κ p z1 z2 { s with ad := a, ld := begin20 p k } w w') ∨
  ((wayOf y = none ∨ hexN z = none) ∧ e = .returned (.bool false) ∧ Below w.heap.size w w')
section
variable {w0 w : World} {G GS : Nat} {κ : Nat → Nat} {p : BP Fl} {z1 z2 : Int} {lv iv rv : Value} {s : Bd}
theorem take_call (h : TgtM w0 w G κ p z1 z2 GS lv iv rv s) : Calls Tryz.prog 58 #[.agg #[.int .i64 z1, .int .i64 z2]] w fun e w1 => ∃ GR, e = .returned (ptV GR) ∧ Below w.heap.size w w1 ∧
    ∀ w2, w1.setCell ⟨G, 5, none⟩ (.iface 77 (ptV GR)) = w2 → TOut w0 G κ p z1 z2 { s with ld := .files (newBR p) } w w2 := by
  refine (brtake_any p z1 z2 h.base.T h.base.W).mono ?_
  rintro e w1 ⟨GR, O, rfl, hb, hbel⟩
  refine ⟨GR, rfl, hbel, fun w2 h2 => ?_⟩
  obtain ⟨q1, q2, q3⟩ := h.loaded (O' := O) (l' := .files (newBR p)) hbel (fun i hi => ⟨hb.ge i hi, hb.lt i hi⟩) h2 ⟨GR, rfl, O, w.heap.size, h.base.bel.size, hb, fun i hi => hue5_in hi⟩
  exact ⟨_, ⟨_, _, _, _, q1⟩, q2, q3⟩
theorem of_call (h : TgtM w0 w G κ p z1 z2 GS lv iv rv s) (crc : Bool) : Calls Tryz.prog 59 #[.agg #[.int .i64 z1, .int .i64 z2], .int .u8 1, .bool crc, .bool true, .int .i64 1] w fun e w1 => ∃ GR, e = .returned (ptV GR) ∧ Below w.heap.size w w1 ∧
    ∀ w2, w1.setCell ⟨G, 5, none⟩ (.iface 76 (ptV GR)) = w2 → TOut w0 G κ p z1 z2 { s with ld := .one crc (newR 1 1 p.T) } w w2 := by
  refine (show Calls Tryz.prog 59 #[.agg #[.int .i64 z1, .int .i64 z2], .int .u8 1, .bool crc, .bool true, .int .i64 1] w (OfRPost w crc true (capZ z2 99) (newR 1 1 (capZ z1 9))) from of_rcv z1 z2 1 crc true 1 w (by omega)).mono ?_
  rintro e w1 ⟨GR, rfl, hge, hb, hbel⟩
  refine ⟨GR, rfl, hbel, fun w2 h2 => ?_⟩
  rw [h.base.T, h.base.W] at hb
  obtain ⟨q1, q2, q3⟩ := h.loaded (O' := fun i => i = GR) (l' := .one crc (newR 1 1 p.T)) hbel (fun i hi => ⟨hb.ge i hi, hb.lt i hi⟩) h2 ⟨GR, rfl, _, w.heap.size, h.base.bel.size, hb, fun i hi => hue5_in hi⟩
  exact ⟨_, ⟨_, _, _, _, q1⟩, q2, q3⟩
theorem addr_put {w1 w2 : World} (h : TgtM w0 w G κ p z1 z2 GS lv iv rv s) (hb : Below w.heap.size w w1) (a : Nat) (h2 : w1.setCell ⟨G, 6, none⟩ (.int .i64 (a : Int)) = w2) : TgtM w0 w2 G κ p z1 z2 GS lv iv rv { s with ad := a } ∧ Turn (fun i => κ i ≠ 0) w w2 := by
  have h1 := h.below hb
  have ht : Turn (fun i => i = G) w1 w2 := by rw [← h2]; exact turnAt _ _ (Turn.refl _ w1)
  have hs : w2.heap.size = w1.heap.size := by rw [← h2]; simp
  have hn : ∀ k, k ≠ 1 → ∀ i, κ i = k → ¬ i = G := fun k hk i hi e => by rw [e, h.g] at hi; exact hk hi.symm
  exact ⟨h1.anew ht (by rw [← h2]; exact h1.blk.put 6 _) (fun i hi => ⟨(h1.lt i hi).1, by rw [hs]; exact (h1.lt i hi).2⟩) (fun i _ => rfl) rfl (h1.line.turns ht (hn 3 (by omega))) (h1.reps.turns ht (hn 4 (by omega))) (h1.lod.turns ht (hn 5 (by omega))), (Turn.of_below hb).trans (ht.mono fun i hi => by rw [hi, h.g]; omega)⟩
theorem wayI_some {y : List UInt8} {k : Nat} (h : wayOf y = some k) : wayI y = (k : Int) := by unfold wayI; rw [h]
theorem wayI_none {y : List UInt8} (h : wayOf y = none) : wayI y = -1 := by unfold wayI; rw [h]
set_option maxRecDepth 100000 in
set_option maxHeartbeats 4000000 in
theorem begin_any20 (h : TgtM w0 w G κ p z1 z2 GS lv iv rv s) (y z : List UInt8) (hz : z.length ≤ 65536) :
    Calls Tryz.prog 68 #[ptV G, .string (strB y), .string (strB z)] w (BegP w0 G κ p z1 z2 s y z w) := by
  have H := keepHid h
  have HWY : Hid (∀ w : World, Calls Tryz.prog 38 #[] w fun e w' => e = .returned (.slice (some ⟨w.heap.size, 0, none⟩) 4 4) ∧ Below w.heap.size w w' ∧ WaysAt w' w.heap.size) := keepHid ways_any
  have HNB := keepHid (fun wx hx => number_any z hz wx (h.below hx).base.supw.errs (h.below hx).base.supw.four)
  clear h hz
  unfold ptV
  go_enter Tryz.func68, Tryz.ntmps68
  go_wp2_with fail
  refine (HWY.out w).mono ?_
  rintro e w1 ⟨rfl, hb1, hway⟩
  have HB1 := keepHid hb1
  have HI := keepHid (windex_any hway y)
  have HN1 := keepHid (HNB.out w1 hb1)
  clear hb1 hway HWY HNB
  go_wp2_with fail
  refine HI.out.mono ?_
  rintro e w2 ⟨rfl, rfl⟩
  clear HI
  go_wp2_with fail
  refine HN1.out.mono ?_
  rintro e w3 ⟨a, ok, rfl, ha, hok, hno, hb3⟩
  have HB3 := keepHid (HB1.out.trans (hb3.mono HB1.out.size))
  have HOK := keepHid hok
  have HNO := keepHid hno
  clear hok hno hb3 HN1 HB1 ha
  cases hw : wayOf y with
  | none =>
    rw [wayI_none hw]
    have HP : Hid (BegP w0 G κ p z1 z2 s y z w (.returned (.bool false)) w3) := keepHid (.inr ⟨.inl hw, rfl, HB3.out⟩)
    clear hw HOK HNO
    go_wp2
    go_ret
    exact HP.out
  | some k =>
    have hk3 := wayOf_le hw
    rw [wayI_some hw]
    have hk0 : ¬ (k : Int) < 0 := by omega
    cases ok with
    | false =>
      have HP : Hid (BegP w0 G κ p z1 z2 s y z w (.returned (.bool false)) w3) := keepHid (.inr ⟨.inr (HNO.out rfl), rfl, HB3.out⟩)
      clear hw HOK HNO
      go_wp2
      go_ret
      exact HP.out
    | true =>
      have HX := keepHid (HOK.out rfl)
      have HWK := keepHid hw
      have c6 : w3.cell? ⟨G, 6, none⟩ = some (.int .i64 (s.ad : Int)) := (H.out.below HB3.out).blk.cell 6
      have f3 := (H.out.below HB3.out).blk.frozen
      obtain ⟨w4, hw4⟩ : ∃ w4, w3.setCell ⟨G, 6, none⟩ (.int .i64 (a : Int)) = w4 := ⟨_, rfl⟩
      obtain ⟨h4, ht4⟩ := addr_put H.out HB3.out a hw4
      have H4 := keepHid h4
      have HT4 := keepHid ht4
      have d1 : w4.cell? ⟨G, 1, none⟩ = some (.int .i64 z1) := h4.blk.cell 1
      have d2 : w4.cell? ⟨G, 2, none⟩ = some (.int .i64 z2) := h4.blk.cell 2
      have HFIN : Hid (∀ w6, TOut w0 G κ p z1 z2 { s with ad := a, ld := begin20 p k } w4 w6 → BegP w0 G κ p z1 z2 s y z w (.returned (.bool true)) w6) := keepHid (fun w6 hh => .inl ⟨k, a, HWK.out, HX.out, rfl, TOut.of HT4.out (fun i hi => .inl hi) hh⟩)
      clear h4 ht4 HOK HNO hw hk3
      by_cases hk : k = 3
      · subst hk
        have HTK := keepHid (take_call H4.out)
        have HFN : Hid (∀ w6, TOut w0 G κ p z1 z2 { s with ad := a, ld := .files (newBR p) } w4 w6 → BegP w0 G κ p z1 z2 s y z w (.returned (.bool true)) w6) := keepHid (fun w6 hh => HFIN.out w6 (by show TOut w0 G κ p z1 z2 { s with ad := a, ld := if 3 = 3 then _ else _ } w4 w6; rw [if_pos rfl]; exact hh))
        clear HFIN
        rw [show ((3 : Nat) : Int) = 3 from rfl] at *
        clear hk0
        go_wp2_with fail
        try rw [hw4]
        clear hw4 c6 f3
        refine HTK.out.mono ?_
        rintro e w5 ⟨GR, rfl, hb5, hset⟩
        have c5 : w5.cell? ⟨G, 5, none⟩ = some iv := (H4.out.below hb5).blk.cell 5
        have f5 := (H4.out.below hb5).blk.frozen
        obtain ⟨w6, hw6⟩ : ∃ w6, w5.setCell ⟨G, 5, none⟩ (.iface 77 (.pointer (some ⟨GR, 0, none⟩))) = w6 := ⟨_, rfl⟩
        have HR := keepHid (HFN.out w6 (hset w6 hw6))
        clear hset hb5 HTK HFN d1 d2
        unfold ptV
        go_wp2
        try rw [hw6]
        go_ret
        exact HR.out
      · have hk1 : ¬ (k : Int) = 3 := by omega
        obtain ⟨crc, hcrc⟩ : ∃ crc, decide (k ≠ 0) = crc := ⟨_, rfl⟩
        have hcz : ((k : Int) != 0) = crc := by
          rw [← hcrc]
          by_cases h0 : k = 0
          · subst h0; rfl
          · rw [decide_eq_true h0]; simp; omega
        have HTK := keepHid (of_call H4.out crc)
        have HFN : Hid (∀ w6, TOut w0 G κ p z1 z2 { s with ad := a, ld := .one crc (newR 1 1 p.T) } w4 w6 → BegP w0 G κ p z1 z2 s y z w (.returned (.bool true)) w6) := keepHid (fun w6 hh => HFIN.out w6 (by show TOut w0 G κ p z1 z2 { s with ad := a, ld := if k = 3 then _ else .one (decide (k ≠ 0)) _ } w4 w6; rw [if_neg hk, hcrc]; exact hh))
        clear HFIN hk hcrc
        go_wp2_with fail
        try rw [hw4]
        clear hw4 c6 f3
        refine HTK.out.mono ?_
        rintro e w5 ⟨GR, rfl, hb5, hset⟩
        have c5 : w5.cell? ⟨G, 5, none⟩ = some iv := (H4.out.below hb5).blk.cell 5
        have f5 := (H4.out.below hb5).blk.frozen
        obtain ⟨w6, hw6⟩ : ∃ w6, w5.setCell ⟨G, 5, none⟩ (.iface 76 (.pointer (some ⟨GR, 0, none⟩))) = w6 := ⟨_, rfl⟩
        have HR := keepHid (HFN.out w6 (hset w6 hw6))
        clear hset hb5 HTK HFN d1 d2
        unfold ptV
        go_wp2
        try rw [hw6]
        go_ret
        exact HR.out
end
end Go.Proofs.YtonloefjhofeeaaGreatDoor
