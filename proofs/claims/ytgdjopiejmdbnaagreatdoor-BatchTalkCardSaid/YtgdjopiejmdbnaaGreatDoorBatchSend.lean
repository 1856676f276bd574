/-
  A sender of files in memory; what its calls do.
-/
import Derived.Test.YtgdjopiejmdbnaaGreatDoorBatchPlain
import Derived.Test.YtgdjopiejmdbnaaGreatDoorSenderOf
namespace Go.Proofs.YtgdjopiejmdbnaaGreatDoor
open Go.RowKit
set_option linter.unusedVariables false

def ptV (g : Nat) : Value := .pointer (some ⟨g, 0, none⟩)

/-! ### A sender that is not over has no error -/
def E0 (s : Sd) : Prop := s.ph ≠ 3 → s.err = 0
theorem e0_new (W : Nat) (crc : Bool) : E0 (newS W crc) := fun _ => rfl
theorem e0_send {bl : Bks} {s : Sd} (h : E0 s) : E0 (sendS bl s).2 := by
  unfold sendS
  repeat' split
  all_goals first | exact h | (intro h3; exact absurd rfl h3)
theorem e0_go {bl : Bks} {W : Nat} {cl : Bool} {s : Sd} (h : s.err = 0) : E0 (goS bl W cl s).2 := by
  unfold goS
  split
  · exact e0_send (fun _ => h)
  · split
    · exact fun _ => h
    · exact fun h3 => absurd rfl h3
theorem e0_again {bl : Bks} {T W : Nat} {s : Sd} (h : E0 s) : E0 (againS bl T W s).2 := by
  unfold againS
  split
  · exact fun h3 => absurd rfl h3
  · exact e0_send h
theorem e0_put {bl : Bks} {T W : Nat} {cl : Bool} {s : Sd} (c : UInt8) (h : E0 s) : E0 (putS bl T W cl s c).2 := by
  unfold putS
  split
  · exact h
  rename_i h3
  split
  · exact fun h3 => absurd rfl h3
  split
  · split
    · exact e0_go (h h3)
    · exact h
  split
  · exact e0_go (h h3)
  split
  · exact e0_again h
  · exact h
theorem e0_tick {bl : Bks} {T W : Nat} {s : Sd} (h : E0 s) : E0 (tickS bl T W s).2 := by
  unfold tickS
  split
  · exact h
  split
  · exact h
  · exact e0_again h

/-- The parts of a transfer: part k is at work, those behind it have just been made. -/
structure Prts {φ : Type} (w : World) (Lb Hb G : Nat) (p : BP φ) (k : Nat) (s : Sd) (P : Nat) (g L H : Nat → Nat) : Prop where
  k2 : k ≤ 2
  row : Blk w P 78 #[ptV (g 0), ptV (g 1), ptV (g 2)]
  at_ : SndH w (H k) (g k) (blkB p k) p.T p.W (clB k) s
  e0 : E0 s
  rest : ∀ j, k < j → j ≤ 2 → SndNew w (L j) (H j) (g j) (blkB p j) p.T p.W (clB j) true
  lo : ∀ j, j ≤ 2 → Lb ≤ g j
  hi : ∀ j, j ≤ 2 → H j ≤ P
  o : ∀ i j, i < j → j ≤ 2 → H i ≤ L j
  pg : P < G
  gh : G < Hb
section
variable {φ : Type} {w w' : World} {Lb Hb G : Nat} {p : BP φ} {k : Nat} {s s' : Sd} {P : Nat} {g L H : Nat → Nat}
theorem Prts.cell (h : Prts w Lb Hb G p k s P g L H) : w.cell? ⟨P, k, none⟩ = some (ptV (g k)) := by
  have hk := h.k2
  rcases (by omega : k = 0 ∨ k = 1 ∨ k = 2) with rfl | rfl | rfl
  · exact h.row.cell 0
  · exact h.row.cell 1
  · exact h.row.cell 2
theorem Prts.gk (h : Prts w Lb Hb G p k s P g L H) : Lb ≤ g k ∧ g k < P := ⟨h.lo k h.k2, Nat.lt_of_lt_of_le h.at_.ltG (h.hi k h.k2)⟩
/-- What is none of the parts' turns. -/
theorem Prts.turns {S : Nat → Prop} (h : Prts w Lb Hb G p k s P g L H) (ht : Turn S w w') (hS : ∀ i, S i → P < i) : Prts w' Lb Hb G p k s P g L H := by
  obtain ⟨h1, h2, h3, h0, h4, h5, h6, h7, h8, h9⟩ := h
  exact ⟨h1, ht.blk h2 (fun hs => absurd (hS _ hs) (Nat.lt_irrefl _)), h3.turns ht (fun i hi => by have := hS i hi; have := h6 k h1; omega), h0, fun j hj hj2 => (h4 j hj hj2).turns ht (fun i hi => .inr (by have := hS i hi; have := h6 j hj2; omega)), h5, h6, h7, h8, h9⟩
/-- The part at work turns. -/
theorem Prts.work (h : Prts w Lb Hb G p k s P g L H) (ht : Turn (fun i => i = g k) w w') (ha : SndH w' (H k) (g k) (blkB p k) p.T p.W (clB k) s') (he : E0 s') : Prts w' Lb Hb G p k s' P g L H := by
  obtain ⟨h1, h2, h3, h0, h4, h5, h6, h7, h8, h9⟩ := h
  have hg := h3.ltG
  exact ⟨h1, ht.blk h2 (fun hs => by have := h6 k h1; omega), ha, he, fun j hj hj2 => (h4 j hj hj2).turns ht (fun i hi => .inl (by have := h7 k j hj hj2; omega)), h5, h6, h7, h8, h9⟩
/-- The next part. -/
theorem Prts.next (h : Prts w Lb Hb G p k s P g L H) (hk : k < 2) : Prts w Lb Hb G p (k + 1) (newS p.W true) P g L H := by
  obtain ⟨h1, h2, h3, h0, h4, h5, h6, h7, h8, h9⟩ := h
  exact ⟨hk, h2, (h4 (k + 1) (Nat.lt_succ_self _) hk).snd, e0_new _ _, fun j hj hj2 => h4 j (by omega) hj2, h5, h6, h7, h8, h9⟩
end
/-- A sender of files. -/
structure Bsn {φ : Type} (w : World) (Lb Hb G : Nat) (p : BP φ) (b : Bs) : Prop where
  mem : ∃ v, Blk w G 83 #[v, errV b.er] ∧ (b.ov = true → ∃ A c, v = .slice A 0 c) ∧ (b.ov = false → b.er = 0 ∧ ∃ P g L H, v = .slice (some ⟨P, b.k, none⟩) (3 - b.k) (3 - b.k) ∧ Prts w Lb Hb G p b.k b.s P g L H)
  lo : Lb ≤ G
  hi : G < Hb
  le : Hb ≤ w.heap.size
theorem Bsn.turns {φ : Type} {S : Nat → Prop} {w w' : World} {Lb Hb G : Nat} {p : BP φ} {b : Bs} (h : Bsn w Lb Hb G p b) (ht : Turn S w w') (hS : ∀ i, S i → Hb ≤ i) : Bsn w' Lb Hb G p b := by
  obtain ⟨⟨v, h1, h2, h3⟩, a1, a2, a3⟩ := h
  refine ⟨⟨v, ht.blk h1 (fun hs => by have := hS _ hs; omega), h2, fun hf => ?_⟩, a1, a2, Nat.le_trans a3 ht.size⟩
  obtain ⟨h4, P, g, L, H, h5, h6⟩ := h3 hf
  exact ⟨h4, P, g, L, H, h5, h6.turns ht (fun i hi => by have := hS i hi; have := h6.pg; omega)⟩
theorem Bsn.below {φ : Type} {w w' : World} {Lb Hb G : Nat} {p : BP φ} {b : Bs} (h : Bsn w Lb Hb G p b) (hb : Below w.heap.size w w') : Bsn w' Lb Hb G p b := h.turns (S := fun _ => False) (Turn.of_below hb) (fun _ h => h.elim)
theorem Bsn.drew {φ : Type} {w : World} {Lb Hb G : Nat} {p : BP φ} {b : Bs} (h : Bsn w Lb Hb G p b) : Bsn w.drew Lb Hb G p b := h.below (Below.drew (Below.refl _ _))
/-- What a call of a sender of files leaves. -/
def BOut {φ : Type} (Lb Hb G : Nat) (p : BP φ) (r : List UInt8 × Bs) (w : World) (e : Ending) (w' : World) : Prop :=
  ∃ A c, e = .returned (.slice A r.1.length c) ∧ OwnB w' w.heap.size 5 (.slice A r.1.length c) r.1.length r.1 ∧ r.1.length ≤ c ∧ c ≤ 9223372036854775807 ∧ Turn (fun i => Lb ≤ i ∧ i < Hb) w w' ∧ Bsn w' Lb Hb G p r.2

theorem bdone_any {φ : Type} {w : World} {Lb Hb G : Nat} {p : BP φ} {b : Bs} (h : Bsn w Lb Hb G p b) :
    Calls Tryz.prog 15 #[ptV G] w fun e w' => e = .returned (.tuple #[.bool b.ov, errV b.er]) ∧ w' = w.drew := by
  obtain ⟨⟨v, h1, h2, h3⟩, a1, a2, a3⟩ := h
  have c1 : w.cell? ⟨G, 1, none⟩ = some (errV b.er) := h1.cell 1
  obtain ⟨A, n, c, rfl, hn⟩ : ∃ A n c, v = .slice A n c ∧ ((n : Int) == 0) = b.ov := by
    cases hb : b.ov
    · obtain ⟨_, P, g, L, H, e, hp⟩ := h3 hb
      have := hp.k2
      exact ⟨_, _, _, e, by simp; omega⟩
    · obtain ⟨A, c, e⟩ := h2 hb
      exact ⟨A, 0, c, e, rfl⟩
  have c0 : w.cell? ⟨G, 0, none⟩ = some (.slice A n c) := h1.cell 0
  have HN := keepHid hn
  clear h1 h2 h3 hn
  obtain ⟨ov, hov⟩ : ∃ ov, b.ov = ov := ⟨_, rfl⟩
  rw [hov] at HN
  rw [hov]
  have hn := HN.out
  unfold ptV
  rcases errV_or b.er with e | ⟨t, u, e⟩
  all_goals
    rw [e] at c1 ⊢
    clear e
    go_enter Tryz.func15, Tryz.ntmps15
    go_upto_region 1 with fail
    go_region
    go_wp2
    go_ret2
    exact ⟨rfl, rfl⟩

set_option maxRecDepth 100000 in
set_option maxHeartbeats 4000000 in
theorem bproceed_any {φ : Type} {w : World} {Lb Hb G : Nat} {p : BP φ} {b : Bs} {s : Sd} {P : Nat} {g L H : Nat → Nat} (h : Blk w G 83 #[.slice (some ⟨P, b.k, none⟩) (3 - b.k) (3 - b.k), .nilIface]) (hp : Prts w Lb Hb G p b.k s P g L H) (hlo : Lb ≤ G) (hHb : Hb ≤ w.heap.size) :
    Calls Tryz.prog 48 #[ptV G] w fun e w' => e = .returned (.tuple #[]) ∧ Bsn w' Lb Hb G p (nextBS p b s) ∧ Turn (fun i => i = G) w w' := by
  obtain ⟨k, s0, ov, er⟩ := b
  simp only at h hp
  have c0 : w.cell? ⟨G, 0, none⟩ = some (.slice (some ⟨P, k, none⟩) (3 - k) (3 - k)) := h.cell 0
  have c1 : w.cell? ⟨G, 1, none⟩ = some .nilIface := h.cell 1
  have ck := hp.cell
  have hf := h.frozen
  have hk := hp.k2
  have HDN := keepHid (done_sndH hp.at_)
  have HE0 := keepHid hp.e0
  have HH := keepHid h
  have HP := keepHid hp
  obtain ⟨m, hm⟩ : ∃ m, 3 - k = m := ⟨_, rfl⟩
  have hgh := hp.gh
  rw [hm] at c0
  have hm1 : 1 ≤ m := by omega
  have tD : Turn (fun i => i = G) w w.drew := Turn.drew (Turn.refl _ w)
  have TD := keepHid tD
  unfold ptV at ck ⊢
  unfold nextBS
  clear h hp tD
  by_cases h3 : s.ph = 3
  · rw [if_pos h3]
    have q3 : (s.ph == 3) = true := by simpa using h3
    rw [q3] at HDN
    by_cases he : s.err = 0
    · have e0 : errV s.err = .nilIface := by unfold errV; rw [if_pos he]
      rw [e0] at HDN
      rcases (by omega : k = 2 ∨ k < 2) with rfl | hk2
      · rw [if_pos (.inr rfl)]
        obtain rfl : m = 1 := by omega
        have HFIN : Hid (Bsn (w.drew.setCell ⟨G, 0, none⟩ (.slice (some ⟨P, 2, none⟩) 0 0)) Lb Hb G p ⟨2, s, true, s.err⟩) := keepHid
          ⟨⟨_, by rw [he]; exact (HH.out.drew.put 0 (.slice (some ⟨P, 2, none⟩) 0 0)), fun _ => ⟨_, _, rfl⟩, fun hh => by cases hh⟩, hlo, hgh, by simpa [World.setCell] using hHb⟩
        have HT : Hid (Turn (fun i => i = G) w (w.drew.setCell ⟨G, 0, none⟩ (.slice (some ⟨P, 2, none⟩) 0 0))) := keepHid (turnAt _ _ TD.out)
        clear hm h3 q3 e0 he hHb hlo hgh
        go_enter Tryz.func48, Tryz.ntmps48
        go_wp2_with (go_at_call 71; (with_reducible refine HDN.out.mono ?_); rintro e w2 ⟨rfl, rfl⟩)
        refine bodyPost_end (results_none rfl _ _ _) rfl ?_
        exact ⟨rfl, HFIN.out, HT.out⟩
      · rw [if_neg (by simp; exact ⟨he, by omega⟩)]
        have HFIN : Hid (Bsn (w.drew.setCell ⟨G, 0, none⟩ (.slice (some ⟨P, k + 1, none⟩) (3 - (k + 1)) (3 - (k + 1)))) Lb Hb G p ⟨k + 1, newS p.W true, false, 0⟩) := keepHid (by
          have t := turnAt (G := G) 0 (.slice (some ⟨P, k + 1, none⟩) (3 - (k + 1)) (3 - (k + 1))) TD.out
          refine ⟨⟨_, HH.out.drew.put 0 _, (fun hh => by cases hh), fun _ => ⟨rfl, P, g, L, H, rfl, ?_⟩⟩, hlo, hgh, by simpa [World.setCell] using hHb⟩
          exact (HP.out.next hk2).turns t (fun i hi => by have := HP.out.pg; omega))
        have HT : Hid (Turn (fun i => i = G) w (w.drew.setCell ⟨G, 0, none⟩ (.slice (some ⟨P, k + 1, none⟩) (3 - (k + 1)) (3 - (k + 1))))) := keepHid (turnAt _ _ TD.out)
        rcases (by omega : k = 0 ∨ k = 1) with rfl | rfl
        all_goals
          subst hm
          clear h3 q3 e0 he hHb hlo hgh hk2 hk hm1
          go_enter Tryz.func48, Tryz.ntmps48
          go_wp2_with (go_at_call 71; (with_reducible refine HDN.out.mono ?_); rintro e w2 ⟨rfl, rfl⟩)
          refine bodyPost_end (results_none rfl _ _ _) rfl ?_
          exact ⟨rfl, HFIN.out, HT.out⟩
    · rw [if_pos (.inl he)]
      obtain ⟨t, u, e0⟩ : ∃ t u, errV s.err = .iface t u := by unfold errV; rw [if_neg he]; exact ⟨_, _, rfl⟩
      have HFIN : Hid (Bsn ((w.drew.setCell ⟨G, 0, none⟩ (.slice none 0 0)).setCell ⟨G, 1, none⟩ (.iface t u)) Lb Hb G p ⟨k, s, true, s.err⟩) := keepHid
        ⟨⟨.slice none 0 0, by show Blk _ _ _ #[_, errV s.err]; rw [e0]; exact (HH.out.drew.put 0 (.slice none 0 0)).put 1 (.iface t u), fun _ => ⟨_, _, rfl⟩, fun hh => by cases hh⟩, hlo, hgh, by simpa [World.setCell] using hHb⟩
      have HT : Hid (Turn (fun i => i = G) w ((w.drew.setCell ⟨G, 0, none⟩ (.slice none 0 0)).setCell ⟨G, 1, none⟩ (.iface t u))) := keepHid (turnAt _ _ (turnAt _ _ TD.out))
      rw [e0] at HDN
      clear h3 q3 e0 he hHb hlo hgh hm
      go_enter Tryz.func48, Tryz.ntmps48
      go_wp2_with (go_at_call 71; (with_reducible refine HDN.out.mono ?_); rintro e w2 ⟨rfl, rfl⟩)
      refine bodyPost_end (results_none rfl _ _ _) rfl ?_
      exact ⟨rfl, HFIN.out, HT.out⟩
  · rw [if_neg h3]
    have q3 : (s.ph == 3) = false := by simpa using h3
    have he := HE0.out h3
    have e0 : errV s.err = .nilIface := by unfold errV; rw [if_pos he]
    rw [q3, e0] at HDN
    have HFIN : Hid (Bsn w.drew Lb Hb G p ⟨k, s, false, 0⟩) := keepHid
      ⟨⟨_, HH.out.drew, (fun hh => by cases hh), fun _ => ⟨rfl, P, g, L, H, rfl, HP.out.turns TD.out (fun i hi => by have := HP.out.pg; omega)⟩⟩, hlo, hgh, hHb⟩
    clear h3 q3 e0 he hHb hlo hgh hm
    go_enter Tryz.func48, Tryz.ntmps48
    go_wp2_with (go_at_call 71; (with_reducible refine HDN.out.mono ?_); rintro e w2 ⟨rfl, rfl⟩)
    refine bodyPost_end (results_none rfl _ _ _) rfl ?_
    exact ⟨rfl, HFIN.out, TD.out⟩

/-- Behind what the part at work sends, the next part is looked for. -/
theorem bsend_step {φ : Type} {w w1 : World} {Lb Hb G : Nat} {p : BP φ} {b : Bs} {P : Nat} {g L H : Nat → Nat} {r : List UInt8 × Sd} {e : Ending} (hb : Blk w G 83 #[.slice (some ⟨P, b.k, none⟩) (3 - b.k) (3 - b.k), .nilIface]) (hp : Prts w Lb Hb G p b.k b.s P g L H) (hlo : Lb ≤ G) (hHb : Hb ≤ w.heap.size)
    (he0 : E0 r.2) (ho : OutPostH (H b.k) (g b.k) (blkB p b.k) p.T p.W (clB b.k) r w e w1) :
    ∃ A c, e = .returned (.slice A r.1.length c) ∧ Calls Tryz.prog 48 #[ptV G] w1 fun e2 w2 => e2 = .returned (.tuple #[]) ∧ BOut Lb Hb G p (r.1, nextBS p b r.2) w (.returned (.slice A r.1.length c)) w2 := by
  obtain ⟨A, c, e1, e2, e3, e4, e5, e6⟩ := ho
  have hg := hp.gk
  have hpg := hp.pg
  have hgh := hp.gh
  have hs := e5.size
  refine ⟨A, c, e1, (bproceed_any (e5.blk hb (fun hh => by omega)) (hp.work e5 e6 he0) hlo (Nat.le_trans hHb hs)).mono ?_⟩
  rintro e w2 ⟨f1, f2, f3⟩
  refine ⟨f1, A, c, rfl, own_keep e2 f3 (fun ad ea hh => by have := (own_of e2 ad ea).1; omega), e3, e4, (e5.mono fun i hi => ?_).trans (f3.mono fun i hi => ?_), f2⟩
  · subst hi; exact ⟨hg.1, by omega⟩
  · subst hi; exact ⟨hlo, hgh⟩
set_option maxRecDepth 100000 in
set_option maxHeartbeats 4000000 in
theorem bput_any {φ : Type} {w : World} {Lb Hb G : Nat} {p : BP φ} {b : Bs} (h : Bsn w Lb Hb G p b) (c : UInt8) :
    Calls Tryz.prog 24 #[ptV G, .int .u8 (c.toNat : Int)] w (BOut Lb Hb G p (putBS p b c) w) := by
  have H0 := keepHid h
  obtain ⟨⟨v, h1, h2, h3⟩, a1, a2, a3⟩ := h
  unfold putBS
  cases hov : b.ov
  · rw [if_neg (by simp)]
    obtain ⟨her, P, g, L, H, rfl, hp⟩ := h3 hov
    rw [her] at h1
    have c0 : w.cell? ⟨G, 0, none⟩ = some (.slice (some ⟨P, b.k, none⟩) (3 - b.k) (3 - b.k)) := h1.cell 0
    have ck := hp.cell
    have hk := hp.k2
    obtain ⟨m, hm⟩ : ∃ m, 3 - b.k = m := ⟨_, rfl⟩
    have hm1 : 1 ≤ m := by omega
    have i0 : ((m : Int) == 0) = false := by simp; omega
    have HPT : Hid (Calls Tryz.prog 49 #[ptV (g b.k), .int .u8 (c.toNat : Int)] w fun e w1 => ∃ A c', e = .returned (.slice A (putS (blkB p b.k) p.T p.W (clB b.k) b.s c).1.length c') ∧ Calls Tryz.prog 48 #[ptV G] w1 fun e2 w2 => e2 = .returned (.tuple #[]) ∧
        BOut Lb Hb G p ((putS (blkB p b.k) p.T p.W (clB b.k) b.s c).1, nextBS p b (putS (blkB p b.k) p.T p.W (clB b.k) b.s c).2) w (.returned (.slice A (putS (blkB p b.k) p.T p.W (clB b.k) b.s c).1.length c')) w2) := keepHid
      ((put_sndH hp.at_ c).mono fun e w1 ho => bsend_step h1 hp a1 a3 (e0_put c hp.e0) ho)
    generalize putS (blkB p b.k) p.T p.W (clB b.k) b.s c = r at *
    rw [hm] at c0
    unfold ptV at *
    generalize g b.k = gk at *
    clear h1 h2 h3 hp her hm
    generalize c.toNat = cn at *
    go_enter Tryz.func24, Tryz.ntmps24
    go_wp2_with fail
    (with_reducible refine HPT.out.mono ?_)
    rintro e w1 ⟨A1, c1, rfl, hpr⟩
    have HPR := keepHid hpr
    clear hpr
    go_wp2_with fail
    (with_reducible refine HPR.out.mono ?_)
    rintro e w2 ⟨rfl, hp2⟩
    have HP2 := keepHid hp2
    clear hp2
    go_wp2
    go_ret
    exact HP2.out
  · rw [if_pos rfl]
    obtain ⟨A, cp, rfl⟩ := h2 hov
    have c0 : w.cell? ⟨G, 0, none⟩ = some (.slice A 0 cp) := h1.cell 0
    have HFIN : Hid (BOut Lb Hb G p ([], b) w (.returned (.slice none 0 0)) w) := keepHid ⟨none, 0, rfl, World.ownsRow_nil _ _ _ _, Nat.le_refl _, by omega, Turn.refl _ w, H0.out⟩
    clear h1 h2 h3 hov
    unfold ptV
    generalize c.toNat = cn at *
    go_enter Tryz.func24, Tryz.ntmps24
    go_wp2
    go_ret
    exact HFIN.out
set_option maxRecDepth 100000 in
set_option maxHeartbeats 4000000 in
theorem btick_any {φ : Type} {w : World} {Lb Hb G : Nat} {p : BP φ} {b : Bs} (h : Bsn w Lb Hb G p b) :
    Calls Tryz.prog 23 #[ptV G] w (BOut Lb Hb G p (tickBS p b) w) := by
  have H0 := keepHid h
  obtain ⟨⟨v, h1, h2, h3⟩, a1, a2, a3⟩ := h
  unfold tickBS
  cases hov : b.ov
  · rw [if_neg (by simp)]
    obtain ⟨her, P, g, L, H, rfl, hp⟩ := h3 hov
    rw [her] at h1
    have c0 : w.cell? ⟨G, 0, none⟩ = some (.slice (some ⟨P, b.k, none⟩) (3 - b.k) (3 - b.k)) := h1.cell 0
    have ck := hp.cell
    have hk := hp.k2
    obtain ⟨m, hm⟩ : ∃ m, 3 - b.k = m := ⟨_, rfl⟩
    have hm1 : 1 ≤ m := by omega
    have i0 : ((m : Int) == 0) = false := by simp; omega
    have HPT : Hid (Calls Tryz.prog 47 #[ptV (g b.k)] w fun e w1 => ∃ A c', e = .returned (.slice A (tickS (blkB p b.k) p.T p.W b.s).1.length c') ∧ Calls Tryz.prog 48 #[ptV G] w1 fun e2 w2 => e2 = .returned (.tuple #[]) ∧
        BOut Lb Hb G p ((tickS (blkB p b.k) p.T p.W b.s).1, nextBS p b (tickS (blkB p b.k) p.T p.W b.s).2) w (.returned (.slice A (tickS (blkB p b.k) p.T p.W b.s).1.length c')) w2) := keepHid
      ((tick_sndH hp.at_).mono fun e w1 ho => bsend_step h1 hp a1 a3 (e0_tick hp.e0) ho)
    generalize tickS (blkB p b.k) p.T p.W b.s = r at *
    rw [hm] at c0
    unfold ptV at *
    generalize g b.k = gk at *
    clear h1 h2 h3 hp her hm
    go_enter Tryz.func23, Tryz.ntmps23
    go_wp2_with fail
    (with_reducible refine HPT.out.mono ?_)
    rintro e w1 ⟨A1, c1, rfl, hpr⟩
    have HPR := keepHid hpr
    clear hpr
    go_wp2_with fail
    (with_reducible refine HPR.out.mono ?_)
    rintro e w2 ⟨rfl, hp2⟩
    have HP2 := keepHid hp2
    clear hp2
    go_wp2
    go_ret
    exact HP2.out
  · rw [if_pos rfl]
    obtain ⟨A, cp, rfl⟩ := h2 hov
    have c0 : w.cell? ⟨G, 0, none⟩ = some (.slice A 0 cp) := h1.cell 0
    have HFIN : Hid (BOut Lb Hb G p ([], b) w (.returned (.slice none 0 0)) w) := keepHid ⟨none, 0, rfl, World.ownsRow_nil _ _ _ _, Nat.le_refl _, by omega, Turn.refl _ w, H0.out⟩
    clear h1 h2 h3 hov
    unfold ptV
    go_enter Tryz.func23, Tryz.ntmps23
    go_wp2
    go_ret
    exact HFIN.out
end Go.Proofs.YtgdjopiejmdbnaaGreatDoor
