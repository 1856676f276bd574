/-
  A byte comes while nothing is loaded.
-/
import Derived.Test.YtonloefjhofeeaaGreatDoorBoardExec
import Derived.LoopTactic
namespace Go.Proofs.YtonloefjhofeeaaGreatDoor
open Go.RowKit
set_option linter.unusedVariables false

section
variable {w0 w : World} {G GS : Nat} {κ : Nat → Nat} {p : BP Fl} {z1 z2 : Int} {lv iv rv : Value} {s : Bd}
theorem aw_put {w2 : World} (h : TgtM w0 w G κ p z1 z2 GS lv iv rv s) (h2 : w.setCell ⟨G, 3, none⟩ (.bool true) = w2) : TOut w0 G κ p z1 z2 { s with aw := true } w w2 := by
  have ht : Turn (fun i => i = G) w w2 := by rw [← h2]; exact turnAt _ _ (Turn.refl _ w)
  have hs : w2.heap.size = w.heap.size := by rw [← h2]; simp
  have hn : ∀ k, k ≠ 1 → ∀ i, κ i = k → ¬ i = G := fun k hk i hi e => by rw [e, h.g] at hi; exact hk hi.symm
  exact ⟨κ, ⟨_, _, _, _, h.anew (κ' := κ) ht (by rw [← h2]; exact h.blk.put 3 _) (fun i hi => ⟨(h.lt i hi).1, by rw [hs]; exact (h.lt i hi).2⟩) (fun i _ => rfl) rfl (h.line.turns ht (hn 3 (by omega))) (h.reps.turns ht (hn 4 (by omega))) (h.lod.turns ht (hn 5 (by omega)))⟩, ht.mono fun i hi => by rw [hi, h.g]; omega, fun i hi => .inl hi⟩
theorem line_put {w2 : World} (h : TgtM w0 w G κ p z1 z2 GS lv iv rv s) (h2 : w.setCell ⟨G, 4, none⟩ (.slice none 0 0) = w2) : TgtM w0 w2 G κ p z1 z2 GS (.slice none 0 0) iv rv { s with ln := [] } ∧ Turn (fun i => κ i ≠ 0) w w2 := by
  have ht : Turn (fun i => i = G) w w2 := by rw [← h2]; exact turnAt _ _ (Turn.refl _ w)
  have hs : w2.heap.size = w.heap.size := by rw [← h2]; simp
  have hn : ∀ k, k ≠ 1 → ∀ i, κ i = k → ¬ i = G := fun k hk i hi e => by rw [e, h.g] at hi; exact hk hi.symm
  exact ⟨h.anew ht (by rw [← h2]; exact h.blk.put 4 _) (fun i hi => ⟨(h.lt i hi).1, by rw [hs]; exact (h.lt i hi).2⟩) (fun i _ => rfl) rfl (LineAt.nil_ _ _ _) (h.reps.turns ht (hn 4 (by omega))) (h.lod.turns ht (hn 5 (by omega))), ht.mono fun i hi => by rw [hi, h.g]; omega⟩
/-- A byte is laid behind a line's others. -/
theorem TgtM.lined {w4 w5 wy : World} {lv' : Value} {ln' : List UInt8} (h : TgtM w0 w G κ p z1 z2 GS lv iv rv s) (hb : Below w.heap.size w wy) (ho : OwnB w4 w0.heap.size 5 lv' ln'.length ln') (ht : Turn (fun i => lv.ownBlock = some i) wy w4)
    (hw : lv'.ownBlock = lv.ownBlock ∨ lv'.ownBlock = some wy.heap.size) (h5 : w4.setCell ⟨G, 4, none⟩ lv' = w5) :
    TOut w0 G κ p z1 z2 { s with ln := ln' } w w5 := by
  have hy := h.below hb
  have hcol : ∀ i, lv'.ownBlock = some i → κ i = 3 ∨ (κ i = 0 ∧ w.heap.size ≤ i) := fun i hi => by
    rcases hw with e | e
    · exact .inl (h.line.col i (e ▸ hi))
    · rw [e] at hi
      obtain rfl := Option.some.inj hi
      refine .inr ⟨?_, hb.size⟩
      rcases Nat.eq_zero_or_pos (κ wy.heap.size) with q | q
      · exact q
      · have := (hy.lt wy.heap.size (by omega)).2; omega
  have hn3 : ∀ k, k ≠ 3 → ∀ i, κ i = k → ¬ lv.ownBlock = some i := fun k h3 i hi e => by rw [h.line.col i e] at hi; omega
  have hk : ∀ k, k ≠ 0 → ∀ i, κ i = k → (if lv'.ownBlock = some i then 3 else κ i) = k := fun k h0 i hi => by
    by_cases e : lv'.ownBlock = some i
    · rw [if_pos e]
      rcases hcol i e with q | q <;> omega
    · rw [if_neg e]; exact hi
  have t5 : Turn (fun i => i = G) w4 w5 := by rw [← h5]; exact turnAt _ _ (Turn.refl _ w4)
  have s5 : w5.heap.size = w4.heap.size := by rw [← h5]; simp
  have hn1 : ∀ k, k ≠ 1 → ∀ i, κ i = k → ¬ i = G := fun k hk i hi e => by rw [e, h.g] at hi; exact hk hi.symm
  have hz : ∀ i, (if lv'.ownBlock = some i then 3 else κ i) ≠ 0 → κ i ≠ 0 ∨ lv'.ownBlock = some i := fun i hi => by
    by_cases e : lv'.ownBlock = some i
    · exact .inr e
    · rw [if_neg e] at hi; exact .inl hi
  refine ⟨fun i => if lv'.ownBlock = some i then 3 else κ i, ⟨GS, lv', iv, rv, ⟨?_, hk 1 (by omega) G h.g, hk 2 (by omega) GS h.gs, ?_, ⟨?_, ?_⟩, ?_, ?_, ?_, ?_⟩⟩, ?_, ?_⟩
  · rw [← h5]; exact (ht.blk hy.blk (hn3 1 (by omega) G h.g)).put 4 _
  · exact ((hy.sto.turn ht (hn3 2 (by omega) GS h.gs))).turn t5 (hn1 2 (by omega) GS h.gs)
  · exact ho.keep fun i hi hlt => t5.block i hlt fun e => by
      rcases hcol i hi with q | q
      · rw [e, h.g] at q; omega
      · rw [e, h.g] at q; omega
  · intro i hi
    simp [hi]
  · exact ((hy.reps.turns ht (hn3 4 (by omega))).turns t5 (hn1 4 (by omega))).hue (hk 4 (by omega))
  · exact ((hy.lod.turns ht (hn3 5 (by omega))).turns t5 (hn1 5 (by omega))).hue (hk 5 (by omega))
  · intro i hi
    rw [s5]
    rcases hz i hi with q | q
    · exact ⟨(hy.lt i q).1, Nat.lt_of_lt_of_le (hy.lt i q).2 ht.size⟩
    · exact World.ownsRow.lt ho i q
  · exact (hy.base.turns ht (fun i hi => (h.lt i (by rw [h.line.col i hi]; omega)).1)).turns t5 (fun i hi => by rw [hi]; exact (h.lt G (by rw [h.g]; omega)).1)
  · exact (((Turn.of_below hb).trans (ht.mono fun i hi => by rw [h.line.col i hi]; omega)).trans (t5.mono fun i hi => by rw [hi, h.g]; omega))
  · intro i hi
    rcases hz i hi with q | q
    · exact .inl q
    · rcases hcol i q with g | g
      · exact .inl (by omega)
      · exact .inr g.2
theorem take_asleep (h : s.aw = false) (c : UInt8) : take20 p s c = (readyL, { s with aw := true }) := by unfold take20; rw [if_pos h]
theorem take_cr (h : s.aw = true) : take20 p s 13 = exec20 p { s with ln := [] } s.ln := by unfold take20; rw [if_neg (by rw [h]; simp), if_pos rfl]
theorem take_byte {c : UInt8} (h : s.aw = true) (hc : c ≠ 13) (hl : s.ln.length < 80) : take20 p s c = ([], { s with ln := s.ln ++ [c] }) := by unfold take20; rw [if_neg (by rw [h]; simp), if_neg hc, if_pos hl]
theorem take_lost {c : UInt8} (h : s.aw = true) (hc : c ≠ 13) (hl : ¬ s.ln.length < 80) : take20 p s c = ([], s) := by unfold take20; rw [if_neg (by rw [h]; simp), if_neg hc, if_neg hl]
set_option maxRecDepth 100000 in
set_option maxHeartbeats 8000000 in
theorem take_any20 (h : TgtM w0 w G κ p z1 z2 GS lv iv rv s) (c : UInt8) (hl : s.ln.length ≤ 80) (hrp : s.rp.length ≤ 1000000000) :
    Calls Tryz.prog 33 #[ptV G, .int .u8 (c.toNat : Int)] w (ExecP w0 G κ p z1 z2 (take20 p s c) w) := by
  have H := keepHid h
  have c3 : w.cell? ⟨G, 3, none⟩ = some (.bool s.aw) := h.blk.cell 3
  have c4 : w.cell? ⟨G, 4, none⟩ = some lv := h.blk.cell 4
  have hf := h.blk.frozen
  obtain ⟨A, cl, hlv⟩ : ∃ A cl, lv = .slice A s.ln.length cl := by
    obtain ⟨A, cl, e, _⟩ := h.line.own.form
    exact ⟨A, cl, e⟩
  subst hlv
  clear h
  cases haw : s.aw with
  | false =>
    rw [haw] at c3
    obtain ⟨w2, hw2⟩ : ∃ w2, w.setCell ⟨G, 3, none⟩ (.bool true) = w2 := ⟨_, rfl⟩
    have HP : Hid (ExecP w0 G κ p z1 z2 (take20 p s c) w (.returned (.string ⟨#[13, 10, 61, 62, 32]⟩)) w2) := keepHid (by rw [take_asleep haw]; exact ⟨rfl, aw_put H.out hw2⟩)
    unfold ptV
    clear haw c4
    go_enter Tryz.func33, Tryz.ntmps33
    go_wp2
    try rw [hw2]
    go_ret
    exact HP.out
  | true =>
  rw [haw] at c3
  by_cases hc : c = 13
  · subst hc
    have hcv := run_str (P := Tryz.prog) (w := w) (c := cl) 31 5 9 Tryz.underlying31 Tryz.underlying5 Tryz.underlying9 (H.out.line.own.bys (by omega))
    obtain ⟨w2, hw2⟩ : ∃ w2, w.setCell ⟨G, 4, none⟩ (.slice none 0 0) = w2 := ⟨_, rfl⟩
    obtain ⟨h2, t2⟩ := line_put H.out hw2
    have HEX : Hid (Calls Tryz.prog 52 #[.pointer (some ⟨G, 0, none⟩), .string (strB s.ln)] w2 (ExecP w0 G κ p z1 z2 (take20 p s 13) w)) := keepHid (by
      rw [take_cr haw]
      refine (execute_any h2 s.ln (by omega) hrp).mono fun e w' hh => ⟨hh.1, TOut.of t2 (fun i hi => .inl hi) hh.2⟩)
    rw [show (((13 : UInt8).toNat : Nat) : Int) = 13 from rfl]
    generalize strB s.ln = X at *
    generalize take20 p s 13 = r at *
    generalize s.ln.length = N at *
    unfold ptV
    clear haw h2 t2
    go_enter Tryz.func33, Tryz.ntmps33
    go_wp2_with fail
    try rw [hw2]
    refine HEX.out.mono ?_
    rintro e w3 ⟨rfl, hout⟩
    have HO := keepHid hout
    clear hout hw2 hcv c3 c4 hf
    go_wp2
    go_ret
    exact ⟨rfl, HO.out⟩
  · have hq : ((c.toNat : Int) == 13) = false := by
      have := u8_ne (c := c) (d := 13) hc
      simpa using this
    have hq2 : ¬ (c.toNat : Int) = 13 := by simpa using hq
    by_cases hlen : s.ln.length < 80
    · have hlen2 : (s.ln.length : Int) < 80 := by omega
      obtain ⟨w1, hw1⟩ : ∃ w1, w.alloc (.cells #[.int .u8 (c.toNat : Int)] 5) = w1 := ⟨_, rfl⟩
      have hb1 : Below w.heap.size w w1 := by rw [← hw1]; exact (Below.refl _ _).alloc (Nat.le_refl _) _
      have hk1 : Blk w1 w.heap.size 5 (byteVals [c]) := by rw [← hw1]; exact Blk.new w _ _
      have HY : Hid (Bys w1 (w.heap.size + 1) (some ⟨w.heap.size, 0, none⟩) 1 [c]) := keepHid (bys_blk hk1 rfl (by omega))
      have HOW : Hid (OwnB w1 w0.heap.size 5 (.slice A s.ln.length cl) s.ln.length s.ln) := keepHid ((H.out.below hb1).line.own)
      have d4 : w1.cell? ⟨G, 4, none⟩ = some (.slice A s.ln.length cl) := (H.out.below hb1).blk.cell 4
      have HSZ : Hid (w0.heap.size ≤ w1.heap.size) := keepHid ((H.out.below hb1).base.bel.size)
      obtain ⟨N, hN⟩ : ∃ N, s.ln.length = N := ⟨_, rfl⟩
      have HFIN : Hid (∀ A2 c2 w4 w5, OwnB w4 w0.heap.size 5 (.slice A2 (N + 1) c2) (N + 1) (s.ln ++ [c]) → Turn (fun i => (Value.slice A N cl).ownBlock = some i) w1 w4 → ((Value.slice A2 (N + 1) c2).ownBlock = (Value.slice A N cl).ownBlock ∨ (Value.slice A2 (N + 1) c2).ownBlock = some w1.heap.size) →
          w4.setCell ⟨G, 4, none⟩ (.slice A2 (N + 1) c2) = w5 → ExecP w0 G κ p z1 z2 (take20 p s c) w (.returned (.string ⟨#[]⟩)) w5) := keepHid (fun A2 c2 w4 w5 q1 q2 q3 q4 => by
        rw [take_byte haw hc hlen]
        have hl1 : (s.ln ++ [c]).length = N + 1 := by rw [List.length_append, hN]; rfl
        have H' : TgtM w0 w G κ p z1 z2 GS (.slice A N cl) iv rv s := by rw [← hN]; exact H.out
        exact ⟨rfl, H'.lined hb1 (by rw [hl1]; exact q1) q2 q3 q4⟩)
      have HC4 : Hid (∀ w4, Turn (fun i => (Value.slice A N cl).ownBlock = some i) w1 w4 → w4.cell? ⟨G, 4, none⟩ = some (.slice A N cl) ∧ w4.frozen? ⟨G, 4, none⟩ = false) := keepHid (fun w4 ht => by
        rw [hN] at H
        have hG : ¬ (Value.slice A N cl).ownBlock = some G := fun e => by have := H.out.line.col G e; rw [H.out.g] at this; omega
        have hb := ht.blk (H.out.below hb1).blk hG
        exact ⟨hb.cell 4, hb.frozen 4⟩)
      rw [hN] at HOW d4 c4 hlen2
      generalize take20 p s c = r at *
      unfold ptV
      generalize (c.toNat : Int) = cv at *
      clear haw hb1 hk1 hc hlen hl
      go_enter Tryz.func33, Tryz.ntmps33
      go_wp2_with (at_builtin; refine wpList_append_bytes _ rfl _ _ 31 rfl w0.heap.size 5 byteT (.slice A N cl) N s.ln (by rfl) HOW.out (w.heap.size + 1) (some ⟨w.heap.size, 0, none⟩) 1 1 [c] (by rfl) HY.out (N + 1) rfl (by omega) HSZ.out ?_)
      intro A2 c2 w4 q1 q2 q3 _ _
      obtain ⟨w5, hw5⟩ : ∃ w5, w4.setCell ⟨G, 4, none⟩ (.slice A2 (N + 1) c2) = w5 := ⟨_, rfl⟩
      obtain ⟨f4, f5⟩ := HC4.out w4 q2
      have HR := keepHid (HFIN.out A2 c2 w4 w5 q1 q2 q3 hw5)
      clear q1 q2 q3 HFIN HC4
      clear hw1 HY HOW d4 c3 c4
      go_wp2
      try rw [hw5]
      go_ret
      exact HR.out
    · have hlen2 : ¬ (s.ln.length : Int) < 80 := by omega
      have HP : Hid (ExecP w0 G κ p z1 z2 (take20 p s c) w (.returned (.string ⟨#[]⟩)) w) := keepHid (by rw [take_lost haw hc hlen]; exact ⟨rfl, TOut.same ⟨_, _, _, _, H.out⟩ (Below.refl _ _)⟩)
      generalize take20 p s c = r at *
      generalize s.ln.length = N at *
      unfold ptV
      generalize (c.toNat : Int) = cv at *
      clear haw hc hlen hl
      go_enter Tryz.func33, Tryz.ntmps33
      go_wp2
      go_ret
      exact HP.out
end


def lenS : Value → Nat
  | .slice _ n _ => n
  | _ => 0
theorem exec_out (p : BP Fl) (s : Bd) (l : List UInt8) : (exec20 p s l).1.length ≤ 64 ∧ (exec20 p s l).2.rp.length ≤ s.rp.length + 1 := by
  unfold exec20
  split
  · exact ⟨by simp [readyL], by simp⟩
  split
  · split
    · split
      · exact ⟨by simp, by simp⟩
      · exact ⟨by simp [noL, readyL], by simp⟩
    split
    · split
      · rename_i a n ha hn
        split
        · have l1 := dig_eight (hexN_is ha).1
          have l2 := dig_eight (hexN_is hn).1
          have l3 := dig_eight (pr_u32 (getL s.st a n))
          refine ⟨?_, by simp⟩
          simp only [lin20, promptL, List.length_append, List.length_cons, List.length_nil]
          omega
        · exact ⟨by simp [noL, readyL], by simp⟩
      · exact ⟨by simp [noL, readyL], by simp⟩
    · exact ⟨by simp [noL, readyL], by simp⟩
  · exact ⟨by simp [noL, readyL], by simp⟩
theorem take_out (p : BP Fl) (s : Bd) (c : UInt8) : (take20 p s c).1.length ≤ 64 ∧ (take20 p s c).2.rp.length ≤ s.rp.length + 1 := by
  unfold take20
  split
  · exact ⟨by simp [readyL], by simp⟩
  split
  · exact exec_out p { s with ln := [] } s.ln
  split
  · exact ⟨by simp, by simp⟩
  · exact ⟨by simp, by simp⟩
/-- A call between leaves what was told. -/
theorem Told.step {w0 w w1 w2 : World} {κ κ1 κ2 : Nat → Nat} {v : Value} {n : Nat} {xs : List UInt8} (h : Told w0 w w1 κ κ1 v n xs) (h2 : Turn (fun i => κ1 i ≠ 0) w1 w2) (h3 : ∀ i, κ2 i ≠ 0 → κ1 i ≠ 0 ∨ w1.heap.size ≤ i) : Told w0 w w2 κ κ2 v n xs := by
  refine ⟨h.own.keep fun i hi hlt => h2.block i hlt (fun hh => hh (h.zero i hi)), fun i hi => ?_, ?_, fun i hi => ?_, h.le⟩
  · have hlt := (World.ownsRow.lt h.own i hi).2
    rcases Nat.eq_zero_or_pos (κ2 i) with h0 | h0
    · exact h0
    · rcases h3 i (by omega) with q | q
      · exact absurd (h.zero i hi) q
      · omega
  · refine ⟨h2.os.trans h.turn.os, h2.tape.trans h.turn.tape, h2.output.trans h.turn.output, Nat.le_trans h.turn.size h2.size, fun i hi hn => (h2.block i (Nat.lt_of_lt_of_le hi h.turn.size) (fun h1 => ?_)).trans (h.turn.block i hi hn)⟩
    rcases h.new i h1 with q | q
    · exact hn q
    · omega
  · rcases h3 i hi with q | q
    · exact h.new i q
    · exact .inr (Nat.le_trans h.turn.size q)
/-- Bytes are appended, the Target known in its parts. -/
theorem Told.appM {w0 w w2 w3 : World} {G GS : Nat} {κ κ2 : Nat → Nat} {p : BP Fl} {z1 z2 : Int} {s2 : Bd} {lv iv rv v v' : Value} {n k : Nat} {xs zs : List UInt8} (h : Told w0 w w2 κ κ2 v n xs) (hT : TgtM w0 w2 G κ2 p z1 z2 GS lv iv rv s2)
    (ho : OwnB w3 w.heap.size 5 v' k zs) (ht : Turn (fun i => v.ownBlock = some i) w2 w3) (hw : v'.ownBlock = v.ownBlock ∨ v'.ownBlock = some w2.heap.size) : TgtM w0 w3 G κ2 p z1 z2 GS lv iv rv s2 ∧ Told w0 w w3 κ κ2 v' k zs := by
  have h2 := h.app ⟨GS, lv, iv, rv, hT⟩ ho ht hw
  refine ⟨hT.turns ht fun i hi => ⟨h.zero i hi, ?_⟩, h2.2⟩
  have := (World.ownsRow.lt h.own i hi).1
  have := h.le
  omega
theorem add_zero (ad : Addr) : ad.add 0 = ad := by unfold Addr.add; simp
/-- Where a Put is. -/
def PutR (w0 w : World) (G : Nat) (κ : Nat → Nat) (p : BP Fl) (z1 z2 : Int) (s : Bd) (b : List UInt8) (C B : Nat) (I : Bd → Nat → List UInt8 → Prop) (A : Option Addr) (m : Nat) (v : Value) (n : Nat) (wr : World) : Prop :=
  ∃ κ1 s1 xs rest, Bys w w.heap.size A m rest ∧ (∀ ad, A = some ad → 0 < m → κ ad.block = 0) ∧ Told w0 w wr κ κ1 v n xs ∧ Tgt w0 wr G κ1 p z1 z2 s1 ∧ feed20 p s b = (xs ++ (feed20 p s1 rest).1, (feed20 p s1 rest).2) ∧ Ok20 C B s1 ∧ I s1 n rest


set_option maxRecDepth 100000 in
set_option maxHeartbeats 16000000 in
theorem put_gen {w0 w : World} {G : Nat} {κ : Nat → Nat} {p : BP Fl} (hp : Rdr p) {z1 z2 : Int} {s : Bd} (h : Tgt w0 w G κ p z1 z2 s) {C B : Nat} (hok : Ok20 C B s) (hC : C ≤ 500000) (hB : B ≤ 500000000) (A : Option Addr) (N c : Nat) (b : List UInt8) (hb : Bys w w.heap.size A N b)
    (hc : N ≤ c) (hcm : c ≤ 9223372036854775807) (hap : ∀ ad, A = some ad → 0 < N → κ ad.block = 0) (I : Bd → Nat → List UInt8 → Prop) (hI0 : I s 0 b) (hIs : ∀ s n c rest, s.ld = .non → I s n (c :: rest) → I (take20 p s c).2 (n + (take20 p s c).1.length) rest)
    (hIb : ∀ s n rest, I s n rest → n ≤ 100000000000 ∧ (s.ld ≠ .non → rest.length ≤ 400000000) ∧ s.rp.length ≤ 1000000000) :
    Calls Tryz.prog 16 #[ptV G, .slice A N c] w (TRow w0 G κ p z1 z2 (feed20 p s b) w) := by
  have HSTART : Hid (PutR w0 w G κ p z1 z2 s b C B I A N (.slice none 0 0) 0 w) := keepHid ⟨κ, s, [], b, hb, hap, ⟨OwnB.nil _ _ _, fun i hi => by simp [Value.ownBlock] at hi, Turn.refl _ _, fun i hi => .inl hi, h.base.bel.size⟩, h, rfl, hok, hI0⟩
  have HP := keepHid hp
  have HLE := keepHid h.base.bel.size
  have HIS := keepHid hIs
  have HIB := keepHid hIb
  clear hb hap h hok hI0 hIs hIb hp
  unfold ptV
  go_enter Tryz.func16, Tryz.ntmps16
  go_wp2_with fail
  go_loopw [5, 1] (fun vt vb wr => ∃ (A : Option Addr) (m c n : Nat) (A2 : Option Addr) (c2 : Nat), vt = .slice A2 n c2 ∧ vb = .slice A m c ∧ m ≤ c ∧ c ≤ 9223372036854775807 ∧ Hid (n ≤ c2 ∧ c2 ≤ 9223372036854775807) ∧ Hid (PutR w0 w G κ p z1 z2 s b C B I A m (.slice A2 n c2) n wr)) (fun _ vb _ => lenS vb)
  case atStart => exact ⟨A, N, c, 0, none, 0, rfl, rfl, hc, hcm, keepHid (by omega), HSTART⟩
  case round =>
    clear HSTART hc hcm
    obtain ⟨A, m, c, n, A2, c2, rfl, rfl, hmc, hcm, HCC, HREL⟩ := hrel
    obtain ⟨κ1, s1, xs, rest, hy, hap, htd, htg, hfe, hok, hi⟩ := HREL.out
    obtain ⟨hib1, hib2, hib3⟩ := HIB.out _ _ _ hi
    have HI := keepHid hi
    have HYW := keepHid hy
    have HY := keepHid (hy.turn htd.turn (Nat.le_refl _) (fun h0 ad e hh => hh (hap ad e h0)))
    have HAP := keepHid hap
    have HTD := keepHid htd
    have HFE := keepHid hfe
    have HOK := keepHid hok
    have hn64 : n ≤ 100000000000 := hib1
    have hws := htd.turn.size
    obtain ⟨GS, lv, iv, rv, hM⟩ := htg
    have HM := keepHid hM
    have c5 : wr.cell? ⟨G, 5, none⟩ = some iv := hM.blk.cell 5
    have hor := hM.lod.or
    have HZ : Hid (∀ ad, A = some ad → 0 < m → κ1 ad.block = 0 ∧ ad.block < w.heap.size) := keepHid (fun ad e h0 => by
      obtain ⟨ad', c', e', hlt, _⟩ := hy.at_ h0
      have : ad' = ad := by rw [e] at e'; exact (Option.some.inj e').symm
      subst this
      refine ⟨?_, hlt⟩
      rcases Nat.eq_zero_or_pos (κ1 ad'.block) with q | q
      · exact q
      · rcases htd.new ad'.block (by omega) with q1 | q1
        · exact absurd (hap ad' e h0) q1
        · omega)
    have hrl := hy.len
    clear hy hap htd hfe hok hM HREL hi
    rcases hor with ⟨hnon, rfl⟩ | ⟨hld, T, GR, rfl⟩
    · by_cases hm : m = 0
      · subst hm
        have hrest : rest = [] := List.eq_nil_of_length_eq_zero hrl
        have HR : Hid (TRow w0 G κ p z1 z2 (feed20 p s b) w (.returned (.slice A2 n c2)) wr) := keepHid (by
          refine HTD.out.row ⟨GS, lv, .nilIface, rv, ?_⟩ ?_ HCC.out.1 HCC.out.2
          · rw [HFE.out, hrest, feed_nil hnon]; exact HM.out
          · rw [HFE.out, hrest, feed_nil hnon]; simp)
        generalize feed20 p s b = r at *
        clear hnon hrl hib1 hib2 hib3 HI HIS HIB hws HZ HY HAP HTD HFE HOK HM hn64 HCC
        go_wp2
        go_ret
        exact HR.out
      · obtain ⟨c0, rest', hrest⟩ : ∃ c0 rest', rest = c0 :: rest' := by
          cases rest with
          | nil => simp at hrl; omega
          | cons a q => exact ⟨a, q, rfl⟩
        subst hrest
        obtain ⟨ad, c0', had, hlt0, hx0, hcell0⟩ := HY.out.at_ (k := 0) (by omega)
        obtain rfl : c0 = c0' := by simpa using hx0
        rw [add_zero] at hcell0
        subst had
        have hm1 : 1 ≤ m := by omega
        have hmI : (0 : Int) < (m : Int) := by omega
        have hto := take_out p s1 c0
        have HTK := keepHid (take_any20 HM.out c0 HOK.out.ln hib3)
        have HFE2 : Hid (feed20 p s b = (xs ++ ((take20 p s1 c0).1 ++ (feed20 p (take20 p s1 c0).2 rest').1), (feed20 p (take20 p s1 c0).2 rest').2)) := keepHid (by rw [HFE.out, feed_take hnon])
        have HI2 := keepHid (HIS.out s1 n c0 rest' hnon HI.out)
        have HOK2 := keepHid (take_ok (p := p) HOK.out c0)
        have HCUT := keepHid (HYW.out.cut (k := 1) (cap := c) (by omega) hmc)
        have HNEXT : Hid (∀ κ2 w3 A3 c3, Tgt w0 w3 G κ2 p z1 z2 (take20 p s1 c0).2 → Told w0 w w3 κ κ2 (.slice A3 (n + (take20 p s1 c0).1.length) c3) (n + (take20 p s1 c0).1.length) (xs ++ (take20 p s1 c0).1) →
            PutR w0 w G κ p z1 z2 s b C B I (if c = 1 then some ad else (some ad : Option Addr).map (·.add 1)) (m - 1) (.slice A3 (n + (take20 p s1 c0).1.length) c3) (n + (take20 p s1 c0).1.length) w3) := keepHid (fun κ2 w3 A3 c3 hT hD => by
          refine ⟨κ2, (take20 p s1 c0).2, xs ++ (take20 p s1 c0).1, rest', HCUT.out, ?_, hD, hT, ?_, HOK2.out, HI2.out⟩
          · intro ad' e _
            split at e
            · exact HAP.out ad' e (by omega)
            · obtain rfl := Option.some.inj e
              rw [ad_block]; exact HAP.out ad rfl (by omega)
          · rw [HFE2.out, List.append_assoc])
        generalize take20 p s1 c0 = tk at *
        obtain ⟨n1, hn1⟩ : ∃ n1, n + tk.1.length = n1 := ⟨_, rfl⟩
        rw [hn1] at HNEXT
        have hn1b : n1 ≤ 140737488355328 := by omega
        clear hnon hrl hib1 hib2 hib3 HI HIS HIB HI2 HZ HY HYW HAP HFE HFE2 HOK HOK2 HM hn64 hx0 hlt0 HCUT hto hm
        go_wp2_with fail
        refine HTK.out.mono ?_
        rintro e w2 ⟨rfl, hout⟩
        obtain ⟨κ2, hT2, hD2⟩ := HTD.out.next hout
        have HT2 := keepHid hT2
        have HD2 := keepHid hD2
        have hws2 := hD2.turn.size
        clear hout hT2 hD2 HTK HTD hcell0 c5 hws
        go_wp2_with (at_builtin; refine wpList_append_textO rfl _ _ rfl w.heap.size (.slice A2 n c2) n xs tk.1 (by rfl) HD2.out.own (by rfl) n1 hn1 hn1b hws2 ?_)
        intro A3 c3 w3 q1 q2 q3 q4 q5
        obtain ⟨hT3, hD3⟩ := HD2.out.app HT2.out q1 q2 q3
        have HR := keepHid (HNEXT.out κ2 w3 A3 c3 hT3 hD3)
        have HQ := keepHid (And.intro q4 q5)
        clear q1 q2 q3 q4 q5 hT3 hD3 HNEXT hn1b hws2
        go_wp2
        go_roundw
        case rel => exact ⟨_, m - 1, c - 1, n1, A3, c3, rfl, rfl, by omega, by omega, HQ, HR⟩
        case measure => simp [lenS]; omega
    · have hm4 : m ≤ 400000000 := by rw [← hrl]; exact hib2 hld
      clear c5
      cases hs : s1.ld with
      | non => exact absurd hs hld
      | one crc r1 =>
        have hl := HM.out.lod
        rw [hs] at hl
        obtain ⟨GR', e, -⟩ := hl
        obtain ⟨rfl, rfl⟩ : T = 76 ∧ GR = GR' := by
          injection e with e1 e2
          refine ⟨e1, ?_⟩
          injection e2 with e2
          injection e2 with e2
          injection e2
        clear e
        have c5 : wr.cell? ⟨G, 5, none⟩ = some (.iface 76 (ptV GR)) := HM.out.blk.cell 5
        have hfit : s1.ld.fit := ⟨C, B, HOK.out.few, hC, hB⟩
        have HPT := keepHid (lod_one_put HM.out hs hfit A m c rest (HY.out.more hws) hm4 (fun ad e h0 => (HZ.out ad e h0).1))
        have l1 := Lod.put_out p rest s1.ld
        have l2 := fin_out_few { s1 with ld := (s1.ld.put p rest).2 }
        have hni : s1.ld.isNon = false := by rw [hs]; rfl
        have HFE2 : Hid (feed20 p s b = (xs ++ ((s1.ld.put p rest).1 ++ (fin20 { s1 with ld := (s1.ld.put p rest).2 }).1), (fin20 { s1 with ld := (s1.ld.put p rest).2 }).2)) := keepHid (by rw [HFE.out, feed_load hni, lput_is])
        have HF : Hid (∀ w1 κ2, TgtM w0 w1 G κ2 p z1 z2 GS lv (.iface 76 (ptV GR)) rv { s1 with ld := (s1.ld.put p rest).2 } → Calls Tryz.prog 29 #[.pointer (some ⟨G, 0, none⟩)] w1 (FinPost w0 G κ2 p z1 z2 { s1 with ld := (s1.ld.put p rest).2 } w1)) := keepHid (fun w1 κ2 h1 => finish_any (.inl ⟨rfl, by rw [hs]; exact ⟨_, _, rfl⟩⟩) h1 HOK.out.ad ⟨C + 1, B + rest.length, Lod.few_put p rest HOK.out.few, by omega⟩)
        have h2 := HOK.out
        generalize feed20 p s b = r at *
        generalize s1.ld.put p rest = lt at *
        obtain ⟨s2, hs2⟩ : ∃ s2, { s1 with ld := lt.2 } = s2 := ⟨_, rfl⟩
        have HS2 := keepHid hs2
        rw [hs2] at HF l2 HFE2
        clear hs2 h2 hs hfit hni hld hrl hib1 hib2 hib3 HI HIS HIB HZ HY HYW HAP HFE HOK
        unfold ptV at c5 HPT
        by_cases hm0 : 0 < m
        all_goals
          go_wp2_with fail
          refine HPT.out.mono ?_
          rintro e w5 ⟨A5, k5, κ5, rfl, ho5, hc51, hc52, hm5, ht5, hk5, hz5⟩
          have hd5 := HTD.out.step (ht5.mono (fun i hi => by rw [hi]; omega)) hk5
          have HD5 := keepHid hd5
          have hws5 := hd5.turn.size
          have HM5 : Hid (TgtM w0 w5 G κ5 p z1 z2 GS lv (.iface 76 (ptV GR)) rv s2) := keepHid (by rw [← HS2.out]; exact hm5)
          obtain ⟨n5, hn5⟩ : ∃ n5, lt.1.length = n5 := ⟨_, rfl⟩
          have HY5 : Hid (Bys w5 w5.heap.size A5 n5 lt.1) := keepHid (by rw [← hn5]; exact ho5.bys (by omega))
          rw [hn5] at l1 ⊢
          obtain ⟨n6, hn6⟩ : ∃ n6, n + n5 = n6 := ⟨_, rfl⟩
          have hn6b : n6 ≤ 140737488355328 := by omega
          clear ho5 hc51 hc52 hm5 ht5 hk5 hz5 hd5 HPT c5 HTD HM hws
          go_wp2_with (at_builtin; refine wpList_append_bytes _ rfl _ _ 31 rfl w.heap.size 5 byteT (.slice A2 n c2) n xs (by rfl) HD5.out.own w5.heap.size A5 n5 k5 lt.1 (by rfl) HY5.out n6 hn6 hn6b hws5 ?_)
          intro A6 c6 w6 q1 q2 q3 _ _
          obtain ⟨hM6, hD6⟩ := HD5.out.appM HM5.out q1 q2 q3
          have HD6 := keepHid hD6
          have HFN := keepHid (HF.out w6 κ5 hM6)
          have hn6c : n6 ≤ 100000000002 := by omega
          unfold FinPost at HFN
          generalize fin20 s2 = f1 at *
          obtain ⟨n7, hn7⟩ : ∃ n7, n6 + f1.1.length = n7 := ⟨_, rfl⟩
          have hn7b : n7 ≤ 140737488355328 := by omega
          clear q1 q2 q3 hM6 hD6 HF HY5 HM5 HD5 hn6b hws5
          go_wp2_with fail
          refine HFN.out.mono ?_
          rintro e w7 ⟨rfl, hout⟩
          obtain ⟨κ7, hT7, hD7⟩ := HD6.out.next hout
          have HT7 := keepHid hT7
          have HD7 := keepHid hD7
          have hws7 := hD7.turn.size
          clear hout hT7 hD7 HFN HD6
          go_wp2_with (at_builtin; refine wpList_append_textO rfl _ _ rfl w.heap.size (.slice A6 n6 c6) n6 (xs ++ lt.1) f1.1 (by rfl) HD7.out.own (by rfl) n7 hn7 hn7b hws7 ?_)
          intro A8 c8 w8 q1 q2 q3 q4 q5
          obtain ⟨hT8, hD8⟩ := HD7.out.app HT7.out q1 q2 q3
          have HR := keepHid (hD8.row (r := r) (by rw [HFE2.out]; exact hT8) (by rw [HFE2.out]) q4 q5)
          clear q1 q2 q3 q4 q5 hT8 hD8
          go_wp2
          go_ret
          exact HR.out
      | files f =>
        have hl := HM.out.lod
        rw [hs] at hl
        obtain ⟨GR', e, -⟩ := hl
        obtain ⟨rfl, rfl⟩ : T = 77 ∧ GR = GR' := by
          injection e with e1 e2
          refine ⟨e1, ?_⟩
          injection e2 with e2
          injection e2 with e2
          injection e2
        clear e
        have c5 : wr.cell? ⟨G, 5, none⟩ = some (.iface 77 (ptV GR)) := HM.out.blk.cell 5
        have hfit : s1.ld.fit := ⟨C, B, HOK.out.few, hC, hB⟩
        have HPT := keepHid (lod_files_put HP.out HM.out hs hfit A m c rest (HY.out.more hws) hm4 (fun ad e h0 => (HZ.out ad e h0).1))
        have l1 := Lod.put_out p rest s1.ld
        have l2 := fin_out_few { s1 with ld := (s1.ld.put p rest).2 }
        have hni : s1.ld.isNon = false := by rw [hs]; rfl
        have HFE2 : Hid (feed20 p s b = (xs ++ ((s1.ld.put p rest).1 ++ (fin20 { s1 with ld := (s1.ld.put p rest).2 }).1), (fin20 { s1 with ld := (s1.ld.put p rest).2 }).2)) := keepHid (by rw [HFE.out, feed_load hni, lput_is])
        have HF : Hid (∀ w1 κ2, TgtM w0 w1 G κ2 p z1 z2 GS lv (.iface 77 (ptV GR)) rv { s1 with ld := (s1.ld.put p rest).2 } → Calls Tryz.prog 29 #[.pointer (some ⟨G, 0, none⟩)] w1 (FinPost w0 G κ2 p z1 z2 { s1 with ld := (s1.ld.put p rest).2 } w1)) := keepHid (fun w1 κ2 h1 => finish_any (.inr ⟨rfl, by rw [hs]; exact ⟨_, rfl⟩⟩) h1 HOK.out.ad ⟨C + 1, B + rest.length, Lod.few_put p rest HOK.out.few, by omega⟩)
        have h2 := HOK.out
        generalize feed20 p s b = r at *
        generalize s1.ld.put p rest = lt at *
        obtain ⟨s2, hs2⟩ : ∃ s2, { s1 with ld := lt.2 } = s2 := ⟨_, rfl⟩
        have HS2 := keepHid hs2
        rw [hs2] at HF l2 HFE2
        clear hs2 h2 hs hfit hni hld hrl hib1 hib2 hib3 HI HIS HIB HZ HY HYW HAP HFE HOK
        unfold ptV at c5 HPT
        by_cases hm0 : 0 < m
        all_goals
          go_wp2_with fail
          refine HPT.out.mono ?_
          rintro e w5 ⟨A5, k5, κ5, rfl, ho5, hc51, hc52, hm5, ht5, hk5, hz5⟩
          have hd5 := HTD.out.step (ht5.mono (fun i hi => by rw [hi]; omega)) hk5
          have HD5 := keepHid hd5
          have hws5 := hd5.turn.size
          have HM5 : Hid (TgtM w0 w5 G κ5 p z1 z2 GS lv (.iface 77 (ptV GR)) rv s2) := keepHid (by rw [← HS2.out]; exact hm5)
          obtain ⟨n5, hn5⟩ : ∃ n5, lt.1.length = n5 := ⟨_, rfl⟩
          have HY5 : Hid (Bys w5 w5.heap.size A5 n5 lt.1) := keepHid (by rw [← hn5]; exact ho5.bys (by omega))
          rw [hn5] at l1 ⊢
          obtain ⟨n6, hn6⟩ : ∃ n6, n + n5 = n6 := ⟨_, rfl⟩
          have hn6b : n6 ≤ 140737488355328 := by omega
          clear ho5 hc51 hc52 hm5 ht5 hk5 hz5 hd5 HPT c5 HTD HM hws
          go_wp2_with (at_builtin; refine wpList_append_bytes _ rfl _ _ 31 rfl w.heap.size 5 byteT (.slice A2 n c2) n xs (by rfl) HD5.out.own w5.heap.size A5 n5 k5 lt.1 (by rfl) HY5.out n6 hn6 hn6b hws5 ?_)
          intro A6 c6 w6 q1 q2 q3 _ _
          obtain ⟨hM6, hD6⟩ := HD5.out.appM HM5.out q1 q2 q3
          have HD6 := keepHid hD6
          have HFN := keepHid (HF.out w6 κ5 hM6)
          have hn6c : n6 ≤ 100000000002 := by omega
          unfold FinPost at HFN
          generalize fin20 s2 = f1 at *
          obtain ⟨n7, hn7⟩ : ∃ n7, n6 + f1.1.length = n7 := ⟨_, rfl⟩
          have hn7b : n7 ≤ 140737488355328 := by omega
          clear q1 q2 q3 hM6 hD6 HF HY5 HM5 HD5 hn6b hws5
          go_wp2_with fail
          refine HFN.out.mono ?_
          rintro e w7 ⟨rfl, hout⟩
          obtain ⟨κ7, hT7, hD7⟩ := HD6.out.next hout
          have HT7 := keepHid hT7
          have HD7 := keepHid hD7
          have hws7 := hD7.turn.size
          clear hout hT7 hD7 HFN HD6
          go_wp2_with (at_builtin; refine wpList_append_textO rfl _ _ rfl w.heap.size (.slice A6 n6 c6) n6 (xs ++ lt.1) f1.1 (by rfl) HD7.out.own (by rfl) n7 hn7 hn7b hws7 ?_)
          intro A8 c8 w8 q1 q2 q3 q4 q5
          obtain ⟨hT8, hD8⟩ := HD7.out.app HT7.out q1 q2 q3
          have HR := keepHid (hD8.row (r := r) (by rw [HFE2.out]; exact hT8) (by rw [HFE2.out]) q4 q5)
          clear q1 q2 q3 q4 q5 hT8 hD8
          go_wp2
          go_ret
          exact HR.out

/-- Not too many bytes. -/
theorem put_any20 {w0 w : World} {G : Nat} {κ : Nat → Nat} {p : BP Fl} (hp : Rdr p) {z1 z2 : Int} {s : Bd} (h : Tgt w0 w G κ p z1 z2 s) {C B : Nat} (hok : Ok20 C B s) (hC : C ≤ 500000) (hB : B ≤ 500000000) (A : Option Addr) (N c : Nat) (b : List UInt8) (hb : Bys w w.heap.size A N b)
    (hN : N ≤ 400000000) (hc : N ≤ c) (hcm : c ≤ 9223372036854775807) (hap : ∀ ad, A = some ad → 0 < N → κ ad.block = 0) (hrp : s.rp.length + N ≤ 1000000000) :
    Calls Tryz.prog 16 #[ptV G, .slice A N c] w (TRow w0 G κ p z1 z2 (feed20 p s b) w) :=
  put_gen hp h hok hC hB A N c b hb hc hcm hap (fun s1 n rest => s1.rp.length + rest.length ≤ 1000000000 ∧ n ≤ 64 * (N - rest.length) ∧ rest.length ≤ N) ⟨by rw [hb.len]; exact hrp, by omega, by rw [hb.len]; exact Nat.le_refl _⟩
    (fun s n c rest _ hh => by
      have := take_out p s c
      simp only [List.length_cons] at hh
      exact ⟨by omega, by omega, by omega⟩)
    (fun s n rest hh => ⟨by omega, fun _ => by omega, by omega⟩)
end Go.Proofs.YtonloefjhofeeaaGreatDoor
