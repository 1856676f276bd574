/-
  What the calls of a sender's do.
-/
import Derived.Test.YtjbkhaoddababaaSender
import Derived.Handy
namespace Go.Proofs.Ytjbkhaoddababaa
open Go.RowKit
set_option linter.unusedVariables false

theorem left_drew {w : World} {Hb G k : Nat} {bl : Bks} {v : Value} (h : LeftV w Hb G bl v k) (n : Nat) : LeftV (w.drewN n) Hb G bl v k := h.turn ((Turn.refl _ w).drewN n)
set_option maxRecDepth 100000 in
set_option maxHeartbeats 4000000 in
theorem again_any {Hb G : Nat} {bl : Bks} {T W : Nat} {cl : Bool} {s : Sd} {v : Value} {w : World} (h : Blk w G 68 (sndC T W cl v s)) (hl : s.ph < 3 → LeftV w Hb G bl v s.k) (h1 : s.ph = 1 → s.k < bl.length) (hp : s.ph ≤ 3) (hT : T ≤ 9) (ht : s.tries ≤ T) :
    Calls Try.prog 52 #[.pointer (some ⟨G, 0, none⟩)] w (SendPost Hb G bl T W cl (againS bl T W s) w) := by
  obtain ⟨ph, k, crc, err, tries, wait, can⟩ := s
  have c0 : w.cell? ⟨G, 0, none⟩ = some (.int .i64 (T : Int)) := h.cell 0
  have c1 : w.cell? ⟨G, 1, none⟩ = some (.int .i64 (W : Int)) := h.cell 1
  have c6 : w.cell? ⟨G, 7, none⟩ = some (.int .i64 (tries : Int)) := h.cell 7
  have c8 : w.cell? ⟨G, 8, none⟩ = some (.int .i64 (wait : Int)) := h.cell 8
  have hf := h.frozen
  have H := keepHid h
  have HL := keepHid hl
  simp only at ht hp h1
  unfold againS
  rcases Nat.lt_or_ge tries T with hlt | hge
  · rw [if_neg (by show ¬ T ≤ tries; omega)]
    have i1 : ¬ (T : Int) ≤ (tries : Int) := by omega
    clear h hl
    have HSD : Hid (Calls Try.prog 61 #[.pointer (some ⟨G, 0, none⟩)] ((w.setCell ⟨G, 7, none⟩ (.int .i64 ((tries : Int) + 1))).setCell ⟨G, 8, none⟩ (.int .i64 (W : Int))).drew (SendPost Hb G bl T W cl (sendS bl ⟨ph, k, crc, err, tries + 1, W, can⟩) w)) := keepHid (by
      have t1 : Turn (fun b => b = G) w ((w.setCell ⟨G, 7, none⟩ (.int .i64 ((tries : Int) + 1))).setCell ⟨G, 8, none⟩ (.int .i64 (W : Int))).drew := Turn.drew (turnAt _ _ (turnAt _ _ (Turn.refl _ w)))
      refine (send_any (s := ⟨ph, k, crc, err, tries + 1, W, can⟩) (v := v) (((H.out.put 7 _).put 8 _).drew) (fun h => (HL.out h).turn t1) h1 hp).mono ?_
      exact fun _ _ h => h.of t1)
    go_enter Try.func52, Try.ntmps52
    go_upto_region 1 with fail
    go_region
    go_wp2_with fail
    (with_reducible refine HSD.out.mono ?_)
    rintro e w6 hp6
    obtain ⟨A6, c6, v6, rfl, hp6⟩ := hp6
    have HP := keepHid hp6
    clear hp6
    go_wp2
    go_ret
    exact ⟨A6, c6, v6, rfl, HP.out⟩
  · rw [if_pos hge]
    have i1 : (T : Int) ≤ (tries : Int) := by omega
    clear h hl
    have HST : Hid (Calls Try.prog 53 #[.pointer (some ⟨G, 0, none⟩), .iface 76 (.int .i64 10)] w.drew fun r w6 => r = .returned (.tuple #[]) ∧
        SendPost Hb G bl T W cl ([24, 24], ⟨3, k, crc, 10, tries, wait, can⟩) w (.returned (.slice (some ⟨w6.heap.size, 0, none⟩) 2 2)) (w6.alloc (.cells #[.int .u8 24, .int .u8 24] 5))) := keepHid (by
      refine (stop_any _ (.inr ⟨_, _, rfl⟩) H.out.drew).mono ?_
      rintro r w6 ⟨e1, e2, e3⟩
      have t1 : Turn (fun b => b = G) w (w6.alloc (.cells #[.int .u8 24, .int .u8 24] 5)) := (Turn.trans (b := w.drew) (Turn.drew (Turn.refl _ w)) e3).alloc _
      have hs6 : w.heap.size ≤ w6.heap.size := e3.size
      exact ⟨e1, _, 2, .slice none 0 0, rfl, own_new w6 _ _ 2 [24, 24] _ rfl hs6 rfl rfl (by omega), Nat.le_refl _, by show 2 ≤ _; omega, t1, e2.alloc _, fun h => absurd h (by simp)⟩)
    go_enter Try.func52, Try.ntmps52
    go_upto_region 1 with fail
    go_region
    go_wp2_with fail
    (with_reducible refine HST.out.mono ?_)
    rintro r w6 ⟨rfl, hp6⟩
    have HP := keepHid hp6
    clear hp6
    go_wp2
    go_ret
    exact HP.out

theorem goS_block {bl : Bks} {W : Nat} {cl : Bool} {s : Sd} (h : s.k < bl.length) : goS bl W cl s = sendS bl { s with ph := 1, tries := 1, wait := W } := if_pos h
theorem goS_end {bl : Bks} {W : Nat} {s : Sd} (h : ¬ s.k < bl.length) (h2 : s.ph ≠ 2) : goS bl W true s = ([4], { s with ph := 2, tries := 1, wait := W }) := by
  unfold goS; rw [if_neg h, if_pos ⟨rfl, h2⟩]
theorem goS_over {bl : Bks} {W : Nat} {cl : Bool} {s : Sd} (h : ¬ s.k < bl.length) (h2 : ¬ (cl = true ∧ s.ph ≠ 2)) : goS bl W cl s = ([], { s with ph := 3, err := 0, tries := 1, wait := W }) := by
  unfold goS; rw [if_neg h, if_neg h2]
set_option maxRecDepth 100000 in
set_option maxHeartbeats 4000000 in
theorem proceed_any {Hb G : Nat} {bl : Bks} {T W : Nat} {cl : Bool} {s : Sd} {v : Value} {w : World} (h : Blk w G 68 (sndC T W cl v s)) (hl : LeftV w Hb G bl v s.k) (hp : s.ph < 3) :
    Calls Try.prog 56 #[.pointer (some ⟨G, 0, none⟩)] w (SendPost Hb G bl T W cl (goS bl W cl s) w) := by
  obtain ⟨ph, k, crc, err, tries, wait, can⟩ := s
  simp only at hp
  have c1 : w.cell? ⟨G, 1, none⟩ = some (.int .i64 (W : Int)) := h.cell 1
  have c4 : w.cell? ⟨G, 4, none⟩ = some (.bool cl) := h.cell 4
  have c5 : w.cell? ⟨G, 5, none⟩ = some (.int .i64 (ph : Int)) := h.cell 5
  have c7 : w.cell? ⟨G, 7, none⟩ = some (.int .i64 (tries : Int)) := h.cell 7
  have c8 : w.cell? ⟨G, 8, none⟩ = some (.int .i64 (wait : Int)) := h.cell 8
  have hf := h.frozen
  have H := keepHid h
  have HL := keepHid hl
  obtain ⟨B, A, rfl, e2, e3⟩ := hl
  simp only at e2 e3 H h c1 HL ⊢
  have c2 : w.cell? ⟨G, 2, none⟩ = some (.slice A (bl.length - k) (bl.length - k)) := h.cell 2
  obtain ⟨m, hm⟩ : ∃ m, bl.length - k = m := ⟨_, rfl⟩
  rw [hm] at c2 H HL
  clear h e2 e3
  have t2 : Turn (fun b => b = G) w ((w.setCell ⟨G, 7, none⟩ (.int .i64 1)).setCell ⟨G, 8, none⟩ (.int .i64 (W : Int))) := turnAt _ _ (turnAt _ _ (Turn.refl _ w))
  have T2 := keepHid t2
  clear t2
  have SD : ∀ x (hx : x = 1 ∨ x = 2), (x = 1 → k < bl.length) → Calls Try.prog 61 #[.pointer (some ⟨G, 0, none⟩)] (((w.setCell ⟨G, 7, none⟩ (.int .i64 1)).setCell ⟨G, 8, none⟩ (.int .i64 (W : Int))).setCell ⟨G, 5, none⟩ (.int .i64 ((x : Nat) : Int))) (SendPost Hb G bl T W cl (sendS bl ⟨x, k, crc, err, 1, W, can⟩) w) := fun x hx h1 => by
    have t3 := turnAt (G := G) 5 (.int .i64 ((x : Nat) : Int)) T2.out
    refine (send_any (s := ⟨x, k, crc, err, 1, W, can⟩) (((H.out.put 7 _).put 8 _).put 5 _) (fun h => HL.out.turn t3) h1 (by show x ≤ 3; omega)).mono ?_
    exact fun _ _ h => h.of t3
  rcases Nat.eq_zero_or_pos m with rfl | hm0
  · by_cases hcl : cl = true ∧ ph ≠ 2
    · obtain ⟨rfl, h2⟩ := hcl
      rw [goS_end (s := ⟨ph, k, crc, err, tries, wait, can⟩) (by show ¬ k < _; omega) h2]
      have HSD : Hid (Calls Try.prog 61 #[.pointer (some ⟨G, 0, none⟩)] (((w.setCell ⟨G, 7, none⟩ (.int .i64 1)).setCell ⟨G, 8, none⟩ (.int .i64 (W : Int))).setCell ⟨G, 5, none⟩ (.int .i64 2)) (SendPost Hb G bl T W true ([4], ⟨2, k, crc, err, 1, W, can⟩) w)) := keepHid (SD 2 (.inr rfl) (by omega))
      have q2 : ((ph : Int) == 2) = false := by simp; omega
      have q3 : ((ph : Int) != 2) = true := by simp; omega
      clear SD
      go_enter Try.func56, Try.ntmps56
      go_wp2_with fail
      (with_reducible refine HSD.out.mono ?_)
      rintro e w6 hp6
      obtain ⟨A6, c6, v6, rfl, hp6⟩ := hp6
      have HP := keepHid hp6
      clear hp6
      go_wp2
      go_ret
      exact ⟨A6, c6, v6, rfl, HP.out⟩
    · rw [goS_over (s := ⟨ph, k, crc, err, tries, wait, can⟩) (by show ¬ k < _; omega) hcl]
      have HST : Hid (Calls Try.prog 53 #[.pointer (some ⟨G, 0, none⟩), .nilIface] ((w.setCell ⟨G, 7, none⟩ (.int .i64 1)).setCell ⟨G, 8, none⟩ (.int .i64 (W : Int))) fun r w6 => r = .returned (.tuple #[]) ∧
          Calls Try.prog 61 #[.pointer (some ⟨G, 0, none⟩)] w6 (SendPost Hb G bl T W cl ([], ⟨3, k, crc, 0, 1, W, can⟩) w)) := keepHid (by
        refine (stop_any _ (.inl rfl) ((H.out.put 7 _).put 8 _)).mono ?_
        rintro r w6 ⟨e1, e2, e3⟩
        have t3 := T2.out.trans e3
        refine ⟨e1, (send_any (Hb := Hb) (bl := bl) (s := ⟨3, k, crc, 0, 1, W, can⟩) e2 (fun h => absurd h (by simp)) (by simp) (by simp)).mono ?_⟩
        exact fun _ _ h => h.of t3)
      clear SD
      have fin : ∀ (cl' : Bool) (ph' : Nat), cl' = cl → ph' = ph → (cl' = false ∨ (cl' = true ∧ ph' = 2)) := fun cl' ph' h1 h2 => by
        subst h1 h2
        cases cl'
        · exact .inl rfl
        · exact .inr ⟨rfl, by
            by_cases h : ph' = 2
            · exact h
            · exact absurd ⟨rfl, h⟩ hcl⟩
      rcases fin cl ph rfl rfl with rfl | ⟨rfl, rfl⟩
      all_goals
        clear fin hcl
        go_enter Try.func56, Try.ntmps56
        go_wp2_with fail
        (with_reducible refine HST.out.mono ?_)
        rintro r w5 ⟨rfl, hs5⟩
        have HS5 := keepHid hs5
        clear hs5
        go_wp2_with fail
        (with_reducible refine HS5.out.mono ?_)
        rintro e w6 hp6
        obtain ⟨A6, c6, v6, rfl, hp6⟩ := hp6
        have HP := keepHid hp6
        clear hp6
        go_wp2
        go_ret
        exact ⟨A6, c6, v6, rfl, HP.out⟩
  · rw [goS_block (s := ⟨ph, k, crc, err, tries, wait, can⟩) (by show k < _; omega)]
    have HSD : Hid (Calls Try.prog 61 #[.pointer (some ⟨G, 0, none⟩)] (((w.setCell ⟨G, 7, none⟩ (.int .i64 1)).setCell ⟨G, 8, none⟩ (.int .i64 (W : Int))).setCell ⟨G, 5, none⟩ (.int .i64 1)) (SendPost Hb G bl T W cl (sendS bl ⟨1, k, crc, err, 1, W, can⟩) w)) := keepHid (SD 1 (.inl rfl) (fun _ => by omega))
    have i1 : (0 : Int) < (m : Int) := by omega
    clear SD
    go_enter Try.func56, Try.ntmps56
    go_wp2_with fail
    (with_reducible refine HSD.out.mono ?_)
    rintro e w6 hp6
    obtain ⟨A6, c6, v6, rfl, hp6⟩ := hp6
    have HP := keepHid hp6
    clear hp6
    go_wp2
    go_ret
    exact ⟨A6, c6, v6, rfl, HP.out⟩

set_option maxHeartbeats 4000000 in
theorem take_one {Hb G : Nat} {bl : Bks} {T W : Nat} {cl : Bool} {s : Sd} {v : Value} {w : World} (h : Blk w G 68 (sndC T W cl v s)) (hl : LeftV w Hb G bl v s.k) (hp : s.ph = 1) (hk : s.k < bl.length) (hn : bl.length ≤ 8796093022208) :
    Calls Try.prog 55 #[.pointer (some ⟨G, 0, none⟩)] w fun e w' => e = .returned (.tuple #[]) ∧ ∃ v', Blk w' G 68 (sndC T W cl v' { s with k := s.k + 1 }) ∧ LeftV w' Hb G bl v' (s.k + 1) ∧ Turn (fun b => b = G) w w' := by
  obtain ⟨ph, k, crc, err, tries, wait, can⟩ := s
  simp only at hp hk hl
  subst hp
  have c5 : w.cell? ⟨G, 5, none⟩ = some (.int .i64 1) := h.cell 5
  have c9 : w.cell? ⟨G, 9, none⟩ = some (.int .i64 (k : Int)) := h.cell 9
  have hf := h.frozen
  have H := keepHid h
  have HL := keepHid hl
  obtain ⟨B, A, rfl, e2, e3⟩ := hl
  obtain rfl := e2 hk
  have c2 : w.cell? ⟨G, 2, none⟩ = some (.slice (some ⟨B, k * 2, none⟩) (bl.length - k) (bl.length - k)) := h.cell 2
  obtain ⟨m, hm⟩ : ∃ m, bl.length - k = m + 1 := ⟨bl.length - k - 1, by omega⟩
  rw [hm] at c2
  have hm2 : m + 1 ≤ 8796093022208 := by omega
  clear h e2
  have fin : ∀ A, (0 < m → A = some ⟨B, k * 2 + 2, none⟩) → ∃ v', Blk ((w.setCell ⟨G, 9, none⟩ (.int .i64 ((k : Int) + 1))).setCell ⟨G, 2, none⟩ (.slice A m m)) G 68 (sndC T W cl v' ⟨1, k + 1, crc, err, tries, wait, can⟩) ∧
      LeftV ((w.setCell ⟨G, 9, none⟩ (.int .i64 ((k : Int) + 1))).setCell ⟨G, 2, none⟩ (.slice A m m)) Hb G bl v' (k + 1) ∧ Turn (fun b => b = G) w ((w.setCell ⟨G, 9, none⟩ (.int .i64 ((k : Int) + 1))).setCell ⟨G, 2, none⟩ (.slice A m m)) := fun A hA => by
    have t1 : Turn (fun b => b = G) w ((w.setCell ⟨G, 9, none⟩ (.int .i64 ((k : Int) + 1))).setCell ⟨G, 2, none⟩ (.slice A m m)) := turnAt _ _ (turnAt _ _ (Turn.refl _ w))
    have e : bl.length - (k + 1) = m := by omega
    refine ⟨.slice A m m, (H.out.put 9 _).put 2 _, ⟨B, A, by rw [e], fun h => ?_, (e3.turn t1).later (Nat.le_succ k)⟩, t1⟩
    rw [hA (by omega), Nat.add_mul]
  have FIN := keepHid fin
  clear fin e3
  go_enter Try.func55, Try.ntmps55
  go_wp2
  · refine bodyPost_end (results_none rfl _ _ _) rfl ?_
    obtain rfl : m = 0 := by omega
    exact ⟨rfl, FIN.out _ (fun h => absurd h (by omega))⟩
  · refine bodyPost_end (results_none rfl _ _ _) rfl ?_
    exact ⟨rfl, FIN.out _ (fun h => rfl)⟩
theorem take_no {G : Nat} {T W : Nat} {cl : Bool} {s : Sd} {v : Value} {w : World} (h : Blk w G 68 (sndC T W cl v s)) (hp : s.ph ≠ 1) :
    Calls Try.prog 55 #[.pointer (some ⟨G, 0, none⟩)] w fun e w' => e = .returned (.tuple #[]) ∧ w = w' := by
  obtain ⟨ph, k, crc, err, tries, wait, can⟩ := s
  simp only at hp
  have c5 : w.cell? ⟨G, 5, none⟩ = some (.int .i64 (ph : Int)) := h.cell 5
  have q1 : ((ph : Int) == 1) = false := by simp; omega
  clear h
  go_enter Try.func55, Try.ntmps55
  go_wp2
  refine bodyPost_end (results_none rfl _ _ _) rfl ?_
  exact ⟨rfl, rfl⟩

def beginS (bl : Bks) (W : Nat) (cl : Bool) (s : Sd) (c : UInt8) : List UInt8 × Sd := if c = 21 ∨ c = 67 ∧ s.crc = true then goS bl W cl { s with crc := c == 67 } else ([], s)
set_option maxHeartbeats 4000000 in
theorem begin_any {Hb G : Nat} {bl : Bks} {T W : Nat} {cl : Bool} {s : Sd} {v : Value} {w : World} (h : Blk w G 68 (sndC T W cl v s)) (hl : LeftV w Hb G bl v s.k) (hp : s.ph = 0) (c : UInt8) :
    Calls Try.prog 54 #[.pointer (some ⟨G, 0, none⟩), .int .u8 (c.toNat : Int)] w (SendPost Hb G bl T W cl (beginS bl W cl s c) w) := by
  obtain ⟨ph, k, crc, err, tries, wait, can⟩ := s
  simp only at hp hl
  subst hp
  have c3 : w.cell? ⟨G, 3, none⟩ = some (.bool crc) := h.cell 3
  have hf := h.frozen
  have H := keepHid h
  have HL := keepHid hl
  clear h hl
  have HPR : Hid (∀ b, Calls Try.prog 56 #[.pointer (some ⟨G, 0, none⟩)] (w.setCell ⟨G, 3, none⟩ (.bool b)) (SendPost Hb G bl T W cl (goS bl W cl ⟨0, k, b, err, tries, wait, can⟩) w)) := keepHid (fun b => by
    have t1 := turnAt (G := G) 3 (.bool b) (Turn.refl _ w)
    refine (proceed_any (s := ⟨0, k, b, err, tries, wait, can⟩) (H.out.put 3 _) (HL.out.turn t1) (by simp)).mono ?_
    exact fun _ _ h => h.of t1)
  unfold beginS
  by_cases h21 : c = 21
  · subst h21
    rw [if_pos (.inl rfl)]
    show Calls _ _ #[_, .int .u8 21] _ _
    go_enter Try.func54, Try.ntmps54
    go_wp2_with fail
    (with_reducible refine (HPR.out _).mono ?_)
    rintro e w6 hp6
    obtain ⟨A6, c6, v6, rfl, hp6⟩ := hp6
    have HP := keepHid hp6
    clear hp6
    go_wp2
    go_ret
    exact ⟨A6, c6, v6, rfl, HP.out⟩
  · by_cases h67 : c = 67
    · subst h67
      cases crc
      · rw [if_neg (by simp)]
        have hfin : SendPost Hb G bl T W cl ([], ⟨0, k, false, err, tries, wait, can⟩) w (.returned (.slice none 0 0)) w := SendPost.none_ (Turn.refl _ w) H.out (fun _ => HL.out)
        have HFIN := keepHid hfin
        clear hfin
        show Calls _ _ #[_, .int .u8 67] _ _
        go_enter Try.func54, Try.ntmps54
        go_wp2
        go_ret
        exact HFIN.out
      · rw [if_pos (.inr ⟨rfl, rfl⟩)]
        show Calls _ _ #[_, .int .u8 67] _ _
        go_enter Try.func54, Try.ntmps54
        go_wp2_with fail
        (with_reducible refine (HPR.out _).mono ?_)
        rintro e w6 hp6
        obtain ⟨A6, c6, v6, rfl, hp6⟩ := hp6
        have HP := keepHid hp6
        clear hp6
        go_wp2
        go_ret
        exact ⟨A6, c6, v6, rfl, HP.out⟩
    · rw [if_neg (fun h => h.elim h21 (fun h => h67 h.1))]
      have hfin : SendPost Hb G bl T W cl ([], ⟨0, k, crc, err, tries, wait, can⟩) w (.returned (.slice none 0 0)) w := SendPost.none_ (Turn.refl _ w) H.out (fun _ => HL.out)
      have HFIN := keepHid hfin
      have q1 : ((c.toNat : Int) == 21) = false := u8_ne h21
      have q2 : ((c.toNat : Int) != 21) = true := by rw [bne, q1]; rfl
      have q3 : ((c.toNat : Int) == 67) = false := u8_ne h67
      clear hfin
      generalize c.toNat = cn at *
      go_enter Try.func54, Try.ntmps54
      go_wp2
      go_ret
      exact HFIN.out

theorem putS_over {bl : Bks} {T W : Nat} {cl : Bool} {s : Sd} {c : UInt8} (h : s.ph = 3) : putS bl T W cl s c = ([], { s with can := c == 24 }) := if_pos h
theorem putS_cancel {bl : Bks} {T W : Nat} {cl : Bool} {s : Sd} (h : s.ph ≠ 3) (h2 : s.can = true) : putS bl T W cl s 24 = ([], { s with ph := 3, err := 9, can := true }) := by
  unfold putS; rw [if_neg h, if_pos ⟨h2, rfl⟩]; rfl
theorem putS_begin {bl : Bks} {T W : Nat} {cl : Bool} {s : Sd} {c : UInt8} (h : s.ph = 0) (h2 : ¬ (s.can = true ∧ c = 24)) : putS bl T W cl s c = beginS bl W cl { s with can := c == 24 } c := by
  unfold putS; rw [if_neg (by omega), if_neg h2, if_pos h]; rfl
theorem putS_ack {bl : Bks} {T W : Nat} {cl : Bool} {s : Sd} (h : s.ph ≠ 3) (h2 : s.ph ≠ 0) : putS bl T W cl s 6 = goS bl W cl { s with k := if s.ph = 1 then s.k + 1 else s.k, can := false } := by
  unfold putS; rw [if_neg h, if_neg (by simp), if_neg h2, if_pos rfl]; rfl
theorem putS_nak {bl : Bks} {T W : Nat} {cl : Bool} {s : Sd} (h : s.ph ≠ 3) (h2 : s.ph ≠ 0) : putS bl T W cl s 21 = againS bl T W { s with can := false } := by
  unfold putS; rw [if_neg h, if_neg (by simp), if_neg h2, if_neg (by decide), if_pos rfl]; rfl
theorem putS_other {bl : Bks} {T W : Nat} {cl : Bool} {s : Sd} {c : UInt8} (h : s.ph ≠ 3) (h2 : s.ph ≠ 0) (h3 : ¬ (s.can = true ∧ c = 24)) (h6 : c ≠ 6) (h21 : c ≠ 21) : putS bl T W cl s c = ([], { s with can := c == 24 }) := by
  unfold putS; rw [if_neg h, if_neg h3, if_neg h2, if_neg h6, if_neg h21]

set_option maxRecDepth 100000 in
set_option maxHeartbeats 8000000 in
theorem put_any {Hb G : Nat} {bl : Bks} {T W : Nat} {cl : Bool} {s : Sd} {v : Value} {w : World} (h : Blk w G 68 (sndC T W cl v s)) (hl : s.ph < 3 → LeftV w Hb G bl v s.k) (ok : Ok bl T W s) (hT : T ≤ 9) (hn : bl.length ≤ 8796093022208) (c : UInt8) :
    Calls Try.prog 42 #[.pointer (some ⟨G, 0, none⟩), .int .u8 (c.toNat : Int)] w (SendPost Hb G bl T W cl (putS bl T W cl s c) w) := by
  obtain ⟨ph, k, crc, err, tries, wait, can⟩ := s
  obtain ⟨o1, o2, o3, o4, o5, o6, o7, o8, o9⟩ := ok
  simp only at o1 o2 o3 o4 o5 o6 o7 o8 o9 hl
  have hcc : (c = 24 ∧ can = true) ∨ (c = 24 ∧ can = false) ∨ (c ≠ 24) := by
    by_cases h24 : c = 24
    · cases can
      · exact .inr (.inl ⟨h24, rfl⟩)
      · exact .inl ⟨h24, rfl⟩
    · exact .inr (.inr h24)
  have c5 : w.cell? ⟨G, 5, none⟩ = some (.int .i64 (ph : Int)) := h.cell 5
  have c10 : w.cell? ⟨G, 10, none⟩ = some (.bool can) := h.cell 10
  have hf := h.frozen
  have t1 : ∀ b, Turn (fun b => b = G) w (w.setCell ⟨G, 10, none⟩ (.bool b)) := fun b => turnAt _ _ (Turn.refl _ w)
  have hk1 : ∀ b, Blk (w.setCell ⟨G, 10, none⟩ (.bool b)) G 68 (sndC T W cl v ⟨ph, k, crc, err, tries, wait, b⟩) := fun b => h.put 10 _
  have hl1 : ∀ b, ph < 3 → LeftV (w.setCell ⟨G, 10, none⟩ (.bool b)) Hb G bl v k := fun b h => (hl h).turn (t1 b)
  have T1 := keepHid t1
  have K1 := keepHid hk1
  have L1 := keepHid hl1
  clear h hl t1 hk1 hl1
  have hnone : ∀ b, SendPost Hb G bl T W cl ([], ⟨ph, k, crc, err, tries, wait, b⟩) w (.returned (.slice none 0 0)) (w.setCell ⟨G, 10, none⟩ (.bool b)) := fun b => SendPost.none_ (T1.out b) (K1.out b) (L1.out b)
  have NONE := keepHid hnone
  clear hnone
  by_cases h3 : ph = 3
  · subst h3
    rw [putS_over (s := ⟨3, k, crc, err, tries, wait, can⟩) rfl]
    rcases hcc with ⟨rfl, rfl⟩ | ⟨rfl, rfl⟩ | hne
    · show Calls _ _ #[_, .int .u8 24] _ _
      go_enter Try.func42, Try.ntmps42
      go_wp2
      go_ret
      exact NONE.out _
    · show Calls _ _ #[_, .int .u8 24] _ _
      go_enter Try.func42, Try.ntmps42
      go_wp2
      go_ret
      exact NONE.out _
    · have q1 : ((c.toNat : Int) == 24) = false := u8_ne hne
      rw [show (c == 24) = false by simp [hne]]
      generalize c.toNat = cn at *
      cases can
      all_goals
        go_enter Try.func42, Try.ntmps42
        go_wp2
        go_ret
        exact NONE.out _
  have hp : ph < 3 := by omega
  have q3 : ((ph : Int) == 3) = false := by simp; omega
  by_cases hcan : can = true ∧ c = 24
  · obtain ⟨rfl, rfl⟩ := hcan
    rw [putS_cancel (s := ⟨ph, k, crc, err, tries, wait, true⟩) h3 rfl]
    have HST : Hid (Calls Try.prog 53 #[.pointer (some ⟨G, 0, none⟩), .iface 76 (.int .i64 9)] (w.setCell ⟨G, 10, none⟩ (.bool true)) fun r w6 => r = .returned (.tuple #[]) ∧
        SendPost Hb G bl T W cl ([], ⟨3, k, crc, 9, tries, wait, true⟩) w (.returned (.slice none 0 0)) w6) := keepHid (by
      refine (stop_any _ (.inr ⟨_, _, rfl⟩) (K1.out true)).mono ?_
      rintro r w6 ⟨e1, e2, e3⟩
      exact ⟨e1, SendPost.none_ ((T1.out true).trans e3) e2 (fun h => absurd h (by simp))⟩)
    show Calls _ _ #[_, .int .u8 24] _ _
    go_enter Try.func42, Try.ntmps42
    go_wp2_with fail
    (with_reducible refine HST.out.mono ?_)
    rintro r w6 ⟨rfl, hp6⟩
    have HP := keepHid hp6
    clear hp6
    go_wp2
    go_ret
    exact HP.out
  by_cases h0 : ph = 0
  · subst h0
    rw [putS_begin (s := ⟨0, k, crc, err, tries, wait, can⟩) rfl hcan]
    have HBG : Hid (∀ b, Calls Try.prog 54 #[.pointer (some ⟨G, 0, none⟩), .int .u8 (c.toNat : Int)] (w.setCell ⟨G, 10, none⟩ (.bool b)) (SendPost Hb G bl T W cl (beginS bl W cl ⟨0, k, crc, err, tries, wait, b⟩ c) w)) := keepHid (fun b => by
      refine (begin_any (s := ⟨0, k, crc, err, tries, wait, b⟩) (K1.out b) (L1.out b (by omega)) rfl c).mono ?_
      exact fun _ _ h => h.of (T1.out b))
    rcases hcc with ⟨rfl, rfl⟩ | ⟨rfl, rfl⟩ | hne
    · exact absurd ⟨rfl, rfl⟩ hcan
    · show Calls _ _ #[_, .int .u8 24] _ _
      have HBG' : Hid (Calls Try.prog 54 #[.pointer (some ⟨G, 0, none⟩), .int .u8 24] (w.setCell ⟨G, 10, none⟩ (.bool true)) (SendPost Hb G bl T W cl (beginS bl W cl ⟨0, k, crc, err, tries, wait, true⟩ 24) w)) := keepHid (HBG.out true)
      go_enter Try.func42, Try.ntmps42
      go_wp2_with fail
      (with_reducible refine HBG'.out.mono ?_)
      rintro e w6 hp6
      obtain ⟨A6, c6, v6, rfl, hp6⟩ := hp6
      have HP := keepHid hp6
      clear hp6
      go_wp2
      go_ret
      exact ⟨A6, c6, v6, rfl, HP.out⟩
    · have q1 : ((c.toNat : Int) == 24) = false := u8_ne hne
      rw [show (c == 24) = false by simp [hne]]
      show Calls _ _ _ _ (SendPost Hb G bl T W cl (beginS bl W cl ⟨0, k, crc, err, tries, wait, false⟩ c) w)
      have HBG' := keepHid (HBG.out false)
      clear HBG
      generalize beginS bl W cl ⟨0, k, crc, err, tries, wait, false⟩ c = r at HBG' ⊢
      generalize c.toNat = cn at *
      cases can
      all_goals
        go_enter Try.func42, Try.ntmps42
        go_wp2_with fail
        (with_reducible refine HBG'.out.mono ?_)
        rintro e w6 hp6
        obtain ⟨A6, c6, v6, rfl, hp6⟩ := hp6
        have HP := keepHid hp6
        clear hp6
        go_wp2
        go_ret
        exact ⟨A6, c6, v6, rfl, HP.out⟩
  have q0 : ((ph : Int) == 0) = false := by simp; omega
  by_cases h6 : c = 6
  · subst h6
    rw [putS_ack (s := ⟨ph, k, crc, err, tries, wait, can⟩) h3 h0]
    have HTK : Hid (Calls Try.prog 55 #[.pointer (some ⟨G, 0, none⟩)] (w.setCell ⟨G, 10, none⟩ (.bool false)) fun e w' => e = .returned (.tuple #[]) ∧
        Calls Try.prog 56 #[.pointer (some ⟨G, 0, none⟩)] w' (SendPost Hb G bl T W cl (goS bl W cl ⟨ph, if ph = 1 then k + 1 else k, crc, err, tries, wait, false⟩) w)) := keepHid (by
      by_cases h1 : ph = 1
      · subst h1
        refine (take_one (s := ⟨1, k, crc, err, tries, wait, false⟩) (K1.out false) (L1.out false (by omega)) rfl (o3 rfl) hn).mono ?_
        rintro e w' ⟨rfl, v', e1, e2, e3⟩
        refine ⟨rfl, (proceed_any (s := ⟨1, k + 1, crc, err, tries, wait, false⟩) e1 e2 (by simp)).mono ?_⟩
        exact fun _ _ h => h.of ((T1.out false).trans e3)
      · refine (take_no (s := ⟨ph, k, crc, err, tries, wait, false⟩) (K1.out false) h1).mono ?_
        rintro e w' ⟨rfl, rfl⟩
        rw [if_neg h1]
        refine ⟨rfl, (proceed_any (s := ⟨ph, k, crc, err, tries, wait, false⟩) (K1.out false) (L1.out false hp) hp).mono ?_⟩
        exact fun _ _ h => h.of (T1.out false))
    show Calls _ _ #[_, .int .u8 6] _ (SendPost Hb G bl T W cl (goS bl W cl ⟨ph, if ph = 1 then k + 1 else k, crc, err, tries, wait, false⟩) w)
    generalize goS bl W cl ⟨ph, if ph = 1 then k + 1 else k, crc, err, tries, wait, false⟩ = r at HTK ⊢
    cases can
    all_goals
      go_enter Try.func42, Try.ntmps42
      go_wp2_with fail
      (with_reducible refine HTK.out.mono ?_)
      rintro r w5 ⟨rfl, hs5⟩
      have HS5 := keepHid hs5
      clear hs5
      go_wp2_with fail
      (with_reducible refine HS5.out.mono ?_)
      rintro e w6 hp6
      obtain ⟨A6, c6, v6, rfl, hp6⟩ := hp6
      have HP := keepHid hp6
      clear hp6
      go_wp2
      go_ret
      exact ⟨A6, c6, v6, rfl, HP.out⟩
  by_cases h21 : c = 21
  · subst h21
    rw [putS_nak (s := ⟨ph, k, crc, err, tries, wait, can⟩) h3 h0]
    have HAG : Hid (Calls Try.prog 52 #[.pointer (some ⟨G, 0, none⟩)] (w.setCell ⟨G, 10, none⟩ (.bool false)) (SendPost Hb G bl T W cl (againS bl T W ⟨ph, k, crc, err, tries, wait, false⟩) w)) := keepHid (by
      refine (again_any (s := ⟨ph, k, crc, err, tries, wait, false⟩) (K1.out false) (L1.out false) o3 o1 hT o5).mono ?_
      exact fun _ _ h => h.of (T1.out false))
    show Calls _ _ #[_, .int .u8 21] _ (SendPost Hb G bl T W cl (againS bl T W ⟨ph, k, crc, err, tries, wait, false⟩) w)
    generalize againS bl T W ⟨ph, k, crc, err, tries, wait, false⟩ = r at HAG ⊢
    cases can
    all_goals
      go_enter Try.func42, Try.ntmps42
      go_wp2_with fail
      (with_reducible refine HAG.out.mono ?_)
      rintro e w6 hp6
      obtain ⟨A6, c6, v6, rfl, hp6⟩ := hp6
      have HP := keepHid hp6
      clear hp6
      go_wp2
      go_ret
      exact ⟨A6, c6, v6, rfl, HP.out⟩
  rw [putS_other (s := ⟨ph, k, crc, err, tries, wait, can⟩) h3 h0 hcan h6 h21]
  rcases hcc with ⟨rfl, rfl⟩ | ⟨rfl, rfl⟩ | hne
  · exact absurd ⟨rfl, rfl⟩ hcan
  · show Calls _ _ #[_, .int .u8 24] _ _
    go_enter Try.func42, Try.ntmps42
    go_wp2
    go_ret
    exact NONE.out _
  · have q1 : ((c.toNat : Int) == 24) = false := u8_ne hne
    have q6 : ((c.toNat : Int) == 6) = false := u8_ne h6
    have q21 : ((c.toNat : Int) == 21) = false := u8_ne h21
    rw [show (c == 24) = false by simp [hne]]
    generalize c.toNat = cn at *
    cases can
    all_goals
      go_enter Try.func42, Try.ntmps42
      go_wp2
      go_ret
      exact NONE.out _

set_option maxRecDepth 100000 in
set_option maxHeartbeats 4000000 in
theorem tick_any {Hb G : Nat} {bl : Bks} {T W : Nat} {cl : Bool} {s : Sd} {v : Value} {w : World} (h : Blk w G 68 (sndC T W cl v s)) (hl : s.ph < 3 → LeftV w Hb G bl v s.k) (ok : Ok bl T W s) (hT : T ≤ 9) (hW : W ≤ 99) :
    Calls Try.prog 41 #[.pointer (some ⟨G, 0, none⟩)] w (SendPost Hb G bl T W cl (tickS bl T W s) w) := by
  obtain ⟨ph, k, crc, err, tries, wait, can⟩ := s
  obtain ⟨o1, o2, o3, o4, o5, o6, o7, o8, o9⟩ := ok
  simp only at o1 o2 o3 o4 o5 o6 o7 o8 o9 hl
  have c5 : w.cell? ⟨G, 5, none⟩ = some (.int .i64 (ph : Int)) := h.cell 5
  have c8 : w.cell? ⟨G, 8, none⟩ = some (.int .i64 (wait : Int)) := h.cell 8
  have hf := h.frozen
  have H := keepHid h
  have HL := keepHid hl
  unfold tickS
  by_cases h3 : ph = 3
  · subst h3
    rw [if_pos rfl]
    have hfin : SendPost Hb G bl T W cl ([], ⟨3, k, crc, err, tries, wait, can⟩) w (.returned (.slice none 0 0)) w := SendPost.none_ (Turn.refl _ w) h hl
    have HFIN := keepHid hfin
    clear hfin h hl
    go_enter Try.func41, Try.ntmps41
    go_wp2
    go_ret
    exact HFIN.out
  have q3 : ((ph : Int) == 3) = false := by simp; omega
  rw [if_neg h3]
  have hw1 : 1 ≤ wait := o9 h3
  have hz : ∃ u : Nat, wait - 1 = u ∧ ((1 < wait ∧ (wait : Int) - 1 = (u : Int) ∧ 0 < u) ∨ (wait = 1 ∧ u = 0) ∨ (wait = 0 ∧ u = 0)) := ⟨wait - 1, rfl, by omega⟩
  obtain ⟨u, hu, hz⟩ := hz
  clear h hl
  have t1 : ∀ z, Turn (fun b => b = G) w (w.setCell ⟨G, 8, none⟩ z) := fun z => turnAt _ _ (Turn.refl _ w)
  rcases hz with ⟨h1, hi, h0⟩ | ⟨rfl, rfl⟩ | ⟨rfl, rfl⟩
  · rw [if_pos h1]
    show Calls _ _ _ _ (SendPost Hb G bl T W cl ([], ⟨ph, k, crc, err, tries, wait - 1, can⟩) w)
    rw [hu]
    have hfin : SendPost Hb G bl T W cl ([], ⟨ph, k, crc, err, tries, u, can⟩) w (.returned (.slice none 0 0)) (w.setCell ⟨G, 8, none⟩ (.int .i64 (u : Int))) := SendPost.none_ (t1 _) (H.out.put 8 _) (fun h => (HL.out h).turn (t1 _))
    have HFIN := keepHid hfin
    have i1 : (0 : Int) < (u : Int) := by omega
    have i2 : (u : Int) ≤ 99 := by omega
    clear hfin t1 hu h1
    go_enter Try.func41, Try.ntmps41
    go_wp2
    go_ret
    exact HFIN.out
  · rw [if_neg (by show ¬ 1 < 1; omega)]
    have HAG : Hid (Calls Try.prog 52 #[.pointer (some ⟨G, 0, none⟩)] (w.setCell ⟨G, 8, none⟩ (.int .i64 0)) (SendPost Hb G bl T W cl (againS bl T W ⟨ph, k, crc, err, tries, 0, can⟩) w)) := keepHid (by
      refine (again_any (s := ⟨ph, k, crc, err, tries, 0, can⟩) (H.out.put 8 _) (fun h => (HL.out h).turn (t1 _)) o3 o1 hT o5).mono ?_
      exact fun _ _ h => h.of (t1 _))
    show Calls _ _ _ _ (SendPost Hb G bl T W cl (againS bl T W ⟨ph, k, crc, err, tries, 0, can⟩) w)
    generalize againS bl T W ⟨ph, k, crc, err, tries, 0, can⟩ = r at HAG ⊢
    clear t1
    go_enter Try.func41, Try.ntmps41
    go_wp2_with fail
    (with_reducible refine HAG.out.mono ?_)
    rintro e w6 hp6
    obtain ⟨A6, c6, v6, rfl, hp6⟩ := hp6
    have HP := keepHid hp6
    clear hp6
    go_wp2
    go_ret
    exact ⟨A6, c6, v6, rfl, HP.out⟩
  · exact absurd hw1 (by omega)
theorem done_any {G : Nat} {T W : Nat} {cl : Bool} {s : Sd} {v : Value} {w : World} (h : Blk w G 68 (sndC T W cl v s)) :
    Calls Try.prog 39 #[.pointer (some ⟨G, 0, none⟩)] w fun e w' => e = .returned (.tuple #[.bool (s.ph == 3), errV s.err]) ∧ w' = w.drew := by
  obtain ⟨ph, k, crc, err, tries, wait, can⟩ := s
  have c5 : w.cell? ⟨G, 5, none⟩ = some (.int .i64 (ph : Int)) := h.cell 5
  have c6 : w.cell? ⟨G, 6, none⟩ = some (errV err) := h.cell 6
  have q : ((ph : Int) == 3) = (ph == 3) := by rw [Bool.eq_iff_iff]; simp; omega
  clear h
  rcases errV_or err with e | ⟨t, u, e⟩
  all_goals
    rw [e] at c6 ⊢
    go_enter Try.func39, Try.ntmps39
    go_upto_region 1 with fail
    go_region
    go_wp2
    go_ret2
    exact ⟨rfl, rfl⟩
end Go.Proofs.Ytjbkhaoddababaa
