/-
  A sender in memory; what 'stop' and 'send' do to it.
-/
import Derived.Test.YtgdjopiejmdbnaaGreatDoorSenderPlain
import Derived.Test.YtgdjopiejmdbnaaGreatDoorBlockSize
import Derived.Test.YtgdjopiejmdbnaaGreatDoorSmall
import Derived.LoopTactic
import Derived.RegionTactic
import Derived.Deep.DeepCutAuto
import Derived.Deep.RegionWith
import Derived.Deep.RegionHeld3
import Derived.Deep.DrawnRows
import Derived.Handy
namespace Go.Proofs.YtgdjopiejmdbnaaGreatDoor
open Go.RowKit
set_option linter.unusedVariables false

/-- The blocks from k on lie in the row of structs in block B, and nothing of them in block G; all of it below Hb. -/
structure Bl (w : World) (Hb G B k : Nat) (bl : Bks) : Prop where
  ne : B ≠ G
  lt : B < Hb
  le : Hb ≤ w.heap.size
  at_ : ∀ (j : Nat) (p : UInt8 × List UInt8), k ≤ j → bl[j]? = some p → ∃ A c, w.cell? ⟨B, j * 2, none⟩ = some (.int .u8 (p.1.toNat : Int)) ∧ w.cell? ⟨B, j * 2 + 1, none⟩ = some (.slice A p.2.length c) ∧ Bys w Hb A p.2.length p.2 ∧
    Apart (fun b => b = G) A p.2.length
theorem Bl.turns {S : Nat → Prop} {w w' : World} {Hb G B k : Nat} {bl : Bks} (h : Bl w Hb G B k bl) (ht : Turn S w w') (hS : ∀ i, S i → i = G ∨ Hb ≤ i) : Bl w' Hb G B k bl :=
  ⟨h.ne, h.lt, Nat.le_trans h.le ht.size, fun j p hj hp => by
    obtain ⟨A, c, e1, e2, e3, e4⟩ := h.at_ j p hj hp
    have hb := ht.block B (Nat.lt_of_lt_of_le h.lt h.le) (fun hs => by
      have := h.ne
      have := h.lt
      rcases hS B hs with h1 | h1 <;> omega)
    refine ⟨A, c, (World.cell?_of_block (a := ⟨B, j * 2, none⟩) hb).trans e1, (World.cell?_of_block (a := ⟨B, j * 2 + 1, none⟩) hb).trans e2, e3.turn ht h.le (fun hn ad e hs => ?_), e4⟩
    obtain ⟨ad', _, e', hlt, _⟩ := e3.at_ hn
    rw [e] at e'
    obtain rfl := Option.some.inj e'
    rcases hS _ hs with h1 | h1
    · exact e4 hn ad e h1
    · omega⟩
theorem Bl.turn {w w' : World} {Hb G B k : Nat} {bl : Bks} (h : Bl w Hb G B k bl) (ht : Turn (fun b => b = G) w w') : Bl w' Hb G B k bl := h.turns ht (fun i hi => .inl hi)
theorem Bl.later {w : World} {Hb G B k k' : Nat} {bl : Bks} (h : Bl w Hb G B k bl) (hk : k ≤ k') : Bl w Hb G B k' bl := ⟨h.ne, h.lt, h.le, fun j p hj hp => h.at_ j p (Nat.le_trans hk hj) hp⟩
/-- The slice of the blocks that are left. -/
def LeftV (w : World) (Hb G : Nat) (bl : Bks) (v : Value) (k : Nat) : Prop :=
  ∃ B A, v = .slice A (bl.length - k) (bl.length - k) ∧ (k < bl.length → A = some ⟨B, k * 2, none⟩) ∧ Bl w Hb G B k bl
theorem LeftV.turns {S : Nat → Prop} {w w' : World} {Hb G k : Nat} {bl : Bks} {v : Value} (h : LeftV w Hb G bl v k) (ht : Turn S w w') (hS : ∀ i, S i → i = G ∨ Hb ≤ i) : LeftV w' Hb G bl v k := by
  obtain ⟨B, A, e1, e2, e3⟩ := h
  exact ⟨B, A, e1, e2, e3.turns ht hS⟩
theorem LeftV.turn {w w' : World} {Hb G k : Nat} {bl : Bks} {v : Value} (h : LeftV w Hb G bl v k) (ht : Turn (fun b => b = G) w w') : LeftV w' Hb G bl v k := h.turns ht (fun i hi => .inl hi)
/-- A sender's cells. -/
def sndC (T W : Nat) (cl : Bool) (v : Value) (s : Sd) : Array Value :=
  #[.int .i64 (T : Int), .int .i64 (W : Int), v, .bool s.crc, .bool cl, .int .i64 (s.ph : Int), errV s.err, .int .i64 (s.tries : Int), .int .i64 (s.wait : Int), .int .i64 (s.k : Int), .bool s.can]
/-- What a call of a sender's leaves: what is sent, in a row of its own, and where the sender is then. -/
def SendPost (Hb G : Nat) (bl : Bks) (T W : Nat) (cl : Bool) (r : List UInt8 × Sd) (w : World) (e : Ending) (w' : World) : Prop :=
  ∃ A c v', e = .returned (.slice A r.1.length c) ∧ OwnB w' w.heap.size 5 (.slice A r.1.length c) r.1.length r.1 ∧ r.1.length ≤ c ∧ c ≤ 9223372036854775807 ∧ Turn (fun b => b = G) w w' ∧
    Blk w' G 113 (sndC T W cl v' r.2) ∧ (r.2.ph < 3 → LeftV w' Hb G bl v' r.2.k)
theorem SendPost.of {Hb G : Nat} {bl : Bks} {T W : Nat} {cl : Bool} {r : List UInt8 × Sd} {w w1 w' : World} {e : Ending} (ht : Turn (fun b => b = G) w w1) (h : SendPost Hb G bl T W cl r w1 e w') : SendPost Hb G bl T W cl r w e w' := by
  obtain ⟨A, c, v', e1, e2, e3, e4, e5, e6⟩ := h
  exact ⟨A, c, v', e1, own_lower e2 ht.size, e3, e4, ht.trans e5, e6⟩
theorem SendPost.none_ {Hb G : Nat} {bl : Bks} {T W : Nat} {cl : Bool} {s : Sd} {w w' : World} {v' : Value} (ht : Turn (fun b => b = G) w w') (hb : Blk w' G 113 (sndC T W cl v' s)) (hl : s.ph < 3 → LeftV w' Hb G bl v' s.k) :
    SendPost Hb G bl T W cl ([], s) w (.returned (.slice none 0 0)) w' := ⟨none, 0, v', rfl, World.ownsRow_nil _ _ _ _, Nat.le_refl _, by omega, ht, hb, hl⟩

theorem stop_any {G : Nat} {w : World} {c0 c1 c2 c3 c4 c5 c6 c7 c8 c9 c10 : Value} (e : Value) (he : e = .nilIface ∨ ∃ t u, e = .iface t u) (h : Blk w G 113 #[c0, c1, c2, c3, c4, c5, c6, c7, c8, c9, c10]) :
    Calls Tryz.prog 72 #[.pointer (some ⟨G, 0, none⟩), e] w fun r w' => r = .returned (.tuple #[]) ∧ Blk w' G 113 #[c0, c1, .slice none 0 0, c3, c4, .int .i64 3, e, c7, c8, c9, c10] ∧
      Turn (fun b => b = G) w w' := by
  have h2 : w.cell? ⟨G, 2, none⟩ = some c2 := h.cell 2
  have h5 : w.cell? ⟨G, 5, none⟩ = some c5 := h.cell 5
  have h6 : w.cell? ⟨G, 6, none⟩ = some c6 := h.cell 6
  have hf := h.frozen
  rcases he with rfl | ⟨t, u, rfl⟩
  all_goals
    go_enter Tryz.func72, Tryz.ntmps72
    go_wp2
    refine bodyPost_end (results_none rfl _ _ _) rfl ?_
    exact ⟨rfl, ((h.put 5 _).put 6 _).put 2 _, turnAt _ _ (turnAt _ _ (turnAt _ _ (Turn.refl _ w)))⟩

theorem sendS_enc {bl : Bks} {s : Sd} {num : UInt8} {d : List UInt8} (h : s.ph = 1) (hk : bl[s.k]? = some (num, d)) (ho : encOk d = true) : sendS bl s = (enc num d s.crc, s) := by unfold sendS; rw [if_pos h, hk]; simp [ho]
theorem sendS_bad {bl : Bks} {s : Sd} {num : UInt8} {d : List UInt8} (h : s.ph = 1) (hk : bl[s.k]? = some (num, d)) (ho : ¬ encOk d = true) : sendS bl s = ([], { s with ph := 3, err := 14 }) := by unfold sendS; rw [if_pos h, hk]; simp [ho]
theorem sendS_end {bl : Bks} {s : Sd} (h : s.ph = 2) : sendS bl s = ([4], s) := by unfold sendS; rw [if_neg (by omega), if_pos h]
theorem sendS_no {bl : Bks} {s : Sd} (h : s.ph ≠ 1) (h2 : s.ph ≠ 2) : sendS bl s = ([], s) := by unfold sendS; rw [if_neg h, if_neg h2]
set_option maxRecDepth 100000 in
set_option maxHeartbeats 4000000 in
theorem send_any {Hb G : Nat} {bl : Bks} {T W : Nat} {cl : Bool} {s : Sd} {v : Value} {w : World} (h : Blk w G 113 (sndC T W cl v s)) (hl : s.ph < 3 → LeftV w Hb G bl v s.k) (h1 : s.ph = 1 → s.k < bl.length) (hp : s.ph ≤ 3) :
    Calls Tryz.prog 97 #[.pointer (some ⟨G, 0, none⟩)] w (SendPost Hb G bl T W cl (sendS bl s) w) := by
  obtain ⟨ph, k, crc, err, tries, wait, can⟩ := s
  have h2 : w.cell? ⟨G, 2, none⟩ = some v := h.cell 2
  have h3 : w.cell? ⟨G, 3, none⟩ = some (.bool crc) := h.cell 3
  have h5 : w.cell? ⟨G, 5, none⟩ = some (.int .i64 (ph : Int)) := h.cell 5
  have H := keepHid h
  have HL := keepHid hl
  rcases (by simp at hp; omega : ph = 1 ∨ ph = 2 ∨ (ph ≠ 1 ∧ ph ≠ 2)) with rfl | rfl | ⟨n1, n2⟩
  · have hk : k < bl.length := h1 rfl
    obtain ⟨p, hpk⟩ : ∃ p, bl[k]? = some p := ⟨_, List.getElem?_eq_getElem hk⟩
    obtain ⟨B, A, e1, e2, e3⟩ := hl (by simp)
    obtain rfl := e2 hk
    obtain ⟨Ap, c, f1, f2, f3, f4⟩ := e3.at_ k p (Nat.le_refl _) hpk
    obtain ⟨num, d⟩ := p
    obtain ⟨m, hm⟩ : ∃ m, bl.length - k = m := ⟨_, rfl⟩
    have hm0 : 0 < m := by omega
    simp only [] at e1 f1 f2 f3 f4 hm
    rw [hm] at e1
    subst e1
    have hd := f3.max
    have F3 := keepHid (f3.more e3.le)
    obtain ⟨n, hn⟩ : ∃ n, d.length = n := ⟨_, rfl⟩
    rw [hn] at f2 hd
    have HN := keepHid hn
    have HK := keepHid hpk
    have HD : Hid (Below w.heap.size w w.drew) := keepHid (Below.drew (Below.refl _ _))
    clear h hl h1 e2 f3 f4 hpk hn hm e3
    by_cases hok : encOk d = true
    · have hnn : n = 128 ∨ n = 1024 := by rw [← HN.out]; simpa [encOk] using hok
      rw [sendS_enc (s := ⟨1, k, crc, err, tries, wait, can⟩) rfl HK.out hok]
      have HMK : Hid (∀ w', Below w.heap.size w w' → Calls Tryz.prog 32 #[.agg #[.int .u8 (num.toNat : Int), .slice Ap n c], .bool crc] w' (MakePost w' (enc num d crc))) := keepHid (fun w' hb => make_any num Ap n c w.heap.size d crc hnn w' (by rw [← HN.out]; exact F3.out.below hb) hb.size)
      have HFIN : Hid (∀ w5 A5 c5, OwnB w5 w.drew.heap.size 5 (.slice A5 (enc num d crc).length c5) (enc num d crc).length (enc num d crc) → (enc num d crc).length ≤ c5 → c5 ≤ 9223372036854775807 → Below w.drew.heap.size w.drew w5 →
          SendPost Hb G bl T W cl (enc num d crc, ⟨1, k, crc, err, tries, wait, can⟩) w (.returned (.slice A5 (enc num d crc).length c5)) w5) := keepHid (fun w5 A5 c5 ho hc hm hb => by
        have t1 : Turn (fun b => b = G) w w5 := Turn.trans (b := w.drew) (Turn.drew (Turn.refl _ w)) (Turn.of_below hb)
        exact ⟨A5, c5, _, rfl, ho, hc, hm, t1, H.out.drew.below hb H.out.drew.lt, fun _ => (HL.out (by simp)).turn t1⟩)
      clear hnn hok
      go_enter Tryz.func97, Tryz.ntmps97
      go_upto_region 3 with fail
      go_region_with (go_at_call 32; (with_reducible refine (HMK.out _ HD.out).mono ?_); rintro e w5 ⟨A5, c5, rfl, ho5, hc5, hm5, hb5⟩; have HO5 := keepHid ho5; have HB5 := keepHid hb5; clear ho5 hb5)
      all_goals (go_wp2; go_ret; exact HFIN.out _ _ _ HO5.out hc5 hm5 HB5.out)
    · have hnn : n ≠ 128 ∧ n ≠ 1024 := by rw [← HN.out]; simpa [encOk] using hok
      rw [sendS_bad (s := ⟨1, k, crc, err, tries, wait, can⟩) rfl HK.out hok]
      have HMK : Hid (∀ w', Calls Tryz.prog 32 #[.agg #[.int .u8 (num.toNat : Int), .slice Ap n c], .bool crc] w' fun e w'' => e = .returned (.tuple #[.slice none 0 0, .bool false]) ∧ Below w'.heap.size w' w'') := keepHid (fun w' => make_none num Ap n c crc hnn.1 hnn.2 hd w')
      have HST : Hid (∀ w', Below w.drew.heap.size w.drew w' → Calls Tryz.prog 72 #[.pointer (some ⟨G, 0, none⟩), .iface 71 (.int .i64 14)] w' fun r w6 => r = .returned (.tuple #[]) ∧
          SendPost Hb G bl T W cl ([], ⟨3, k, crc, 14, tries, wait, can⟩) w (.returned (.slice none 0 0)) w6) := keepHid (fun w' hb => by
        refine (stop_any _ (.inr ⟨_, _, rfl⟩) (H.out.drew.below hb H.out.drew.lt)).mono ?_
        rintro r w6 ⟨e1, e2, e3⟩
        have t1 : Turn (fun b => b = G) w w' := Turn.trans (b := w.drew) (Turn.drew (Turn.refl _ w)) (Turn.of_below hb)
        exact ⟨e1, SendPost.none_ (t1.trans e3) e2 (fun h => absurd h (by simp))⟩)
      clear hnn hok
      go_enter Tryz.func97, Tryz.ntmps97
      go_upto_region 3 with fail
      go_region_with (go_at_call 32; (with_reducible refine (HMK.out _).mono ?_); rintro e w5 ⟨rfl, hb5⟩; have HB5 := keepHid hb5; clear hb5)
      all_goals (go_wp2_with (go_at_call 72; (with_reducible refine (HST.out _ HB5.out).mono ?_); rintro r w6 ⟨rfl, hp6⟩; have HP := keepHid hp6; clear hp6); go_ret; exact HP.out)
  · rw [sendS_end (s := ⟨2, k, crc, err, tries, wait, can⟩) rfl]
    clear h hl
    have hfin : SendPost Hb G bl T W cl ([4], ⟨2, k, crc, err, tries, wait, can⟩) w (.returned (.slice (some ⟨w.heap.size, 0, none⟩) 1 1)) (w.alloc (.cells #[.int .u8 4] 5)) :=
      ⟨_, 1, v, rfl, own_new w _ _ 1 [4] _ rfl (Nat.le_refl _) rfl rfl (by omega), Nat.le_refl _, by show 1 ≤ _; omega, (Turn.refl _ w).alloc _, H.out.alloc _, fun _ => (HL.out (by simp)).turn ((Turn.refl _ w).alloc _)⟩
    have HFIN := keepHid hfin
    clear hfin
    go_enter Tryz.func97, Tryz.ntmps97
    go_wp2
    go_ret
    exact HFIN.out
  · rw [sendS_no (s := ⟨ph, k, crc, err, tries, wait, can⟩) n1 n2]
    have hfin : SendPost Hb G bl T W cl ([], ⟨ph, k, crc, err, tries, wait, can⟩) w (.returned (.slice none 0 0)) w := SendPost.none_ (Turn.refl _ w) h hl
    have HFIN := keepHid hfin
    have q1 : ((ph : Int) == 1) = false := by simp; omega
    have q2 : ((ph : Int) == 2) = false := by simp; omega
    clear h hl hfin
    go_enter Tryz.func97, Tryz.ntmps97
    go_wp2
    go_ret
    exact HFIN.out


theorem left_drew {w : World} {Hb G k : Nat} {bl : Bks} {v : Value} (h : LeftV w Hb G bl v k) (n : Nat) : LeftV (w.drewN n) Hb G bl v k := h.turn ((Turn.refl _ w).drewN n)
set_option maxRecDepth 100000 in
set_option maxHeartbeats 4000000 in
theorem again_any {Hb G : Nat} {bl : Bks} {T W : Nat} {cl : Bool} {s : Sd} {v : Value} {w : World} (h : Blk w G 113 (sndC T W cl v s)) (hl : s.ph < 3 → LeftV w Hb G bl v s.k) (h1 : s.ph = 1 → s.k < bl.length) (hp : s.ph ≤ 3) (hT : T ≤ 9) (ht : s.tries ≤ T) :
    Calls Tryz.prog 70 #[.pointer (some ⟨G, 0, none⟩)] w (SendPost Hb G bl T W cl (againS bl T W s) w) := by
  obtain ⟨ph, k, crc, err, tries, wait, can⟩ := s
  have c0 : w.cell? ⟨G, 0, none⟩ = some (.int .i64 (T : Int)) := h.cell 0
  have c1 : w.cell? ⟨G, 1, none⟩ = some (.int .i64 (W : Int)) := h.cell 1
  have c6 : w.cell? ⟨G, 7, none⟩ = some (.int .i64 (tries : Int)) := h.cell 7
  have c8 : w.cell? ⟨G, 8, none⟩ = some (.int .i64 (wait : Int)) := h.cell 8
  have hf := h.frozen
  have H := keepHid h
  have HL := keepHid hl
  simp only at ht hp h1
  unfold againS
  rcases Nat.lt_or_ge tries T with hlt | hge
  · rw [if_neg (by show ¬ T ≤ tries; omega)]
    have i1 : ¬ (T : Int) ≤ (tries : Int) := by omega
    clear h hl
    have HSD : Hid (Calls Tryz.prog 97 #[.pointer (some ⟨G, 0, none⟩)] ((w.setCell ⟨G, 7, none⟩ (.int .i64 ((tries : Int) + 1))).setCell ⟨G, 8, none⟩ (.int .i64 (W : Int))).drew (SendPost Hb G bl T W cl (sendS bl ⟨ph, k, crc, err, tries + 1, W, can⟩) w)) := keepHid (by
      have t1 : Turn (fun b => b = G) w ((w.setCell ⟨G, 7, none⟩ (.int .i64 ((tries : Int) + 1))).setCell ⟨G, 8, none⟩ (.int .i64 (W : Int))).drew := Turn.drew (turnAt _ _ (turnAt _ _ (Turn.refl _ w)))
      refine (send_any (s := ⟨ph, k, crc, err, tries + 1, W, can⟩) (v := v) (((H.out.put 7 _).put 8 _).drew) (fun h => (HL.out h).turn t1) h1 hp).mono ?_
      exact fun _ _ h => h.of t1)
    go_enter Tryz.func70, Tryz.ntmps70
    go_upto_region 1 with fail
    go_region
    go_wp2_with fail
    (with_reducible refine HSD.out.mono ?_)
    rintro e w6 hp6
    obtain ⟨A6, c6, v6, rfl, hp6⟩ := hp6
    have HP := keepHid hp6
    clear hp6
    go_wp2
    go_ret
    exact ⟨A6, c6, v6, rfl, HP.out⟩
  · rw [if_pos hge]
    have i1 : (T : Int) ≤ (tries : Int) := by omega
    clear h hl
    have HST : Hid (Calls Tryz.prog 72 #[.pointer (some ⟨G, 0, none⟩), .iface 71 (.int .i64 10)] w.drew fun r w6 => r = .returned (.tuple #[]) ∧
        SendPost Hb G bl T W cl ([24, 24], ⟨3, k, crc, 10, tries, wait, can⟩) w (.returned (.slice (some ⟨w6.heap.size, 0, none⟩) 2 2)) (w6.alloc (.cells #[.int .u8 24, .int .u8 24] 5))) := keepHid (by
      refine (stop_any _ (.inr ⟨_, _, rfl⟩) H.out.drew).mono ?_
      rintro r w6 ⟨e1, e2, e3⟩
      have t1 : Turn (fun b => b = G) w (w6.alloc (.cells #[.int .u8 24, .int .u8 24] 5)) := (Turn.trans (b := w.drew) (Turn.drew (Turn.refl _ w)) e3).alloc _
      have hs6 : w.heap.size ≤ w6.heap.size := e3.size
      exact ⟨e1, _, 2, .slice none 0 0, rfl, own_new w6 _ _ 2 [24, 24] _ rfl hs6 rfl rfl (by omega), Nat.le_refl _, by show 2 ≤ _; omega, t1, e2.alloc _, fun h => absurd h (by simp)⟩)
    go_enter Tryz.func70, Tryz.ntmps70
    go_upto_region 1 with fail
    go_region
    go_wp2_with fail
    (with_reducible refine HST.out.mono ?_)
    rintro r w6 ⟨rfl, hp6⟩
    have HP := keepHid hp6
    clear hp6
    go_wp2
    go_ret
    exact HP.out

theorem goS_block {bl : Bks} {W : Nat} {cl : Bool} {s : Sd} (h : s.k < bl.length) : goS bl W cl s = sendS bl { s with ph := 1, tries := 1, wait := W } := if_pos h
theorem goS_end {bl : Bks} {W : Nat} {s : Sd} (h : ¬ s.k < bl.length) (h2 : s.ph ≠ 2) : goS bl W true s = ([4], { s with ph := 2, tries := 1, wait := W }) := by
  unfold goS; rw [if_neg h, if_pos ⟨rfl, h2⟩]
theorem goS_over {bl : Bks} {W : Nat} {cl : Bool} {s : Sd} (h : ¬ s.k < bl.length) (h2 : ¬ (cl = true ∧ s.ph ≠ 2)) : goS bl W cl s = ([], { s with ph := 3, err := 0, tries := 1, wait := W }) := by
  unfold goS; rw [if_neg h, if_neg h2]
set_option maxRecDepth 100000 in
set_option maxHeartbeats 4000000 in
theorem proceed_any {Hb G : Nat} {bl : Bks} {T W : Nat} {cl : Bool} {s : Sd} {v : Value} {w : World} (h : Blk w G 113 (sndC T W cl v s)) (hl : LeftV w Hb G bl v s.k) (hp : s.ph < 3) :
    Calls Tryz.prog 75 #[.pointer (some ⟨G, 0, none⟩)] w (SendPost Hb G bl T W cl (goS bl W cl s) w) := by
  obtain ⟨ph, k, crc, err, tries, wait, can⟩ := s
  simp only at hp
  have c1 : w.cell? ⟨G, 1, none⟩ = some (.int .i64 (W : Int)) := h.cell 1
  have c4 : w.cell? ⟨G, 4, none⟩ = some (.bool cl) := h.cell 4
  have c5 : w.cell? ⟨G, 5, none⟩ = some (.int .i64 (ph : Int)) := h.cell 5
  have c7 : w.cell? ⟨G, 7, none⟩ = some (.int .i64 (tries : Int)) := h.cell 7
  have c8 : w.cell? ⟨G, 8, none⟩ = some (.int .i64 (wait : Int)) := h.cell 8
  have hf := h.frozen
  have H := keepHid h
  have HL := keepHid hl
  obtain ⟨B, A, rfl, e2, e3⟩ := hl
  simp only at e2 e3 H h c1 HL ⊢
  have c2 : w.cell? ⟨G, 2, none⟩ = some (.slice A (bl.length - k) (bl.length - k)) := h.cell 2
  obtain ⟨m, hm⟩ : ∃ m, bl.length - k = m := ⟨_, rfl⟩
  rw [hm] at c2 H HL
  clear h e2 e3
  have t2 : Turn (fun b => b = G) w ((w.setCell ⟨G, 7, none⟩ (.int .i64 1)).setCell ⟨G, 8, none⟩ (.int .i64 (W : Int))) := turnAt _ _ (turnAt _ _ (Turn.refl _ w))
  have T2 := keepHid t2
  clear t2
  have SD : ∀ x (hx : x = 1 ∨ x = 2), (x = 1 → k < bl.length) → Calls Tryz.prog 97 #[.pointer (some ⟨G, 0, none⟩)] (((w.setCell ⟨G, 7, none⟩ (.int .i64 1)).setCell ⟨G, 8, none⟩ (.int .i64 (W : Int))).setCell ⟨G, 5, none⟩ (.int .i64 ((x : Nat) : Int))) (SendPost Hb G bl T W cl (sendS bl ⟨x, k, crc, err, 1, W, can⟩) w) := fun x hx h1 => by
    have t3 := turnAt (G := G) 5 (.int .i64 ((x : Nat) : Int)) T2.out
    refine (send_any (s := ⟨x, k, crc, err, 1, W, can⟩) (((H.out.put 7 _).put 8 _).put 5 _) (fun h => HL.out.turn t3) h1 (by show x ≤ 3; omega)).mono ?_
    exact fun _ _ h => h.of t3
  rcases Nat.eq_zero_or_pos m with rfl | hm0
  · by_cases hcl : cl = true ∧ ph ≠ 2
    · obtain ⟨rfl, h2⟩ := hcl
      rw [goS_end (s := ⟨ph, k, crc, err, tries, wait, can⟩) (by show ¬ k < _; omega) h2]
      have HSD : Hid (Calls Tryz.prog 97 #[.pointer (some ⟨G, 0, none⟩)] (((w.setCell ⟨G, 7, none⟩ (.int .i64 1)).setCell ⟨G, 8, none⟩ (.int .i64 (W : Int))).setCell ⟨G, 5, none⟩ (.int .i64 2)) (SendPost Hb G bl T W true ([4], ⟨2, k, crc, err, 1, W, can⟩) w)) := keepHid (SD 2 (.inr rfl) (by omega))
      have q2 : ((ph : Int) == 2) = false := by simp; omega
      have q3 : ((ph : Int) != 2) = true := by simp; omega
      clear SD
      go_enter Tryz.func75, Tryz.ntmps75
      go_wp2_with fail
      (with_reducible refine HSD.out.mono ?_)
      rintro e w6 hp6
      obtain ⟨A6, c6, v6, rfl, hp6⟩ := hp6
      have HP := keepHid hp6
      clear hp6
      go_wp2
      go_ret
      exact ⟨A6, c6, v6, rfl, HP.out⟩
    · rw [goS_over (s := ⟨ph, k, crc, err, tries, wait, can⟩) (by show ¬ k < _; omega) hcl]
      have HST : Hid (Calls Tryz.prog 72 #[.pointer (some ⟨G, 0, none⟩), .nilIface] ((w.setCell ⟨G, 7, none⟩ (.int .i64 1)).setCell ⟨G, 8, none⟩ (.int .i64 (W : Int))) fun r w6 => r = .returned (.tuple #[]) ∧
          Calls Tryz.prog 97 #[.pointer (some ⟨G, 0, none⟩)] w6 (SendPost Hb G bl T W cl ([], ⟨3, k, crc, 0, 1, W, can⟩) w)) := keepHid (by
        refine (stop_any _ (.inl rfl) ((H.out.put 7 _).put 8 _)).mono ?_
        rintro r w6 ⟨e1, e2, e3⟩
        have t3 := T2.out.trans e3
        refine ⟨e1, (send_any (Hb := Hb) (bl := bl) (s := ⟨3, k, crc, 0, 1, W, can⟩) e2 (fun h => absurd h (by simp)) (by simp) (by simp)).mono ?_⟩
        exact fun _ _ h => h.of t3)
      clear SD
      have fin : ∀ (cl' : Bool) (ph' : Nat), cl' = cl → ph' = ph → (cl' = false ∨ (cl' = true ∧ ph' = 2)) := fun cl' ph' h1 h2 => by
        subst h1 h2
        cases cl'
        · exact .inl rfl
        · exact .inr ⟨rfl, by
            by_cases h : ph' = 2
            · exact h
            · exact absurd ⟨rfl, h⟩ hcl⟩
      rcases fin cl ph rfl rfl with rfl | ⟨rfl, rfl⟩
      all_goals
        clear fin hcl
        go_enter Tryz.func75, Tryz.ntmps75
        go_wp2_with fail
        (with_reducible refine HST.out.mono ?_)
        rintro r w5 ⟨rfl, hs5⟩
        have HS5 := keepHid hs5
        clear hs5
        go_wp2_with fail
        (with_reducible refine HS5.out.mono ?_)
        rintro e w6 hp6
        obtain ⟨A6, c6, v6, rfl, hp6⟩ := hp6
        have HP := keepHid hp6
        clear hp6
        go_wp2
        go_ret
        exact ⟨A6, c6, v6, rfl, HP.out⟩
  · rw [goS_block (s := ⟨ph, k, crc, err, tries, wait, can⟩) (by show k < _; omega)]
    have HSD : Hid (Calls Tryz.prog 97 #[.pointer (some ⟨G, 0, none⟩)] (((w.setCell ⟨G, 7, none⟩ (.int .i64 1)).setCell ⟨G, 8, none⟩ (.int .i64 (W : Int))).setCell ⟨G, 5, none⟩ (.int .i64 1)) (SendPost Hb G bl T W cl (sendS bl ⟨1, k, crc, err, 1, W, can⟩) w)) := keepHid (SD 1 (.inl rfl) (fun _ => by omega))
    have i1 : (0 : Int) < (m : Int) := by omega
    clear SD
    go_enter Tryz.func75, Tryz.ntmps75
    go_wp2_with fail
    (with_reducible refine HSD.out.mono ?_)
    rintro e w6 hp6
    obtain ⟨A6, c6, v6, rfl, hp6⟩ := hp6
    have HP := keepHid hp6
    clear hp6
    go_wp2
    go_ret
    exact ⟨A6, c6, v6, rfl, HP.out⟩

set_option maxHeartbeats 4000000 in
theorem take_one {Hb G : Nat} {bl : Bks} {T W : Nat} {cl : Bool} {s : Sd} {v : Value} {w : World} (h : Blk w G 113 (sndC T W cl v s)) (hl : LeftV w Hb G bl v s.k) (hp : s.ph = 1) (hk : s.k < bl.length) (hn : bl.length ≤ 8796093022208) :
    Calls Tryz.prog 74 #[.pointer (some ⟨G, 0, none⟩)] w fun e w' => e = .returned (.tuple #[]) ∧ ∃ v', Blk w' G 113 (sndC T W cl v' { s with k := s.k + 1 }) ∧ LeftV w' Hb G bl v' (s.k + 1) ∧ Turn (fun b => b = G) w w' := by
  obtain ⟨ph, k, crc, err, tries, wait, can⟩ := s
  simp only at hp hk hl
  subst hp
  have c5 : w.cell? ⟨G, 5, none⟩ = some (.int .i64 1) := h.cell 5
  have c9 : w.cell? ⟨G, 9, none⟩ = some (.int .i64 (k : Int)) := h.cell 9
  have hf := h.frozen
  have H := keepHid h
  have HL := keepHid hl
  obtain ⟨B, A, rfl, e2, e3⟩ := hl
  obtain rfl := e2 hk
  have c2 : w.cell? ⟨G, 2, none⟩ = some (.slice (some ⟨B, k * 2, none⟩) (bl.length - k) (bl.length - k)) := h.cell 2
  obtain ⟨m, hm⟩ : ∃ m, bl.length - k = m + 1 := ⟨bl.length - k - 1, by omega⟩
  rw [hm] at c2
  have hm2 : m + 1 ≤ 8796093022208 := by omega
  clear h e2
  have fin : ∀ A, (0 < m → A = some ⟨B, k * 2 + 2, none⟩) → ∃ v', Blk ((w.setCell ⟨G, 9, none⟩ (.int .i64 ((k : Int) + 1))).setCell ⟨G, 2, none⟩ (.slice A m m)) G 113 (sndC T W cl v' ⟨1, k + 1, crc, err, tries, wait, can⟩) ∧
      LeftV ((w.setCell ⟨G, 9, none⟩ (.int .i64 ((k : Int) + 1))).setCell ⟨G, 2, none⟩ (.slice A m m)) Hb G bl v' (k + 1) ∧ Turn (fun b => b = G) w ((w.setCell ⟨G, 9, none⟩ (.int .i64 ((k : Int) + 1))).setCell ⟨G, 2, none⟩ (.slice A m m)) := fun A hA => by
    have t1 : Turn (fun b => b = G) w ((w.setCell ⟨G, 9, none⟩ (.int .i64 ((k : Int) + 1))).setCell ⟨G, 2, none⟩ (.slice A m m)) := turnAt _ _ (turnAt _ _ (Turn.refl _ w))
    have e : bl.length - (k + 1) = m := by omega
    refine ⟨.slice A m m, (H.out.put 9 _).put 2 _, ⟨B, A, by rw [e], fun h => ?_, (e3.turn t1).later (Nat.le_succ k)⟩, t1⟩
    rw [hA (by omega), Nat.add_mul]
  have FIN := keepHid fin
  clear fin e3
  go_enter Tryz.func74, Tryz.ntmps74
  go_wp2
  · refine bodyPost_end (results_none rfl _ _ _) rfl ?_
    obtain rfl : m = 0 := by omega
    exact ⟨rfl, FIN.out _ (fun h => absurd h (by omega))⟩
  · refine bodyPost_end (results_none rfl _ _ _) rfl ?_
    exact ⟨rfl, FIN.out _ (fun h => rfl)⟩
theorem take_no {G : Nat} {T W : Nat} {cl : Bool} {s : Sd} {v : Value} {w : World} (h : Blk w G 113 (sndC T W cl v s)) (hp : s.ph ≠ 1) :
    Calls Tryz.prog 74 #[.pointer (some ⟨G, 0, none⟩)] w fun e w' => e = .returned (.tuple #[]) ∧ w = w' := by
  obtain ⟨ph, k, crc, err, tries, wait, can⟩ := s
  simp only at hp
  have c5 : w.cell? ⟨G, 5, none⟩ = some (.int .i64 (ph : Int)) := h.cell 5
  have q1 : ((ph : Int) == 1) = false := by simp; omega
  clear h
  go_enter Tryz.func74, Tryz.ntmps74
  go_wp2
  refine bodyPost_end (results_none rfl _ _ _) rfl ?_
  exact ⟨rfl, rfl⟩

def beginS (bl : Bks) (W : Nat) (cl : Bool) (s : Sd) (c : UInt8) : List UInt8 × Sd := if c = 21 ∨ c = 67 ∧ s.crc = true then goS bl W cl { s with crc := c == 67 } else ([], s)
set_option maxHeartbeats 4000000 in
theorem begin_any {Hb G : Nat} {bl : Bks} {T W : Nat} {cl : Bool} {s : Sd} {v : Value} {w : World} (h : Blk w G 113 (sndC T W cl v s)) (hl : LeftV w Hb G bl v s.k) (hp : s.ph = 0) (c : UInt8) :
    Calls Tryz.prog 73 #[.pointer (some ⟨G, 0, none⟩), .int .u8 (c.toNat : Int)] w (SendPost Hb G bl T W cl (beginS bl W cl s c) w) := by
  obtain ⟨ph, k, crc, err, tries, wait, can⟩ := s
  simp only at hp hl
  subst hp
  have c3 : w.cell? ⟨G, 3, none⟩ = some (.bool crc) := h.cell 3
  have hf := h.frozen
  have H := keepHid h
  have HL := keepHid hl
  clear h hl
  have HPR : Hid (∀ b, Calls Tryz.prog 75 #[.pointer (some ⟨G, 0, none⟩)] (w.setCell ⟨G, 3, none⟩ (.bool b)) (SendPost Hb G bl T W cl (goS bl W cl ⟨0, k, b, err, tries, wait, can⟩) w)) := keepHid (fun b => by
    have t1 := turnAt (G := G) 3 (.bool b) (Turn.refl _ w)
    refine (proceed_any (s := ⟨0, k, b, err, tries, wait, can⟩) (H.out.put 3 _) (HL.out.turn t1) (by simp)).mono ?_
    exact fun _ _ h => h.of t1)
  unfold beginS
  by_cases h21 : c = 21
  · subst h21
    rw [if_pos (.inl rfl)]
    show Calls _ _ #[_, .int .u8 21] _ _
    go_enter Tryz.func73, Tryz.ntmps73
    go_wp2_with fail
    (with_reducible refine (HPR.out _).mono ?_)
    rintro e w6 hp6
    obtain ⟨A6, c6, v6, rfl, hp6⟩ := hp6
    have HP := keepHid hp6
    clear hp6
    go_wp2
    go_ret
    exact ⟨A6, c6, v6, rfl, HP.out⟩
  · by_cases h67 : c = 67
    · subst h67
      cases crc
      · rw [if_neg (by simp)]
        have hfin : SendPost Hb G bl T W cl ([], ⟨0, k, false, err, tries, wait, can⟩) w (.returned (.slice none 0 0)) w := SendPost.none_ (Turn.refl _ w) H.out (fun _ => HL.out)
        have HFIN := keepHid hfin
        clear hfin
        show Calls _ _ #[_, .int .u8 67] _ _
        go_enter Tryz.func73, Tryz.ntmps73
        go_wp2
        go_ret
        exact HFIN.out
      · rw [if_pos (.inr ⟨rfl, rfl⟩)]
        show Calls _ _ #[_, .int .u8 67] _ _
        go_enter Tryz.func73, Tryz.ntmps73
        go_wp2_with fail
        (with_reducible refine (HPR.out _).mono ?_)
        rintro e w6 hp6
        obtain ⟨A6, c6, v6, rfl, hp6⟩ := hp6
        have HP := keepHid hp6
        clear hp6
        go_wp2
        go_ret
        exact ⟨A6, c6, v6, rfl, HP.out⟩
    · rw [if_neg (fun h => h.elim h21 (fun h => h67 h.1))]
      have hfin : SendPost Hb G bl T W cl ([], ⟨0, k, crc, err, tries, wait, can⟩) w (.returned (.slice none 0 0)) w := SendPost.none_ (Turn.refl _ w) H.out (fun _ => HL.out)
      have HFIN := keepHid hfin
      have q1 : ((c.toNat : Int) == 21) = false := u8_ne h21
      have q2 : ((c.toNat : Int) != 21) = true := by rw [bne, q1]; rfl
      have q3 : ((c.toNat : Int) == 67) = false := u8_ne h67
      clear hfin
      generalize c.toNat = cn at *
      go_enter Tryz.func73, Tryz.ntmps73
      go_wp2
      go_ret
      exact HFIN.out

theorem putS_over {bl : Bks} {T W : Nat} {cl : Bool} {s : Sd} {c : UInt8} (h : s.ph = 3) : putS bl T W cl s c = ([], { s with can := c == 24 }) := if_pos h
theorem putS_cancel {bl : Bks} {T W : Nat} {cl : Bool} {s : Sd} (h : s.ph ≠ 3) (h2 : s.can = true) : putS bl T W cl s 24 = ([], { s with ph := 3, err := 9, can := true }) := by
  unfold putS; rw [if_neg h, if_pos ⟨h2, rfl⟩]; rfl
theorem putS_begin {bl : Bks} {T W : Nat} {cl : Bool} {s : Sd} {c : UInt8} (h : s.ph = 0) (h2 : ¬ (s.can = true ∧ c = 24)) : putS bl T W cl s c = beginS bl W cl { s with can := c == 24 } c := by
  unfold putS; rw [if_neg (by omega), if_neg h2, if_pos h]; rfl
theorem putS_ack {bl : Bks} {T W : Nat} {cl : Bool} {s : Sd} (h : s.ph ≠ 3) (h2 : s.ph ≠ 0) : putS bl T W cl s 6 = goS bl W cl { s with k := if s.ph = 1 then s.k + 1 else s.k, can := false } := by
  unfold putS; rw [if_neg h, if_neg (by simp), if_neg h2, if_pos rfl]; rfl
theorem putS_nak {bl : Bks} {T W : Nat} {cl : Bool} {s : Sd} (h : s.ph ≠ 3) (h2 : s.ph ≠ 0) : putS bl T W cl s 21 = againS bl T W { s with can := false } := by
  unfold putS; rw [if_neg h, if_neg (by simp), if_neg h2, if_neg (by decide), if_pos rfl]; rfl
theorem putS_other {bl : Bks} {T W : Nat} {cl : Bool} {s : Sd} {c : UInt8} (h : s.ph ≠ 3) (h2 : s.ph ≠ 0) (h3 : ¬ (s.can = true ∧ c = 24)) (h6 : c ≠ 6) (h21 : c ≠ 21) : putS bl T W cl s c = ([], { s with can := c == 24 }) := by
  unfold putS; rw [if_neg h, if_neg h3, if_neg h2, if_neg h6, if_neg h21]

set_option maxRecDepth 100000 in
set_option maxHeartbeats 8000000 in
theorem put_any {Hb G : Nat} {bl : Bks} {T W : Nat} {cl : Bool} {s : Sd} {v : Value} {w : World} (h : Blk w G 113 (sndC T W cl v s)) (hl : s.ph < 3 → LeftV w Hb G bl v s.k) (ok : Ok bl T W s) (hT : T ≤ 9) (hn : bl.length ≤ 8796093022208) (c : UInt8) :
    Calls Tryz.prog 49 #[.pointer (some ⟨G, 0, none⟩), .int .u8 (c.toNat : Int)] w (SendPost Hb G bl T W cl (putS bl T W cl s c) w) := by
  obtain ⟨ph, k, crc, err, tries, wait, can⟩ := s
  obtain ⟨o1, o2, o3, o4, o5, o6, o7, o8, o9⟩ := ok
  simp only at o1 o2 o3 o4 o5 o6 o7 o8 o9 hl
  have hcc : (c = 24 ∧ can = true) ∨ (c = 24 ∧ can = false) ∨ (c ≠ 24) := by
    by_cases h24 : c = 24
    · cases can
      · exact .inr (.inl ⟨h24, rfl⟩)
      · exact .inl ⟨h24, rfl⟩
    · exact .inr (.inr h24)
  have c5 : w.cell? ⟨G, 5, none⟩ = some (.int .i64 (ph : Int)) := h.cell 5
  have c10 : w.cell? ⟨G, 10, none⟩ = some (.bool can) := h.cell 10
  have hf := h.frozen
  have t1 : ∀ b, Turn (fun b => b = G) w (w.setCell ⟨G, 10, none⟩ (.bool b)) := fun b => turnAt _ _ (Turn.refl _ w)
  have hk1 : ∀ b, Blk (w.setCell ⟨G, 10, none⟩ (.bool b)) G 113 (sndC T W cl v ⟨ph, k, crc, err, tries, wait, b⟩) := fun b => h.put 10 _
  have hl1 : ∀ b, ph < 3 → LeftV (w.setCell ⟨G, 10, none⟩ (.bool b)) Hb G bl v k := fun b h => (hl h).turn (t1 b)
  have T1 := keepHid t1
  have K1 := keepHid hk1
  have L1 := keepHid hl1
  clear h hl t1 hk1 hl1
  have hnone : ∀ b, SendPost Hb G bl T W cl ([], ⟨ph, k, crc, err, tries, wait, b⟩) w (.returned (.slice none 0 0)) (w.setCell ⟨G, 10, none⟩ (.bool b)) := fun b => SendPost.none_ (T1.out b) (K1.out b) (L1.out b)
  have NONE := keepHid hnone
  clear hnone
  by_cases h3 : ph = 3
  · subst h3
    rw [putS_over (s := ⟨3, k, crc, err, tries, wait, can⟩) rfl]
    rcases hcc with ⟨rfl, rfl⟩ | ⟨rfl, rfl⟩ | hne
    · show Calls _ _ #[_, .int .u8 24] _ _
      go_enter Tryz.func49, Tryz.ntmps49
      go_wp2
      go_ret
      exact NONE.out _
    · show Calls _ _ #[_, .int .u8 24] _ _
      go_enter Tryz.func49, Tryz.ntmps49
      go_wp2
      go_ret
      exact NONE.out _
    · have q1 : ((c.toNat : Int) == 24) = false := u8_ne hne
      rw [show (c == 24) = false by simp [hne]]
      generalize c.toNat = cn at *
      cases can
      all_goals
        go_enter Tryz.func49, Tryz.ntmps49
        go_wp2
        go_ret
        exact NONE.out _
  have hp : ph < 3 := by omega
  have q3 : ((ph : Int) == 3) = false := by simp; omega
  by_cases hcan : can = true ∧ c = 24
  · obtain ⟨rfl, rfl⟩ := hcan
    rw [putS_cancel (s := ⟨ph, k, crc, err, tries, wait, true⟩) h3 rfl]
    have HST : Hid (Calls Tryz.prog 72 #[.pointer (some ⟨G, 0, none⟩), .iface 71 (.int .i64 9)] (w.setCell ⟨G, 10, none⟩ (.bool true)) fun r w6 => r = .returned (.tuple #[]) ∧
        SendPost Hb G bl T W cl ([], ⟨3, k, crc, 9, tries, wait, true⟩) w (.returned (.slice none 0 0)) w6) := keepHid (by
      refine (stop_any _ (.inr ⟨_, _, rfl⟩) (K1.out true)).mono ?_
      rintro r w6 ⟨e1, e2, e3⟩
      exact ⟨e1, SendPost.none_ ((T1.out true).trans e3) e2 (fun h => absurd h (by simp))⟩)
    show Calls _ _ #[_, .int .u8 24] _ _
    go_enter Tryz.func49, Tryz.ntmps49
    go_wp2_with fail
    (with_reducible refine HST.out.mono ?_)
    rintro r w6 ⟨rfl, hp6⟩
    have HP := keepHid hp6
    clear hp6
    go_wp2
    go_ret
    exact HP.out
  by_cases h0 : ph = 0
  · subst h0
    rw [putS_begin (s := ⟨0, k, crc, err, tries, wait, can⟩) rfl hcan]
    have HBG : Hid (∀ b, Calls Tryz.prog 73 #[.pointer (some ⟨G, 0, none⟩), .int .u8 (c.toNat : Int)] (w.setCell ⟨G, 10, none⟩ (.bool b)) (SendPost Hb G bl T W cl (beginS bl W cl ⟨0, k, crc, err, tries, wait, b⟩ c) w)) := keepHid (fun b => by
      refine (begin_any (s := ⟨0, k, crc, err, tries, wait, b⟩) (K1.out b) (L1.out b (by omega)) rfl c).mono ?_
      exact fun _ _ h => h.of (T1.out b))
    rcases hcc with ⟨rfl, rfl⟩ | ⟨rfl, rfl⟩ | hne
    · exact absurd ⟨rfl, rfl⟩ hcan
    · show Calls _ _ #[_, .int .u8 24] _ _
      have HBG' : Hid (Calls Tryz.prog 73 #[.pointer (some ⟨G, 0, none⟩), .int .u8 24] (w.setCell ⟨G, 10, none⟩ (.bool true)) (SendPost Hb G bl T W cl (beginS bl W cl ⟨0, k, crc, err, tries, wait, true⟩ 24) w)) := keepHid (HBG.out true)
      go_enter Tryz.func49, Tryz.ntmps49
      go_wp2_with fail
      (with_reducible refine HBG'.out.mono ?_)
      rintro e w6 hp6
      obtain ⟨A6, c6, v6, rfl, hp6⟩ := hp6
      have HP := keepHid hp6
      clear hp6
      go_wp2
      go_ret
      exact ⟨A6, c6, v6, rfl, HP.out⟩
    · have q1 : ((c.toNat : Int) == 24) = false := u8_ne hne
      rw [show (c == 24) = false by simp [hne]]
      show Calls _ _ _ _ (SendPost Hb G bl T W cl (beginS bl W cl ⟨0, k, crc, err, tries, wait, false⟩ c) w)
      have HBG' := keepHid (HBG.out false)
      clear HBG
      generalize beginS bl W cl ⟨0, k, crc, err, tries, wait, false⟩ c = r at HBG' ⊢
      generalize c.toNat = cn at *
      cases can
      all_goals
        go_enter Tryz.func49, Tryz.ntmps49
        go_wp2_with fail
        (with_reducible refine HBG'.out.mono ?_)
        rintro e w6 hp6
        obtain ⟨A6, c6, v6, rfl, hp6⟩ := hp6
        have HP := keepHid hp6
        clear hp6
        go_wp2
        go_ret
        exact ⟨A6, c6, v6, rfl, HP.out⟩
  have q0 : ((ph : Int) == 0) = false := by simp; omega
  by_cases h6 : c = 6
  · subst h6
    rw [putS_ack (s := ⟨ph, k, crc, err, tries, wait, can⟩) h3 h0]
    have HTK : Hid (Calls Tryz.prog 74 #[.pointer (some ⟨G, 0, none⟩)] (w.setCell ⟨G, 10, none⟩ (.bool false)) fun e w' => e = .returned (.tuple #[]) ∧
        Calls Tryz.prog 75 #[.pointer (some ⟨G, 0, none⟩)] w' (SendPost Hb G bl T W cl (goS bl W cl ⟨ph, if ph = 1 then k + 1 else k, crc, err, tries, wait, false⟩) w)) := keepHid (by
      by_cases h1 : ph = 1
      · subst h1
        refine (take_one (s := ⟨1, k, crc, err, tries, wait, false⟩) (K1.out false) (L1.out false (by omega)) rfl (o3 rfl) hn).mono ?_
        rintro e w' ⟨rfl, v', e1, e2, e3⟩
        refine ⟨rfl, (proceed_any (s := ⟨1, k + 1, crc, err, tries, wait, false⟩) e1 e2 (by simp)).mono ?_⟩
        exact fun _ _ h => h.of ((T1.out false).trans e3)
      · refine (take_no (s := ⟨ph, k, crc, err, tries, wait, false⟩) (K1.out false) h1).mono ?_
        rintro e w' ⟨rfl, rfl⟩
        rw [if_neg h1]
        refine ⟨rfl, (proceed_any (s := ⟨ph, k, crc, err, tries, wait, false⟩) (K1.out false) (L1.out false hp) hp).mono ?_⟩
        exact fun _ _ h => h.of (T1.out false))
    show Calls _ _ #[_, .int .u8 6] _ (SendPost Hb G bl T W cl (goS bl W cl ⟨ph, if ph = 1 then k + 1 else k, crc, err, tries, wait, false⟩) w)
    generalize goS bl W cl ⟨ph, if ph = 1 then k + 1 else k, crc, err, tries, wait, false⟩ = r at HTK ⊢
    cases can
    all_goals
      go_enter Tryz.func49, Tryz.ntmps49
      go_wp2_with fail
      (with_reducible refine HTK.out.mono ?_)
      rintro r w5 ⟨rfl, hs5⟩
      have HS5 := keepHid hs5
      clear hs5
      go_wp2_with fail
      (with_reducible refine HS5.out.mono ?_)
      rintro e w6 hp6
      obtain ⟨A6, c6, v6, rfl, hp6⟩ := hp6
      have HP := keepHid hp6
      clear hp6
      go_wp2
      go_ret
      exact ⟨A6, c6, v6, rfl, HP.out⟩
  by_cases h21 : c = 21
  · subst h21
    rw [putS_nak (s := ⟨ph, k, crc, err, tries, wait, can⟩) h3 h0]
    have HAG : Hid (Calls Tryz.prog 70 #[.pointer (some ⟨G, 0, none⟩)] (w.setCell ⟨G, 10, none⟩ (.bool false)) (SendPost Hb G bl T W cl (againS bl T W ⟨ph, k, crc, err, tries, wait, false⟩) w)) := keepHid (by
      refine (again_any (s := ⟨ph, k, crc, err, tries, wait, false⟩) (K1.out false) (L1.out false) o3 o1 hT o5).mono ?_
      exact fun _ _ h => h.of (T1.out false))
    show Calls _ _ #[_, .int .u8 21] _ (SendPost Hb G bl T W cl (againS bl T W ⟨ph, k, crc, err, tries, wait, false⟩) w)
    generalize againS bl T W ⟨ph, k, crc, err, tries, wait, false⟩ = r at HAG ⊢
    cases can
    all_goals
      go_enter Tryz.func49, Tryz.ntmps49
      go_wp2_with fail
      (with_reducible refine HAG.out.mono ?_)
      rintro e w6 hp6
      obtain ⟨A6, c6, v6, rfl, hp6⟩ := hp6
      have HP := keepHid hp6
      clear hp6
      go_wp2
      go_ret
      exact ⟨A6, c6, v6, rfl, HP.out⟩
  rw [putS_other (s := ⟨ph, k, crc, err, tries, wait, can⟩) h3 h0 hcan h6 h21]
  rcases hcc with ⟨rfl, rfl⟩ | ⟨rfl, rfl⟩ | hne
  · exact absurd ⟨rfl, rfl⟩ hcan
  · show Calls _ _ #[_, .int .u8 24] _ _
    go_enter Tryz.func49, Tryz.ntmps49
    go_wp2
    go_ret
    exact NONE.out _
  · have q1 : ((c.toNat : Int) == 24) = false := u8_ne hne
    have q6 : ((c.toNat : Int) == 6) = false := u8_ne h6
    have q21 : ((c.toNat : Int) == 21) = false := u8_ne h21
    rw [show (c == 24) = false by simp [hne]]
    generalize c.toNat = cn at *
    cases can
    all_goals
      go_enter Tryz.func49, Tryz.ntmps49
      go_wp2
      go_ret
      exact NONE.out _

set_option maxRecDepth 100000 in
set_option maxHeartbeats 4000000 in
theorem tick_any {Hb G : Nat} {bl : Bks} {T W : Nat} {cl : Bool} {s : Sd} {v : Value} {w : World} (h : Blk w G 113 (sndC T W cl v s)) (hl : s.ph < 3 → LeftV w Hb G bl v s.k) (ok : Ok bl T W s) (hT : T ≤ 9) (hW : W ≤ 99) :
    Calls Tryz.prog 47 #[.pointer (some ⟨G, 0, none⟩)] w (SendPost Hb G bl T W cl (tickS bl T W s) w) := by
  obtain ⟨ph, k, crc, err, tries, wait, can⟩ := s
  obtain ⟨o1, o2, o3, o4, o5, o6, o7, o8, o9⟩ := ok
  simp only at o1 o2 o3 o4 o5 o6 o7 o8 o9 hl
  have c5 : w.cell? ⟨G, 5, none⟩ = some (.int .i64 (ph : Int)) := h.cell 5
  have c8 : w.cell? ⟨G, 8, none⟩ = some (.int .i64 (wait : Int)) := h.cell 8
  have hf := h.frozen
  have H := keepHid h
  have HL := keepHid hl
  unfold tickS
  by_cases h3 : ph = 3
  · subst h3
    rw [if_pos rfl]
    have hfin : SendPost Hb G bl T W cl ([], ⟨3, k, crc, err, tries, wait, can⟩) w (.returned (.slice none 0 0)) w := SendPost.none_ (Turn.refl _ w) h hl
    have HFIN := keepHid hfin
    clear hfin h hl
    go_enter Tryz.func47, Tryz.ntmps47
    go_wp2
    go_ret
    exact HFIN.out
  have q3 : ((ph : Int) == 3) = false := by simp; omega
  rw [if_neg h3]
  have hw1 : 1 ≤ wait := o9 h3
  have hz : ∃ u : Nat, wait - 1 = u ∧ ((1 < wait ∧ (wait : Int) - 1 = (u : Int) ∧ 0 < u) ∨ (wait = 1 ∧ u = 0) ∨ (wait = 0 ∧ u = 0)) := ⟨wait - 1, rfl, by omega⟩
  obtain ⟨u, hu, hz⟩ := hz
  clear h hl
  have t1 : ∀ z, Turn (fun b => b = G) w (w.setCell ⟨G, 8, none⟩ z) := fun z => turnAt _ _ (Turn.refl _ w)
  rcases hz with ⟨h1, hi, h0⟩ | ⟨rfl, rfl⟩ | ⟨rfl, rfl⟩
  · rw [if_pos h1]
    show Calls _ _ _ _ (SendPost Hb G bl T W cl ([], ⟨ph, k, crc, err, tries, wait - 1, can⟩) w)
    rw [hu]
    have hfin : SendPost Hb G bl T W cl ([], ⟨ph, k, crc, err, tries, u, can⟩) w (.returned (.slice none 0 0)) (w.setCell ⟨G, 8, none⟩ (.int .i64 (u : Int))) := SendPost.none_ (t1 _) (H.out.put 8 _) (fun h => (HL.out h).turn (t1 _))
    have HFIN := keepHid hfin
    have i1 : (0 : Int) < (u : Int) := by omega
    have i2 : (u : Int) ≤ 99 := by omega
    clear hfin t1 hu h1
    go_enter Tryz.func47, Tryz.ntmps47
    go_wp2
    go_ret
    exact HFIN.out
  · rw [if_neg (by show ¬ 1 < 1; omega)]
    have HAG : Hid (Calls Tryz.prog 70 #[.pointer (some ⟨G, 0, none⟩)] (w.setCell ⟨G, 8, none⟩ (.int .i64 0)) (SendPost Hb G bl T W cl (againS bl T W ⟨ph, k, crc, err, tries, 0, can⟩) w)) := keepHid (by
      refine (again_any (s := ⟨ph, k, crc, err, tries, 0, can⟩) (H.out.put 8 _) (fun h => (HL.out h).turn (t1 _)) o3 o1 hT o5).mono ?_
      exact fun _ _ h => h.of (t1 _))
    show Calls _ _ _ _ (SendPost Hb G bl T W cl (againS bl T W ⟨ph, k, crc, err, tries, 0, can⟩) w)
    generalize againS bl T W ⟨ph, k, crc, err, tries, 0, can⟩ = r at HAG ⊢
    clear t1
    go_enter Tryz.func47, Tryz.ntmps47
    go_wp2_with fail
    (with_reducible refine HAG.out.mono ?_)
    rintro e w6 hp6
    obtain ⟨A6, c6, v6, rfl, hp6⟩ := hp6
    have HP := keepHid hp6
    clear hp6
    go_wp2
    go_ret
    exact ⟨A6, c6, v6, rfl, HP.out⟩
  · exact absurd hw1 (by omega)
theorem done_any {G : Nat} {T W : Nat} {cl : Bool} {s : Sd} {v : Value} {w : World} (h : Blk w G 113 (sndC T W cl v s)) :
    Calls Tryz.prog 71 #[.pointer (some ⟨G, 0, none⟩)] w fun e w' => e = .returned (.tuple #[.bool (s.ph == 3), errV s.err]) ∧ w' = w.drew := by
  obtain ⟨ph, k, crc, err, tries, wait, can⟩ := s
  have c5 : w.cell? ⟨G, 5, none⟩ = some (.int .i64 (ph : Int)) := h.cell 5
  have c6 : w.cell? ⟨G, 6, none⟩ = some (errV err) := h.cell 6
  have q : ((ph : Int) == 3) = (ph == 3) := by rw [Bool.eq_iff_iff]; simp; omega
  clear h
  rcases errV_or err with e | ⟨t, u, e⟩
  all_goals
    rw [e] at c6 ⊢
    go_enter Tryz.func71, Tryz.ntmps71
    go_upto_region 1 with fail
    go_region
    go_wp2
    go_ret2
    exact ⟨rfl, rfl⟩
end Go.Proofs.YtgdjopiejmdbnaaGreatDoor
