/-
  A sender in memory; what 'stop' and 'send' do to it.
-/
import Derived.Test.YtjbkhaoddababaaSenderPlain
import Derived.Test.YtjbkhaoddababaaBlockMake
import Derived.Test.YtjbkhaoddababaaSmall
import Derived.LoopTactic
import Derived.RegionTactic
import Derived.Deep.DeepCutAuto
import Derived.Deep.RegionWith
import Derived.Deep.RegionHeld3
import Derived.Deep.DrawnRows
namespace Go.Proofs.Ytjbkhaoddababaa
open Go.RowKit
set_option linter.unusedVariables false

/-- The blocks from k on lie in the row of structs in block B, and nothing of them in block G; all of it below Hb. -/
structure Bl (w : World) (Hb G B k : Nat) (bl : Bks) : Prop where
  ne : B ≠ G
  lt : B < Hb
  le : Hb ≤ w.heap.size
  at_ : ∀ (j : Nat) (p : UInt8 × List UInt8), k ≤ j → bl[j]? = some p → ∃ A c, w.cell? ⟨B, j * 2, none⟩ = some (.int .u8 (p.1.toNat : Int)) ∧ w.cell? ⟨B, j * 2 + 1, none⟩ = some (.slice A p.2.length c) ∧ Bys w Hb A p.2.length p.2 ∧
    Apart (fun b => b = G) A p.2.length
theorem Bl.turns {S : Nat → Prop} {w w' : World} {Hb G B k : Nat} {bl : Bks} (h : Bl w Hb G B k bl) (ht : Turn S w w') (hS : ∀ i, S i → i = G ∨ Hb ≤ i) : Bl w' Hb G B k bl :=
  ⟨h.ne, h.lt, Nat.le_trans h.le ht.size, fun j p hj hp => by
    obtain ⟨A, c, e1, e2, e3, e4⟩ := h.at_ j p hj hp
    have hb := ht.block B (Nat.lt_of_lt_of_le h.lt h.le) (fun hs => by
      have := h.ne
      have := h.lt
      rcases hS B hs with h1 | h1 <;> omega)
    refine ⟨A, c, (World.cell?_of_block (a := ⟨B, j * 2, none⟩) hb).trans e1, (World.cell?_of_block (a := ⟨B, j * 2 + 1, none⟩) hb).trans e2, e3.turn ht h.le (fun hn ad e hs => ?_), e4⟩
    obtain ⟨ad', _, e', hlt, _⟩ := e3.at_ hn
    rw [e] at e'
    obtain rfl := Option.some.inj e'
    rcases hS _ hs with h1 | h1
    · exact e4 hn ad e h1
    · omega⟩
theorem Bl.turn {w w' : World} {Hb G B k : Nat} {bl : Bks} (h : Bl w Hb G B k bl) (ht : Turn (fun b => b = G) w w') : Bl w' Hb G B k bl := h.turns ht (fun i hi => .inl hi)
theorem Bl.later {w : World} {Hb G B k k' : Nat} {bl : Bks} (h : Bl w Hb G B k bl) (hk : k ≤ k') : Bl w Hb G B k' bl := ⟨h.ne, h.lt, h.le, fun j p hj hp => h.at_ j p (Nat.le_trans hk hj) hp⟩
/-- The slice of the blocks that are left. -/
def LeftV (w : World) (Hb G : Nat) (bl : Bks) (v : Value) (k : Nat) : Prop :=
  ∃ B A, v = .slice A (bl.length - k) (bl.length - k) ∧ (k < bl.length → A = some ⟨B, k * 2, none⟩) ∧ Bl w Hb G B k bl
theorem LeftV.turns {S : Nat → Prop} {w w' : World} {Hb G k : Nat} {bl : Bks} {v : Value} (h : LeftV w Hb G bl v k) (ht : Turn S w w') (hS : ∀ i, S i → i = G ∨ Hb ≤ i) : LeftV w' Hb G bl v k := by
  obtain ⟨B, A, e1, e2, e3⟩ := h
  exact ⟨B, A, e1, e2, e3.turns ht hS⟩
theorem LeftV.turn {w w' : World} {Hb G k : Nat} {bl : Bks} {v : Value} (h : LeftV w Hb G bl v k) (ht : Turn (fun b => b = G) w w') : LeftV w' Hb G bl v k := h.turns ht (fun i hi => .inl hi)
/-- A sender's cells. -/
def sndC (T W : Nat) (cl : Bool) (v : Value) (s : Sd) : Array Value :=
  #[.int .i64 (T : Int), .int .i64 (W : Int), v, .bool s.crc, .bool cl, .int .i64 (s.ph : Int), errV s.err, .int .i64 (s.tries : Int), .int .i64 (s.wait : Int), .int .i64 (s.k : Int), .bool s.can]
/-- What a call of a sender's leaves: what is sent, in a row of its own, and where the sender is then. -/
def SendPost (Hb G : Nat) (bl : Bks) (T W : Nat) (cl : Bool) (r : List UInt8 × Sd) (w : World) (e : Ending) (w' : World) : Prop :=
  ∃ A c v', e = .returned (.slice A r.1.length c) ∧ OwnB w' w.heap.size 5 (.slice A r.1.length c) r.1.length r.1 ∧ r.1.length ≤ c ∧ c ≤ 9223372036854775807 ∧ Turn (fun b => b = G) w w' ∧
    Blk w' G 68 (sndC T W cl v' r.2) ∧ (r.2.ph < 3 → LeftV w' Hb G bl v' r.2.k)
theorem SendPost.of {Hb G : Nat} {bl : Bks} {T W : Nat} {cl : Bool} {r : List UInt8 × Sd} {w w1 w' : World} {e : Ending} (ht : Turn (fun b => b = G) w w1) (h : SendPost Hb G bl T W cl r w1 e w') : SendPost Hb G bl T W cl r w e w' := by
  obtain ⟨A, c, v', e1, e2, e3, e4, e5, e6⟩ := h
  exact ⟨A, c, v', e1, own_lower e2 ht.size, e3, e4, ht.trans e5, e6⟩
theorem SendPost.none_ {Hb G : Nat} {bl : Bks} {T W : Nat} {cl : Bool} {s : Sd} {w w' : World} {v' : Value} (ht : Turn (fun b => b = G) w w') (hb : Blk w' G 68 (sndC T W cl v' s)) (hl : s.ph < 3 → LeftV w' Hb G bl v' s.k) :
    SendPost Hb G bl T W cl ([], s) w (.returned (.slice none 0 0)) w' := ⟨none, 0, v', rfl, World.ownsRow_nil _ _ _ _, Nat.le_refl _, by omega, ht, hb, hl⟩

theorem stop_any {G : Nat} {w : World} {c0 c1 c2 c3 c4 c5 c6 c7 c8 c9 c10 : Value} (e : Value) (he : e = .nilIface ∨ ∃ t u, e = .iface t u) (h : Blk w G 68 #[c0, c1, c2, c3, c4, c5, c6, c7, c8, c9, c10]) :
    Calls Try.prog 53 #[.pointer (some ⟨G, 0, none⟩), e] w fun r w' => r = .returned (.tuple #[]) ∧ Blk w' G 68 #[c0, c1, .slice none 0 0, c3, c4, .int .i64 3, e, c7, c8, c9, c10] ∧
      Turn (fun b => b = G) w w' := by
  have h2 : w.cell? ⟨G, 2, none⟩ = some c2 := h.cell 2
  have h5 : w.cell? ⟨G, 5, none⟩ = some c5 := h.cell 5
  have h6 : w.cell? ⟨G, 6, none⟩ = some c6 := h.cell 6
  have hf := h.frozen
  rcases he with rfl | ⟨t, u, rfl⟩
  all_goals
    go_enter Try.func53, Try.ntmps53
    go_wp2
    refine bodyPost_end (results_none rfl _ _ _) rfl ?_
    exact ⟨rfl, ((h.put 5 _).put 6 _).put 2 _, turnAt _ _ (turnAt _ _ (turnAt _ _ (Turn.refl _ w)))⟩

theorem sendS_enc {bl : Bks} {s : Sd} {num : UInt8} {d : List UInt8} (h : s.ph = 1) (hk : bl[s.k]? = some (num, d)) (ho : encOk d = true) : sendS bl s = (enc num d s.crc, s) := by unfold sendS; rw [if_pos h, hk]; simp [ho]
theorem sendS_bad {bl : Bks} {s : Sd} {num : UInt8} {d : List UInt8} (h : s.ph = 1) (hk : bl[s.k]? = some (num, d)) (ho : ¬ encOk d = true) : sendS bl s = ([], { s with ph := 3, err := 14 }) := by unfold sendS; rw [if_pos h, hk]; simp [ho]
theorem sendS_end {bl : Bks} {s : Sd} (h : s.ph = 2) : sendS bl s = ([4], s) := by unfold sendS; rw [if_neg (by omega), if_pos h]
theorem sendS_no {bl : Bks} {s : Sd} (h : s.ph ≠ 1) (h2 : s.ph ≠ 2) : sendS bl s = ([], s) := by unfold sendS; rw [if_neg h, if_neg h2]
set_option maxRecDepth 100000 in
set_option maxHeartbeats 4000000 in
theorem send_any {Hb G : Nat} {bl : Bks} {T W : Nat} {cl : Bool} {s : Sd} {v : Value} {w : World} (h : Blk w G 68 (sndC T W cl v s)) (hl : s.ph < 3 → LeftV w Hb G bl v s.k) (h1 : s.ph = 1 → s.k < bl.length) (hp : s.ph ≤ 3) :
    Calls Try.prog 61 #[.pointer (some ⟨G, 0, none⟩)] w (SendPost Hb G bl T W cl (sendS bl s) w) := by
  obtain ⟨ph, k, crc, err, tries, wait, can⟩ := s
  have h2 : w.cell? ⟨G, 2, none⟩ = some v := h.cell 2
  have h3 : w.cell? ⟨G, 3, none⟩ = some (.bool crc) := h.cell 3
  have h5 : w.cell? ⟨G, 5, none⟩ = some (.int .i64 (ph : Int)) := h.cell 5
  have H := keepHid h
  have HL := keepHid hl
  rcases (by simp at hp; omega : ph = 1 ∨ ph = 2 ∨ (ph ≠ 1 ∧ ph ≠ 2)) with rfl | rfl | ⟨n1, n2⟩
  · have hk : k < bl.length := h1 rfl
    obtain ⟨p, hpk⟩ : ∃ p, bl[k]? = some p := ⟨_, List.getElem?_eq_getElem hk⟩
    obtain ⟨B, A, e1, e2, e3⟩ := hl (by simp)
    obtain rfl := e2 hk
    obtain ⟨Ap, c, f1, f2, f3, f4⟩ := e3.at_ k p (Nat.le_refl _) hpk
    obtain ⟨num, d⟩ := p
    obtain ⟨m, hm⟩ : ∃ m, bl.length - k = m := ⟨_, rfl⟩
    have hm0 : 0 < m := by omega
    simp only [] at e1 f1 f2 f3 f4 hm
    rw [hm] at e1
    subst e1
    have hd := f3.max
    have F3 := keepHid (f3.more e3.le)
    obtain ⟨n, hn⟩ : ∃ n, d.length = n := ⟨_, rfl⟩
    rw [hn] at f2 hd
    have HN := keepHid hn
    have HK := keepHid hpk
    have HD : Hid (Below w.heap.size w w.drew) := keepHid (Below.drew (Below.refl _ _))
    clear h hl h1 e2 f3 f4 hpk hn hm e3
    by_cases hok : encOk d = true
    · have hnn : n = 128 ∨ n = 1024 := by rw [← HN.out]; simpa [encOk] using hok
      rw [sendS_enc (s := ⟨1, k, crc, err, tries, wait, can⟩) rfl HK.out hok]
      have HMK : Hid (∀ w', Below w.heap.size w w' → Calls Try.prog 58 #[.agg #[.int .u8 (num.toNat : Int), .slice Ap n c], .bool crc] w' (MakePost w' (enc num d crc))) := keepHid (fun w' hb => make_any num Ap n c w.heap.size d crc hnn w' (by rw [← HN.out]; exact F3.out.below hb) hb.size)
      have HFIN : Hid (∀ w5 A5 c5, OwnB w5 w.drew.heap.size 5 (.slice A5 (enc num d crc).length c5) (enc num d crc).length (enc num d crc) → (enc num d crc).length ≤ c5 → c5 ≤ 9223372036854775807 → Below w.drew.heap.size w.drew w5 →
          SendPost Hb G bl T W cl (enc num d crc, ⟨1, k, crc, err, tries, wait, can⟩) w (.returned (.slice A5 (enc num d crc).length c5)) w5) := keepHid (fun w5 A5 c5 ho hc hm hb => by
        have t1 : Turn (fun b => b = G) w w5 := Turn.trans (b := w.drew) (Turn.drew (Turn.refl _ w)) (Turn.of_below hb)
        exact ⟨A5, c5, _, rfl, ho, hc, hm, t1, H.out.drew.below hb H.out.drew.lt, fun _ => (HL.out (by simp)).turn t1⟩)
      clear hnn hok
      go_enter Try.func61, Try.ntmps61
      go_upto_region 3 with fail
      go_region_with (go_at_call 58; (with_reducible refine (HMK.out _ HD.out).mono ?_); rintro e w5 ⟨A5, c5, rfl, ho5, hc5, hm5, hb5⟩; have HO5 := keepHid ho5; have HB5 := keepHid hb5; clear ho5 hb5)
      all_goals (go_wp2; go_ret; exact HFIN.out _ _ _ HO5.out hc5 hm5 HB5.out)
    · have hnn : n ≠ 128 ∧ n ≠ 1024 := by rw [← HN.out]; simpa [encOk] using hok
      rw [sendS_bad (s := ⟨1, k, crc, err, tries, wait, can⟩) rfl HK.out hok]
      have HMK : Hid (∀ w', Calls Try.prog 58 #[.agg #[.int .u8 (num.toNat : Int), .slice Ap n c], .bool crc] w' fun e w'' => e = .returned (.tuple #[.slice none 0 0, .bool false]) ∧ Below w'.heap.size w' w'') := keepHid (fun w' => make_none num Ap n c crc hnn.1 hnn.2 hd w')
      have HST : Hid (∀ w', Below w.drew.heap.size w.drew w' → Calls Try.prog 53 #[.pointer (some ⟨G, 0, none⟩), .iface 76 (.int .i64 14)] w' fun r w6 => r = .returned (.tuple #[]) ∧
          SendPost Hb G bl T W cl ([], ⟨3, k, crc, 14, tries, wait, can⟩) w (.returned (.slice none 0 0)) w6) := keepHid (fun w' hb => by
        refine (stop_any _ (.inr ⟨_, _, rfl⟩) (H.out.drew.below hb H.out.drew.lt)).mono ?_
        rintro r w6 ⟨e1, e2, e3⟩
        have t1 : Turn (fun b => b = G) w w' := Turn.trans (b := w.drew) (Turn.drew (Turn.refl _ w)) (Turn.of_below hb)
        exact ⟨e1, SendPost.none_ (t1.trans e3) e2 (fun h => absurd h (by simp))⟩)
      clear hnn hok
      go_enter Try.func61, Try.ntmps61
      go_upto_region 3 with fail
      go_region_with (go_at_call 58; (with_reducible refine (HMK.out _).mono ?_); rintro e w5 ⟨rfl, hb5⟩; have HB5 := keepHid hb5; clear hb5)
      all_goals (go_wp2_with (go_at_call 53; (with_reducible refine (HST.out _ HB5.out).mono ?_); rintro r w6 ⟨rfl, hp6⟩; have HP := keepHid hp6; clear hp6); go_ret; exact HP.out)
  · rw [sendS_end (s := ⟨2, k, crc, err, tries, wait, can⟩) rfl]
    clear h hl
    have hfin : SendPost Hb G bl T W cl ([4], ⟨2, k, crc, err, tries, wait, can⟩) w (.returned (.slice (some ⟨w.heap.size, 0, none⟩) 1 1)) (w.alloc (.cells #[.int .u8 4] 5)) :=
      ⟨_, 1, v, rfl, own_new w _ _ 1 [4] _ rfl (Nat.le_refl _) rfl rfl (by omega), Nat.le_refl _, by show 1 ≤ _; omega, (Turn.refl _ w).alloc _, H.out.alloc _, fun _ => (HL.out (by simp)).turn ((Turn.refl _ w).alloc _)⟩
    have HFIN := keepHid hfin
    clear hfin
    go_enter Try.func61, Try.ntmps61
    go_wp2
    go_ret
    exact HFIN.out
  · rw [sendS_no (s := ⟨ph, k, crc, err, tries, wait, can⟩) n1 n2]
    have hfin : SendPost Hb G bl T W cl ([], ⟨ph, k, crc, err, tries, wait, can⟩) w (.returned (.slice none 0 0)) w := SendPost.none_ (Turn.refl _ w) h hl
    have HFIN := keepHid hfin
    have q1 : ((ph : Int) == 1) = false := by simp; omega
    have q2 : ((ph : Int) == 2) = false := by simp; omega
    clear h hl hfin
    go_enter Try.func61, Try.ntmps61
    go_wp2
    go_ret
    exact HFIN.out
end Go.Proofs.Ytjbkhaoddababaa
