/-
  A receiver is made; a tick goes by; what is asked of it.
-/
import Derived.Test.YtjbkhaoddababaaReceiverUse
namespace Go.Proofs.Ytjbkhaoddababaa
open Go.RowKit
set_option linter.unusedVariables false

/-- A row of a call's own lies apart from what was there before. -/
theorem apart_own {w : World} {A : Option Addr} {n c base : Nat} {d : List UInt8} {O : Nat → Prop} (h : OwnB w base 5 (.slice A n c) n d) (hg : ∀ i, O i → i < base) : Apart O A n := fun hn ad e hh => by
  rcases h.form with ⟨A', c', e1, _, _, e2⟩
  have e3 : A = A' := by injection e1
  subst e3
  rcases e2 with rfl | ⟨g', rfl, h1, h2⟩
  · cases e
  · obtain rfl := Option.some.inj e
    have := hg _ hh
    simp only at this
    omega
set_option maxRecDepth 100000 in
set_option maxHeartbeats 4000000 in
theorem tick_rcv {w : World} {B G W : Nat} {O : Nat → Prop} {crc cl : Bool} {s : Rd} (h : Rcv w B G O crc cl W s) :
    Calls Try.prog 28 #[.pointer (some ⟨G, 0, none⟩)] w (RPost B G O crc cl W (tickR crc W s) w) := by
  have hw1 := h.w1
  have hw99 := h.w99
  have h1 := h.t1
  have ht99 := h.t99
  have H := keepHid h
  obtain ⟨c5, c6, c7, c9, hf⟩ : w.cell? ⟨G, 5, none⟩ = some (.int .i64 (W : Int)) ∧ w.cell? ⟨G, 6, none⟩ = some (.int .i64 (s.tk : Int)) ∧ (∃ u, w.cell? ⟨G, 7, none⟩ = some u) ∧ w.cell? ⟨G, 9, none⟩ = some (.bool s.ov) ∧ ∀ i, w.frozen? ⟨G, i, none⟩ = false := by
    obtain ⟨⟨_, _, h1, _⟩, _⟩ := h
    exact ⟨h1.cell 5, h1.cell 6, ⟨_, h1.cell 7⟩, h1.cell 9, h1.frozen⟩
  obtain ⟨u7, c7⟩ := c7
  unfold tickR
  by_cases ho : s.ov = true
  · rw [if_pos ho]
    rw [ho] at c9
    have HP : Hid (RPost B G O crc cl W ([], s) w (.returned (.slice none 0 0)) w) := keepHid (RPost.none_ (Turn.refl _ w) h (fun i hi => .inl hi))
    clear h ho
    go_enter Try.func28, Try.ntmps28
    go_wp2
    go_ret
    exact HP.out
  rw [if_neg ho]
  have ho' : s.ov = false := by simpa using ho
  rw [ho'] at c9
  obtain ⟨u, hu⟩ : ∃ u, s.tk = u + 1 := ⟨s.tk - 1, by omega⟩
  have i1 : (s.tk : Int) - 1 = (u : Int) := by omega
  have hu99 : (u : Int) ≤ 98 := by omega
  by_cases hk : 1 < s.tk
  · rw [if_pos hk]
    have hr : Rcv (w.setCell ⟨G, 6, none⟩ (.int .i64 (u : Int))) B G O crc cl W { s with tk := s.tk - 1 } := h.put_ 6 _ (fun _ _ => by rw [show s.tk - 1 = u by omega]; rfl) rfl rfl (by show 1 ≤ s.tk - 1; omega) (by show s.tk - 1 ≤ 99; omega) h.tr h.bl
    have HP : Hid (RPost B G O crc cl W ([], { s with tk := s.tk - 1 }) w (.returned (.slice none 0 0)) (w.setCell ⟨G, 6, none⟩ (.int .i64 (u : Int)))) := keepHid (RPost.none_ (h.turnO 6 _) hr (fun i hi => .inl hi))
    have i2 : 0 < (u : Int) := by omega
    generalize ({ s with tk := s.tk - 1 } : Rd) = s' at *
    generalize s.tk = tk at *
    clear h hr ho ho' hk h1 ht99 hu hw1 hw99
    go_enter Try.func28, Try.ntmps28
    go_wp2
    go_ret
    exact HP.out
  · rw [if_neg hk]
    obtain rfl : u = 0 := by omega
    obtain ⟨w2, hw2⟩ : ∃ w2, (((w.setCell ⟨G, 6, none⟩ (.int .i64 0)).setCell ⟨G, 6, none⟩ (.int .i64 (W : Int))).setCell ⟨G, 7, none⟩ (.slice none 0 0)) = w2 := ⟨_, rfl⟩
    have hd : Rcv w2 B G O crc cl W { s with tk := W, bu := [] } := by
      rw [← hw2]
      have t : Turn (fun b => b = G) w (((w.setCell ⟨G, 6, none⟩ (.int .i64 0)).setCell ⟨G, 6, none⟩ (.int .i64 (W : Int))).setCell ⟨G, 7, none⟩ (.slice none 0 0)) := turnAt 7 _ (turnAt 6 _ (turnAt 6 _ (Turn.refl _ w)))
      obtain ⟨⟨vb, vd, h1, h2, h3, h4, h5⟩, hg, hl, hge, a1, a2, a3, a4, a5, a6⟩ := h
      exact ⟨⟨.slice none 0 0, vd, ((h1.put 6 _).put 6 _).put 7 _, World.ownsRow_nil _ _ _ _, h3.keep fun j hj hlt => t.block j hlt (h5 j hj).2, fun j hj => by simp [Value.ownBlock] at hj, h5⟩, hg, fun j hj => Nat.lt_of_lt_of_le (hl j hj) t.size, hge, a1, a2, hw1, hw99, a5, a6⟩
    have tt : Turn O w w2 := by
      rw [← hw2]
      exact ((turnAt 7 _ (turnAt 6 _ (turnAt 6 _ (Turn.refl _ w)))) : Turn (fun b => b = G) w _).mono (fun i hi => by rw [hi]; exact h.g)
    have HAS : Hid (Calls Try.prog 43 #[.pointer (some ⟨G, 0, none⟩)] w2 (RPost B G O crc cl W (askR crc { s with tk := W, bu := [] }) w)) := keepHid ((ask_any hd).mono fun _ _ h => h.of tt (fun i hi => .inl hi))
    generalize askR crc { s with tk := W, bu := [] } = r at *
    generalize s.tk = tk at *
    clear h hd tt ho ho' hk h1 ht99 hu
    go_enter Try.func28, Try.ntmps28
    go_wp2_with (go_at_call 43; (with_reducible refine HAS.out.mono ?_); rintro e w5 ⟨A5, c5, O5, rfl, hp5⟩; have HP5 := keepHid hp5; clear hp5)
    go_ret
    exact ⟨A5, c5, O5, rfl, HP5.out⟩
theorem done_rcv {w : World} {B G W : Nat} {O : Nat → Prop} {crc cl : Bool} {s : Rd} (h : Rcv w B G O crc cl W s) :
    Calls Try.prog 40 #[.pointer (some ⟨G, 0, none⟩)] w fun e w' => e = .returned (.tuple #[.bool s.ov, errV s.er]) ∧ w' = w.drew := by
  obtain ⟨c9, c10⟩ : w.cell? ⟨G, 9, none⟩ = some (.bool s.ov) ∧ w.cell? ⟨G, 10, none⟩ = some (errV s.er) := by
    obtain ⟨⟨_, _, h1, _⟩, _⟩ := h
    exact ⟨h1.cell 9, h1.cell 10⟩
  clear h
  rcases errV_or s.er with e | ⟨t, u, e⟩
  all_goals
    rw [e] at c10 ⊢
    go_enter Try.func40, Try.ntmps40
    go_upto_region 1 with fail
    go_region
    go_wp2
    go_ret2
    exact ⟨rfl, rfl⟩
/-- The data, in a row of the call's own. -/
theorem data_rcv {w : World} {B G W : Nat} {O : Nat → Prop} {crc cl : Bool} {s : Rd} (h : Rcv w B G O crc cl W s) (hn : s.da.length ≤ 140737488355328) :
    Calls Try.prog 31 #[.pointer (some ⟨G, 0, none⟩)] w (RetB w s.da) := by
  obtain ⟨⟨vb, vd, h1, h2, h3, h4, h5⟩, hg, hl, hge, a1, a2, a3, a4, a5, a6⟩ := h
  obtain ⟨Ad, cd, rfl⟩ := len_sl h3
  have c8 : w.cell? ⟨G, 8, none⟩ = some (.slice Ad s.da.length cd) := h1.cell 8
  have HC := keepHid (clone_any Ad s.da.length cd w.heap.size s.da w (h3.bys (by omega)) hn)
  generalize s.da.length = n at *
  generalize s.da = d at *
  clear h1 h2 h3 h4 h5 hg hl hge a1 a2 a3 a4 a5 a6
  go_enter Try.func31, Try.ntmps31
  go_wp2_with (go_at_call 38; (with_reducible refine HC.out.mono ?_); rintro e w5 ⟨A5, c5, rfl, hp5⟩; have HP5 := keepHid hp5; clear hp5)
  go_ret
  exact ⟨A5, c5, rfl, HP5.out⟩
def OfRPost (w : World) (crc cl : Bool) (W : Nat) (s : Rd) (e : Ending) (w' : World) : Prop :=
  ∃ G, e = .returned (.pointer (some ⟨G, 0, none⟩)) ∧ w.heap.size ≤ G ∧ Rcv w' w.heap.size G (fun i => i = G) crc cl W s ∧ Below w.heap.size w w'
set_option maxRecDepth 100000 in
set_option maxHeartbeats 4000000 in
theorem of_rcv (z1 z2 : Int) (number : UInt8) (crc cl : Bool) (many : Int) (w : World) (hm : many ≤ 9223372036854775807) :
    Calls Try.prog 12 #[.agg #[.int .i64 z1, .int .i64 z2], .int .u8 (number.toNat : Int), .bool crc, .bool cl, .int .i64 many] w (OfRPost w crc cl (capZ z2 99) (newR number many (capZ z1 9))) := by
  obtain ⟨hT, hT1, hT9⟩ := capZ_is z1 9 (by omega)
  obtain ⟨hW, hW1, hW9⟩ := capZ_is z2 99 (by omega)
  generalize capZ z1 9 = T at *
  generalize capZ z2 99 = W at *
  obtain ⟨mb, hmb⟩ : ∃ mb, max many 1 = mb := ⟨_, rfl⟩
  obtain ⟨m1, hm1⟩ : ∃ m1, max z1 1 = m1 := ⟨_, rfl⟩
  obtain ⟨m2, hm2⟩ : ∃ m2, max z2 1 = m2 := ⟨_, rfl⟩
  rw [hm1] at hT
  rw [hm2] at hW
  have q1 := fun ts t W => max_z ts t z1 1 m1 hm1 W
  have q2 := fun ts t W => max_z ts t z2 1 m2 hm2 W
  have q3 := fun ts t W => min_z ts t m1 9 T hT W
  have q4 := fun ts t w => min_z ts t m2 99 W hW w
  have q5 := fun ts t w => max_z ts t many 1 mb hmb w
  obtain ⟨w1, hw1⟩ : ∃ w1, w.alloc (.cells #[.int .i64 z1, .int .i64 z2] 23) = w1 := ⟨_, rfl⟩
  have hb1 : Below w.heap.size w w1 := by rw [← hw1]; exact (Below.refl _ _).alloc (Nat.le_refl _) _
  have hk1 : Blk w1 w.heap.size 23 #[.int .i64 z1, .int .i64 z2] := by rw [← hw1]; exact Blk.new w _ _
  have a0 : w1.cell? ⟨w.heap.size, 0, none⟩ = some (.int .i64 z1) := hk1.cell 0
  have a1 : w1.cell? ⟨w.heap.size, 1, none⟩ = some (.int .i64 z2) := hk1.cell 1
  have HP : Hid (OfRPost w crc cl W (newR number many T) (.returned (.pointer (some ⟨w1.heap.size, 0, none⟩))) (w1.alloc (.cells #[.int .u8 (number.toNat : Int), .bool crc, .bool cl, .int .i64 mb, .int .i64 (T : Int), .int .i64 (W : Int), .int .i64 1, .slice none 0 0, .slice none 0 0, .bool false, .nilIface] 70))) := keepHid (by
    refine ⟨w1.heap.size, rfl, hb1.size, ?_, hb1.alloc hb1.size _⟩
    refine ⟨⟨.slice none 0 0, .slice none 0 0, ?_, World.ownsRow_nil _ _ _ _, World.ownsRow_nil _ _ _ _, fun i hi => by simp [Value.ownBlock] at hi, fun i hi => by simp [Value.ownBlock] at hi⟩, rfl, fun i hi => by rw [hi]; simp, fun i hi => by rw [hi]; exact hb1.size, hW1, hW9, Nat.le_refl _, by show 1 ≤ 99; omega, hT9, by show max many 1 ≤ _; omega⟩
    rw [← hmb]
    exact Blk.new w1 _ _)
  clear hT hW hm1 hm2 hT1 hT9 hW1 hW9 hb1 hk1 hm hmb
  go_enter Try.func12, Try.ntmps12
  go_wp2
  go_ret
  exact HP.out
end Go.Proofs.Ytjbkhaoddababaa
