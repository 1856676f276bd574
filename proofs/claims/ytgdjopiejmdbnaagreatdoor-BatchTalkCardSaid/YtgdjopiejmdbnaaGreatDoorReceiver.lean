/-
  A receiver in memory; what 'stop' and 'ask' do to it.
-/
import Derived.Test.YtgdjopiejmdbnaaGreatDoorReceiverPlain
import Derived.Test.YtgdjopiejmdbnaaGreatDoorSmall
namespace Go.Proofs.YtgdjopiejmdbnaaGreatDoor
open Go.RowKit
set_option linter.unusedVariables false

/-- A receiver's cells. -/
def rcvC (crc cl : Bool) (W : Nat) (vb vd : Value) (s : Rd) : Array Value :=
  #[.int .u8 (s.ex.toNat : Int), .bool crc, .bool cl, .int .i64 s.bl, .int .i64 (s.tr : Int), .int .i64 (W : Int), .int .i64 (s.tk : Int), vb, vd, .bool s.ov, errV s.er]
/-- A receiver in block G, whose own blocks are O, none of them below B. -/
structure Rcv (w : World) (B G : Nat) (O : Nat → Prop) (crc cl : Bool) (W : Nat) (s : Rd) : Prop where
  mem : ∃ vb vd, Blk w G 118 (rcvC crc cl W vb vd s) ∧ OwnB w B 5 vb s.bu.length s.bu ∧ OwnB w B 5 vd s.da.length s.da ∧
    (∀ i, vb.ownBlock = some i → O i ∧ i ≠ G ∧ vd.ownBlock ≠ some i) ∧ (∀ i, vd.ownBlock = some i → O i ∧ i ≠ G)
  g : O G
  lt : ∀ i, O i → i < w.heap.size
  ge : ∀ i, O i → B ≤ i
  w1 : 1 ≤ W
  w99 : W ≤ 99
  t1 : 1 ≤ s.tk
  t99 : s.tk ≤ 99
  tr : s.tr ≤ 9
  bl : s.bl ≤ 9223372036854775807
/-- What is no block of the receiver's may turn. -/
theorem Rcv.turns {S : Nat → Prop} {w w' : World} {B G W : Nat} {O : Nat → Prop} {crc cl : Bool} {s : Rd} (h : Rcv w B G O crc cl W s) (ht : Turn S w w') (hS : ∀ i, O i → ¬ S i) : Rcv w' B G O crc cl W s := by
  obtain ⟨⟨vb, vd, h1, h2, h3, h4, h5⟩, hg, hl, hge, a1, a2, a3, a4, a5, a6⟩ := h
  exact ⟨⟨vb, vd, ht.blk h1 (hS _ hg), h2.keep fun i hi hlt => ht.block i hlt (hS _ (h4 i hi).1), h3.keep fun i hi hlt => ht.block i hlt (hS _ (h5 i hi).1), h4, h5⟩, hg, fun i hi => Nat.lt_of_lt_of_le (hl i hi) ht.size, hge, a1, a2, a3, a4, a5, a6⟩
theorem Rcv.below {w w' : World} {B G W : Nat} {O : Nat → Prop} {crc cl : Bool} {s : Rd} (h : Rcv w B G O crc cl W s) (hb : Below w.heap.size w w') : Rcv w' B G O crc cl W s := h.turns (S := fun _ => False) (Turn.of_below hb) (fun _ _ h => h)
theorem Rcv.drew {w : World} {B G W : Nat} {O : Nat → Prop} {crc cl : Bool} {s : Rd} (h : Rcv w B G O crc cl W s) : Rcv w.drew B G O crc cl W s := h.below (Below.drew (Below.refl _ _))
/-- What a call of a receiver's leaves: what is answered, in a row of its own, and what the receiver has then. -/
def RPost (B G : Nat) (O : Nat → Prop) (crc cl : Bool) (W : Nat) (r : List UInt8 × Rd) (w : World) (e : Ending) (w' : World) : Prop :=
  ∃ A c O', e = .returned (.slice A r.1.length c) ∧ OwnB w' w.heap.size 5 (.slice A r.1.length c) r.1.length r.1 ∧ r.1.length ≤ c ∧ c ≤ 9223372036854775807 ∧ Turn O w w' ∧ Rcv w' B G O' crc cl W r.2 ∧
    (∀ i, O' i → O i ∨ w.heap.size ≤ i) ∧ ∀ ad, A = some ad → ¬ O' ad.block
theorem RPost.of {B G W : Nat} {O O1 : Nat → Prop} {crc cl : Bool} {r : List UInt8 × Rd} {w w1 w' : World} {e : Ending} (ht : Turn O w w1) (hO : ∀ i, O1 i → O i ∨ w.heap.size ≤ i) (h : RPost B G O1 crc cl W r w1 e w') : RPost B G O crc cl W r w e w' := by
  obtain ⟨A, c, O', e1, e2, e3, e4, e5, e6, e7, e8⟩ := h
  refine ⟨A, c, O', e1, own_lower e2 ht.size, e3, e4, ?_, e6, fun i hi => ?_, e8⟩
  · refine ⟨e5.os.trans ht.os, e5.tape.trans ht.tape, e5.output.trans ht.output, Nat.le_trans ht.size e5.size, fun i hi hn => (e5.block i (Nat.lt_of_lt_of_le hi ht.size) (fun h1 => ?_)).trans (ht.block i hi hn)⟩
    rcases hO i h1 with h2 | h2
    · exact hn h2
    · omega
  · rcases e7 i hi with h1 | h1
    · exact hO i h1
    · exact .inr (Nat.le_trans ht.size h1)
theorem RPost.none_ {B G W : Nat} {O O' : Nat → Prop} {crc cl : Bool} {s : Rd} {w w' : World} (ht : Turn O w w') (h : Rcv w' B G O' crc cl W s) (hO : ∀ i, O' i → O i ∨ w.heap.size ≤ i) : RPost B G O crc cl W ([], s) w (.returned (.slice none 0 0)) w' :=
  ⟨none, 0, O', rfl, World.ownsRow_nil _ _ _ _, Nat.le_refl _, by omega, ht, h, hO, fun ad e => by cases e⟩

theorem stopR_any {G : Nat} {w : World} {c0 c1 c2 c3 c4 c5 c6 c7 c8 c9 c10 : Value} (e : Value) (he : e = .nilIface ∨ ∃ t u, e = .iface t u) (A : Option Addr) (n c : Nat) (h : Blk w G 118 #[c0, c1, c2, c3, c4, c5, c6, c7, c8, c9, c10]) :
    Calls Tryz.prog 85 #[.pointer (some ⟨G, 0, none⟩), e, .slice A n c] w fun r w' => r = .returned (.slice A n c) ∧ Blk w' G 118 #[c0, c1, c2, c3, c4, c5, c6, .slice none 0 0, c8, .bool true, e] ∧
      Turn (fun b => b = G) w w' := by
  have h7 : w.cell? ⟨G, 7, none⟩ = some c7 := h.cell 7
  have h9 : w.cell? ⟨G, 9, none⟩ = some c9 := h.cell 9
  have h10 : w.cell? ⟨G, 10, none⟩ = some c10 := h.cell 10
  have hf := h.frozen
  rcases he with rfl | ⟨t, u, rfl⟩
  all_goals
    go_enter Tryz.func85, Tryz.ntmps85
    go_wp2
    go_ret
    exact ⟨rfl, ((h.put 9 _).put 10 _).put 7 _, turnAt _ _ (turnAt _ _ (turnAt _ _ (Turn.refl _ w)))⟩
/-- An answer, in a row of its own. -/
theorem ack_post {w : World} {B G W : Nat} {O : Nat → Prop} {crc cl : Bool} {s : Rd} (h : Rcv w B G O crc cl W s) (out : List UInt8) (n : Nat) (hn : out.length = n) (hm : n ≤ 1000000) (cs : Array Value) (hcs : cs = byteVals out) (g : Nat) (hg : g = w.heap.size) :
    RPost B G O crc cl W (out, s) w (.returned (.slice (some ⟨g, 0, none⟩) n n)) (w.alloc (.cells cs 5)) := by
  subst hn hg
  exact ⟨_, _, O, rfl, own_new w w.heap.size w.heap.size out.length out cs rfl (Nat.le_refl _) rfl hcs (by omega), Nat.le_refl _, Nat.le_trans hm (by decide), (Turn.refl _ w).alloc _, h.below ((Below.refl _ _).alloc (Nat.le_refl _) _), fun i hi => .inl hi,
    fun ad e hh => by obtain rfl := Option.some.inj e; exact absurd (h.lt _ hh) (Nat.lt_irrefl _)⟩
/-- A stop, whose answer lies in a new row. -/
theorem stop_new {w : World} {B G W : Nat} {O : Nat → Prop} {crc cl : Bool} {s : Rd} (h : Rcv w B G O crc cl W s) (en : Nat) (ev : Value) (he : errV en = ev) (out : List UInt8) (n : Nat) (hn : out.length = n) (hm : n ≤ 1000000) (cs : Array Value) (hcs : cs = byteVals out) (g : Nat) (hg : g = w.heap.size) :
    Calls Tryz.prog 85 #[.pointer (some ⟨G, 0, none⟩), ev, .slice (some ⟨g, 0, none⟩) n n] (w.alloc (.cells cs 5)) (RPost B G O crc cl W (out, stopR s en) w) := by
  subst hn hg he
  have h' := h.below (w' := w.alloc (.cells cs 5)) ((Below.refl _ _).alloc (Nat.le_refl _) _)
  have ho := own_new w w.heap.size w.heap.size out.length out cs rfl (Nat.le_refl _) rfl hcs (by omega)
  have hnO : ¬ O w.heap.size := fun hh => absurd (h.lt _ hh) (Nat.lt_irrefl _)
  obtain ⟨⟨vb, vd, h1, h2, h3, h4, h5⟩, hg, hl, hge, a1, a2, a3, a4, a5, a6⟩ := h'
  refine (stopR_any (errV en) (errV_or en) _ _ _ h1).mono ?_
  rintro e w' ⟨rfl, hb, htt⟩
  have t1 : Turn O (w.alloc (.cells cs 5)) w' := htt.mono (fun i hi => by rw [hi]; exact hg)
  refine ⟨_, _, O, rfl, ho.turn htt (fun hh => hnO (by rw [hh]; exact hg)), Nat.le_refl _, Nat.le_trans hm (by decide), ((Turn.refl _ w).alloc _).trans t1, ?_, fun i hi => .inl hi, fun ad e => by obtain rfl := Option.some.inj e; exact hnO⟩
  exact ⟨⟨.slice none 0 0, vd, hb, World.ownsRow_nil _ _ _ _, h3.keep fun i hi hlt => htt.block i hlt (h5 i hi).2, fun i hi => by simp [Value.ownBlock] at hi, h5⟩, hg, fun i hi => Nat.lt_of_lt_of_le (hl i hi) htt.size, hge, a1, a2, a3, a4, a5, a6⟩
/-- A stop that answers nothing. -/
theorem stop_none {w : World} {B G W : Nat} {O : Nat → Prop} {crc cl : Bool} {s : Rd} (h : Rcv w B G O crc cl W s) (en : Nat) (ev : Value) (he : errV en = ev) :
    Calls Tryz.prog 85 #[.pointer (some ⟨G, 0, none⟩), ev, .slice none 0 0] w (RPost B G O crc cl W ([], stopR s en) w) := by
  subst he
  obtain ⟨⟨vb, vd, h1, h2, h3, h4, h5⟩, hg, hl, hge, a1, a2, a3, a4, a5, a6⟩ := h
  refine (stopR_any (errV en) (errV_or en) _ _ _ h1).mono ?_
  rintro e w' ⟨rfl, hb, htt⟩
  refine RPost.none_ (htt.mono (fun i hi => by rw [hi]; exact hg)) (O' := O) ?_ (fun i hi => .inl hi)
  exact ⟨⟨.slice none 0 0, vd, hb, World.ownsRow_nil _ _ _ _, h3.keep fun i hi hlt => htt.block i hlt (h5 i hi).2, fun i hi => by simp [Value.ownBlock] at hi, h5⟩, hg, fun i hi => Nat.lt_of_lt_of_le (hl i hi) htt.size, hge, a1, a2, a3, a4, a5, a6⟩
theorem len_sl {w : World} {B n : Nat} {v : Value} {d : List UInt8} (h : OwnB w B 5 v n d) : ∃ A c, v = .slice A n c := by
  obtain ⟨A, c, e, _⟩ := h.form
  exact ⟨A, c, e⟩
set_option maxRecDepth 100000 in
set_option maxHeartbeats 4000000 in
theorem ask_any {w : World} {B G W : Nat} {O : Nat → Prop} {crc cl : Bool} {s : Rd} (h : Rcv w B G O crc cl W s) :
    Calls Tryz.prog 77 #[.pointer (some ⟨G, 0, none⟩)] w (RPost B G O crc cl W (askR crc s) w) := by
  have H := keepHid h
  obtain ⟨⟨vb, vd, h1, h2, h3, h4, h5⟩, hg, hl, hge, a1, a2, a3, a4, a5, a6⟩ := h
  obtain ⟨Ad, cd, rfl⟩ := len_sl h3
  have c8 : w.cell? ⟨G, 8, none⟩ = some (.slice Ad s.da.length cd) := h1.cell 8
  have c4 : w.cell? ⟨G, 4, none⟩ = some (.int .i64 (s.tr : Int)) := h1.cell 4
  have c1 : w.cell? ⟨G, 1, none⟩ = some (.bool crc) := h1.cell 1
  have hf := h1.frozen
  unfold askR
  by_cases hd : s.da = []
  · rw [if_neg (by simp [hd])]
    have hn0 : s.da.length = 0 := by rw [hd]; rfl
    rw [hn0] at c8
    by_cases ht : s.tr = 0
    · rw [if_pos ht]
      rw [ht] at c4
      have HST := keepHid (stop_new H.out 10 (.iface 71 (.int .i64 10)) rfl [24, 24] 2 rfl (by omega) #[.int .u8 24, .int .u8 24] rfl w.heap.size rfl)
      generalize stopR s 10 = r at *
      clear h1 h2 h3 h4 h5 hg hl hge a1 a2 a3 a4 a5 a6 hd hn0 ht
      go_enter Tryz.func77, Tryz.ntmps77
      go_wp2_with (go_at_call 85; (with_reducible refine HST.out.mono ?_); rintro e w5 ⟨A5, c5, O5, rfl, hp5⟩; have HP5 := keepHid hp5; clear hp5)
      go_ret
      exact ⟨A5, c5, O5, rfl, HP5.out⟩
    · rw [if_neg ht]
      have hb := h1.put 4 (.int .i64 (((s.tr - 1 : Nat) : Int)))
      have t1 : Turn (fun b => b = G) w (w.setCell ⟨G, 4, none⟩ (.int .i64 (((s.tr - 1 : Nat) : Int)))) := turnAt _ _ (Turn.refl _ w)
      have hr : Rcv (w.setCell ⟨G, 4, none⟩ (.int .i64 (((s.tr - 1 : Nat) : Int)))) B G O crc cl W { s with tr := s.tr - 1 } :=
        ⟨⟨vb, .slice Ad s.da.length cd, hb, h2.keep fun i hi hlt => t1.block i hlt (h4 i hi).2.1, h3.keep fun i hi hlt => t1.block i hlt (h5 i hi).2, h4, h5⟩, hg, fun i hi => by have := hl i hi; simpa [World.setCell] using this, hge, a1, a2, a3, a4, by show s.tr - 1 ≤ 9; omega, a6⟩
      obtain ⟨j, hj⟩ : ∃ j, s.tr - 1 = j := ⟨_, rfl⟩
      have hj2 : s.tr = j + 1 := by omega
      rw [hj] at hr t1
      rw [hj2] at c4 a5
      have i1 : ((j + 1 : Nat) : Int) - 1 = (j : Int) := by omega
      have i2 : ¬ ((j + 1 : Nat) : Int) ≤ 0 := by omega
      have i3 : ((j + 1 : Nat) : Int) ≤ 9 := by omega
      have hpost : ∀ b : UInt8, RPost B G O crc cl W ([b], { s with tr := j }) w (.returned (.slice (some ⟨w.heap.size, 0, none⟩) 1 1)) ((w.setCell ⟨G, 4, none⟩ (.int .i64 (j : Int))).alloc (.cells #[.int .u8 (b.toNat : Int)] 5)) := fun b =>
        (ack_post hr [b] 1 rfl (by omega) _ rfl w.heap.size (by simp [World.setCell])).of (t1.mono (fun i hi => by rw [hi]; exact hg)) (fun i hi => .inl hi)
      have P67 : RPost B G O crc cl W ([67], { s with tr := j }) w (.returned (.slice (some ⟨w.heap.size, 0, none⟩) 1 1)) ((w.setCell ⟨G, 4, none⟩ (.int .i64 (j : Int))).alloc (.cells #[.int .u8 67] 5)) := hpost 67
      have P21 : RPost B G O crc cl W ([21], { s with tr := j }) w (.returned (.slice (some ⟨w.heap.size, 0, none⟩) 1 1)) ((w.setCell ⟨G, 4, none⟩ (.int .i64 (j : Int))).alloc (.cells #[.int .u8 21] 5)) := hpost 21
      have H67 := keepHid P67
      have H21 := keepHid P21
      show Calls _ _ _ _ (RPost B G O crc cl W ([if crc = true then 67 else 21], { s with tr := s.tr - 1 }) w)
      rw [hj]
      generalize (j + 1 : Nat) = z at *
      clear h1 h2 h3 h4 h5 hg hl hge a1 a2 a3 a4 a6 hd hn0 ht hb t1 hr hj hj2 hpost P67 P21
      cases crc
      all_goals
        go_enter Tryz.func77, Tryz.ntmps77
        go_wp2
        go_ret
        first | exact H67.out | exact H21.out
  · rw [if_pos hd]
    have i1 : 0 < (s.da.length : Int) := by
      have : s.da.length ≠ 0 := fun e => hd (List.eq_nil_of_length_eq_zero e)
      omega
    have HP := keepHid (ack_post H.out [21] 1 rfl (by omega) #[.int .u8 21] rfl w.heap.size rfl)
    generalize s.da.length = z at *
    clear h1 h2 h3 h4 h5 hg hl hge a1 a2 a3 a4 a5 a6
    go_enter Tryz.func77, Tryz.ntmps77
    go_wp2
    go_ret
    exact HP.out
end Go.Proofs.YtgdjopiejmdbnaaGreatDoor
