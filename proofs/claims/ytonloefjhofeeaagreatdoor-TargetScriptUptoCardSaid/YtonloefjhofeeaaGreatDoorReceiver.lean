/-
  A receiver in memory; what 'stop' and 'ask' do to it.
-/
import Derived.Test.YtonloefjhofeeaaGreatDoorReceiverPlain
import Derived.Test.YtonloefjhofeeaaGreatDoorSmall
import Derived.Deep.RegionLaw
import Derived.Lib.QuietBelow
import Derived.Test.YtonloefjhofeeaaGreatDoorBlockScan
import Derived.Test.YtonloefjhofeeaaGreatDoorBytesEqual
import Derived.Test.YtonloefjhofeeaaGreatDoorBytesClone
namespace Go.Proofs.YtonloefjhofeeaaGreatDoor
open Go.RowKit
set_option linter.unusedVariables false

/-- A receiver's cells. -/
def rcvC (crc cl : Bool) (W : Nat) (vb vd : Value) (s : Rd) : Array Value :=
  #[.int .u8 (s.ex.toNat : Int), .bool crc, .bool cl, .int .i64 s.bl, .int .i64 (s.tr : Int), .int .i64 (W : Int), .int .i64 (s.tk : Int), vb, vd, .bool s.ov, errV s.er]
/-- A receiver in block G, whose own blocks are O, none of them below B. -/
structure Rcv (w : World) (B G : Nat) (O : Nat → Prop) (crc cl : Bool) (W : Nat) (s : Rd) : Prop where
  mem : ∃ vb vd, Blk w G 104 (rcvC crc cl W vb vd s) ∧ OwnB w B 5 vb s.bu.length s.bu ∧ OwnB w B 5 vd s.da.length s.da ∧
    (∀ i, vb.ownBlock = some i → O i ∧ i ≠ G ∧ vd.ownBlock ≠ some i) ∧ (∀ i, vd.ownBlock = some i → O i ∧ i ≠ G)
  g : O G
  lt : ∀ i, O i → i < w.heap.size
  ge : ∀ i, O i → B ≤ i
  w1 : 1 ≤ W
  w99 : W ≤ 99
  t1 : 1 ≤ s.tk
  t99 : s.tk ≤ 99
  tr : s.tr ≤ 9
  bl : s.bl ≤ 9223372036854775807
/-- What is no block of the receiver's may turn. -/
theorem Rcv.turns {S : Nat → Prop} {w w' : World} {B G W : Nat} {O : Nat → Prop} {crc cl : Bool} {s : Rd} (h : Rcv w B G O crc cl W s) (ht : Turn S w w') (hS : ∀ i, O i → ¬ S i) : Rcv w' B G O crc cl W s := by
  obtain ⟨⟨vb, vd, h1, h2, h3, h4, h5⟩, hg, hl, hge, a1, a2, a3, a4, a5, a6⟩ := h
  exact ⟨⟨vb, vd, ht.blk h1 (hS _ hg), h2.keep fun i hi hlt => ht.block i hlt (hS _ (h4 i hi).1), h3.keep fun i hi hlt => ht.block i hlt (hS _ (h5 i hi).1), h4, h5⟩, hg, fun i hi => Nat.lt_of_lt_of_le (hl i hi) ht.size, hge, a1, a2, a3, a4, a5, a6⟩
theorem Rcv.below {w w' : World} {B G W : Nat} {O : Nat → Prop} {crc cl : Bool} {s : Rd} (h : Rcv w B G O crc cl W s) (hb : Below w.heap.size w w') : Rcv w' B G O crc cl W s := h.turns (S := fun _ => False) (Turn.of_below hb) (fun _ _ h => h)
theorem Rcv.drew {w : World} {B G W : Nat} {O : Nat → Prop} {crc cl : Bool} {s : Rd} (h : Rcv w B G O crc cl W s) : Rcv w.drew B G O crc cl W s := h.below (Below.drew (Below.refl _ _))
/-- What a call of a receiver's leaves: what is answered, in a row of its own, and what the receiver has then. -/
def RPost (B G : Nat) (O : Nat → Prop) (crc cl : Bool) (W : Nat) (r : List UInt8 × Rd) (w : World) (e : Ending) (w' : World) : Prop :=
  ∃ A c O', e = .returned (.slice A r.1.length c) ∧ OwnB w' w.heap.size 5 (.slice A r.1.length c) r.1.length r.1 ∧ r.1.length ≤ c ∧ c ≤ 9223372036854775807 ∧ Turn O w w' ∧ Rcv w' B G O' crc cl W r.2 ∧
    (∀ i, O' i → O i ∨ w.heap.size ≤ i) ∧ ∀ ad, A = some ad → ¬ O' ad.block
theorem RPost.of {B G W : Nat} {O O1 : Nat → Prop} {crc cl : Bool} {r : List UInt8 × Rd} {w w1 w' : World} {e : Ending} (ht : Turn O w w1) (hO : ∀ i, O1 i → O i ∨ w.heap.size ≤ i) (h : RPost B G O1 crc cl W r w1 e w') : RPost B G O crc cl W r w e w' := by
  obtain ⟨A, c, O', e1, e2, e3, e4, e5, e6, e7, e8⟩ := h
  refine ⟨A, c, O', e1, own_lower e2 ht.size, e3, e4, ?_, e6, fun i hi => ?_, e8⟩
  · refine ⟨e5.os.trans ht.os, e5.tape.trans ht.tape, e5.output.trans ht.output, Nat.le_trans ht.size e5.size, fun i hi hn => (e5.block i (Nat.lt_of_lt_of_le hi ht.size) (fun h1 => ?_)).trans (ht.block i hi hn)⟩
    rcases hO i h1 with h2 | h2
    · exact hn h2
    · omega
  · rcases e7 i hi with h1 | h1
    · exact hO i h1
    · exact .inr (Nat.le_trans ht.size h1)
theorem RPost.none_ {B G W : Nat} {O O' : Nat → Prop} {crc cl : Bool} {s : Rd} {w w' : World} (ht : Turn O w w') (h : Rcv w' B G O' crc cl W s) (hO : ∀ i, O' i → O i ∨ w.heap.size ≤ i) : RPost B G O crc cl W ([], s) w (.returned (.slice none 0 0)) w' :=
  ⟨none, 0, O', rfl, World.ownsRow_nil _ _ _ _, Nat.le_refl _, by omega, ht, h, hO, fun ad e => by cases e⟩

theorem stopR_any {G : Nat} {w : World} {c0 c1 c2 c3 c4 c5 c6 c7 c8 c9 c10 : Value} (e : Value) (he : e = .nilIface ∨ ∃ t u, e = .iface t u) (A : Option Addr) (n c : Nat) (h : Blk w G 104 #[c0, c1, c2, c3, c4, c5, c6, c7, c8, c9, c10]) :
    Calls Tryz.prog 53 #[.pointer (some ⟨G, 0, none⟩), e, .slice A n c] w fun r w' => r = .returned (.slice A n c) ∧ Blk w' G 104 #[c0, c1, c2, c3, c4, c5, c6, .slice none 0 0, c8, .bool true, e] ∧
      Turn (fun b => b = G) w w' := by
  have h7 : w.cell? ⟨G, 7, none⟩ = some c7 := h.cell 7
  have h9 : w.cell? ⟨G, 9, none⟩ = some c9 := h.cell 9
  have h10 : w.cell? ⟨G, 10, none⟩ = some c10 := h.cell 10
  have hf := h.frozen
  rcases he with rfl | ⟨t, u, rfl⟩
  all_goals
    go_enter Tryz.func53, Tryz.ntmps53
    go_wp2
    go_ret
    exact ⟨rfl, ((h.put 9 _).put 10 _).put 7 _, turnAt _ _ (turnAt _ _ (turnAt _ _ (Turn.refl _ w)))⟩
/-- An answer, in a row of its own. -/
theorem ack_post {w : World} {B G W : Nat} {O : Nat → Prop} {crc cl : Bool} {s : Rd} (h : Rcv w B G O crc cl W s) (out : List UInt8) (n : Nat) (hn : out.length = n) (hm : n ≤ 1000000) (cs : Array Value) (hcs : cs = byteVals out) (g : Nat) (hg : g = w.heap.size) :
    RPost B G O crc cl W (out, s) w (.returned (.slice (some ⟨g, 0, none⟩) n n)) (w.alloc (.cells cs 5)) := by
  subst hn hg
  exact ⟨_, _, O, rfl, own_new w w.heap.size w.heap.size out.length out cs rfl (Nat.le_refl _) rfl hcs (by omega), Nat.le_refl _, Nat.le_trans hm (by decide), (Turn.refl _ w).alloc _, h.below ((Below.refl _ _).alloc (Nat.le_refl _) _), fun i hi => .inl hi,
    fun ad e hh => by obtain rfl := Option.some.inj e; exact absurd (h.lt _ hh) (Nat.lt_irrefl _)⟩
/-- A stop, whose answer lies in a new row. -/
theorem stop_new {w : World} {B G W : Nat} {O : Nat → Prop} {crc cl : Bool} {s : Rd} (h : Rcv w B G O crc cl W s) (en : Nat) (ev : Value) (he : errV en = ev) (out : List UInt8) (n : Nat) (hn : out.length = n) (hm : n ≤ 1000000) (cs : Array Value) (hcs : cs = byteVals out) (g : Nat) (hg : g = w.heap.size) :
    Calls Tryz.prog 53 #[.pointer (some ⟨G, 0, none⟩), ev, .slice (some ⟨g, 0, none⟩) n n] (w.alloc (.cells cs 5)) (RPost B G O crc cl W (out, stopR s en) w) := by
  subst hn hg he
  have h' := h.below (w' := w.alloc (.cells cs 5)) ((Below.refl _ _).alloc (Nat.le_refl _) _)
  have ho := own_new w w.heap.size w.heap.size out.length out cs rfl (Nat.le_refl _) rfl hcs (by omega)
  have hnO : ¬ O w.heap.size := fun hh => absurd (h.lt _ hh) (Nat.lt_irrefl _)
  obtain ⟨⟨vb, vd, h1, h2, h3, h4, h5⟩, hg, hl, hge, a1, a2, a3, a4, a5, a6⟩ := h'
  refine (stopR_any (errV en) (errV_or en) _ _ _ h1).mono ?_
  rintro e w' ⟨rfl, hb, htt⟩
  have t1 : Turn O (w.alloc (.cells cs 5)) w' := htt.mono (fun i hi => by rw [hi]; exact hg)
  refine ⟨_, _, O, rfl, ho.turn htt (fun hh => hnO (by rw [hh]; exact hg)), Nat.le_refl _, Nat.le_trans hm (by decide), ((Turn.refl _ w).alloc _).trans t1, ?_, fun i hi => .inl hi, fun ad e => by obtain rfl := Option.some.inj e; exact hnO⟩
  exact ⟨⟨.slice none 0 0, vd, hb, World.ownsRow_nil _ _ _ _, h3.keep fun i hi hlt => htt.block i hlt (h5 i hi).2, fun i hi => by simp [Value.ownBlock] at hi, h5⟩, hg, fun i hi => Nat.lt_of_lt_of_le (hl i hi) htt.size, hge, a1, a2, a3, a4, a5, a6⟩
/-- A stop that answers nothing. -/
theorem stop_none {w : World} {B G W : Nat} {O : Nat → Prop} {crc cl : Bool} {s : Rd} (h : Rcv w B G O crc cl W s) (en : Nat) (ev : Value) (he : errV en = ev) :
    Calls Tryz.prog 53 #[.pointer (some ⟨G, 0, none⟩), ev, .slice none 0 0] w (RPost B G O crc cl W ([], stopR s en) w) := by
  subst he
  obtain ⟨⟨vb, vd, h1, h2, h3, h4, h5⟩, hg, hl, hge, a1, a2, a3, a4, a5, a6⟩ := h
  refine (stopR_any (errV en) (errV_or en) _ _ _ h1).mono ?_
  rintro e w' ⟨rfl, hb, htt⟩
  refine RPost.none_ (htt.mono (fun i hi => by rw [hi]; exact hg)) (O' := O) ?_ (fun i hi => .inl hi)
  exact ⟨⟨.slice none 0 0, vd, hb, World.ownsRow_nil _ _ _ _, h3.keep fun i hi hlt => htt.block i hlt (h5 i hi).2, fun i hi => by simp [Value.ownBlock] at hi, h5⟩, hg, fun i hi => Nat.lt_of_lt_of_le (hl i hi) htt.size, hge, a1, a2, a3, a4, a5, a6⟩
theorem len_sl {w : World} {B n : Nat} {v : Value} {d : List UInt8} (h : OwnB w B 5 v n d) : ∃ A c, v = .slice A n c := by
  obtain ⟨A, c, e, _⟩ := h.form
  exact ⟨A, c, e⟩
set_option maxRecDepth 100000 in
set_option maxHeartbeats 4000000 in
theorem ask_any {w : World} {B G W : Nat} {O : Nat → Prop} {crc cl : Bool} {s : Rd} (h : Rcv w B G O crc cl W s) :
    Calls Tryz.prog 51 #[.pointer (some ⟨G, 0, none⟩)] w (RPost B G O crc cl W (askR crc s) w) := by
  have H := keepHid h
  obtain ⟨⟨vb, vd, h1, h2, h3, h4, h5⟩, hg, hl, hge, a1, a2, a3, a4, a5, a6⟩ := h
  obtain ⟨Ad, cd, rfl⟩ := len_sl h3
  have c8 : w.cell? ⟨G, 8, none⟩ = some (.slice Ad s.da.length cd) := h1.cell 8
  have c4 : w.cell? ⟨G, 4, none⟩ = some (.int .i64 (s.tr : Int)) := h1.cell 4
  have c1 : w.cell? ⟨G, 1, none⟩ = some (.bool crc) := h1.cell 1
  have hf := h1.frozen
  unfold askR
  by_cases hd : s.da = []
  · rw [if_neg (by simp [hd])]
    have hn0 : s.da.length = 0 := by rw [hd]; rfl
    rw [hn0] at c8
    by_cases ht : s.tr = 0
    · rw [if_pos ht]
      rw [ht] at c4
      have HST := keepHid (stop_new H.out 10 (.iface 107 (.int .i64 10)) rfl [24, 24] 2 rfl (by omega) #[.int .u8 24, .int .u8 24] rfl w.heap.size rfl)
      generalize stopR s 10 = r at *
      clear h1 h2 h3 h4 h5 hg hl hge a1 a2 a3 a4 a5 a6 hd hn0 ht
      go_enter Tryz.func51, Tryz.ntmps51
      go_wp2_with (go_at_call 53; (with_reducible refine HST.out.mono ?_); rintro e w5 ⟨A5, c5, O5, rfl, hp5⟩; have HP5 := keepHid hp5; clear hp5)
      go_ret
      exact ⟨A5, c5, O5, rfl, HP5.out⟩
    · rw [if_neg ht]
      have hb := h1.put 4 (.int .i64 (((s.tr - 1 : Nat) : Int)))
      have t1 : Turn (fun b => b = G) w (w.setCell ⟨G, 4, none⟩ (.int .i64 (((s.tr - 1 : Nat) : Int)))) := turnAt _ _ (Turn.refl _ w)
      have hr : Rcv (w.setCell ⟨G, 4, none⟩ (.int .i64 (((s.tr - 1 : Nat) : Int)))) B G O crc cl W { s with tr := s.tr - 1 } :=
        ⟨⟨vb, .slice Ad s.da.length cd, hb, h2.keep fun i hi hlt => t1.block i hlt (h4 i hi).2.1, h3.keep fun i hi hlt => t1.block i hlt (h5 i hi).2, h4, h5⟩, hg, fun i hi => by have := hl i hi; simpa [World.setCell] using this, hge, a1, a2, a3, a4, by show s.tr - 1 ≤ 9; omega, a6⟩
      obtain ⟨j, hj⟩ : ∃ j, s.tr - 1 = j := ⟨_, rfl⟩
      have hj2 : s.tr = j + 1 := by omega
      rw [hj] at hr t1
      rw [hj2] at c4 a5
      have i1 : ((j + 1 : Nat) : Int) - 1 = (j : Int) := by omega
      have i2 : ¬ ((j + 1 : Nat) : Int) ≤ 0 := by omega
      have i3 : ((j + 1 : Nat) : Int) ≤ 9 := by omega
      have hpost : ∀ b : UInt8, RPost B G O crc cl W ([b], { s with tr := j }) w (.returned (.slice (some ⟨w.heap.size, 0, none⟩) 1 1)) ((w.setCell ⟨G, 4, none⟩ (.int .i64 (j : Int))).alloc (.cells #[.int .u8 (b.toNat : Int)] 5)) := fun b =>
        (ack_post hr [b] 1 rfl (by omega) _ rfl w.heap.size (by simp [World.setCell])).of (t1.mono (fun i hi => by rw [hi]; exact hg)) (fun i hi => .inl hi)
      have P67 : RPost B G O crc cl W ([67], { s with tr := j }) w (.returned (.slice (some ⟨w.heap.size, 0, none⟩) 1 1)) ((w.setCell ⟨G, 4, none⟩ (.int .i64 (j : Int))).alloc (.cells #[.int .u8 67] 5)) := hpost 67
      have P21 : RPost B G O crc cl W ([21], { s with tr := j }) w (.returned (.slice (some ⟨w.heap.size, 0, none⟩) 1 1)) ((w.setCell ⟨G, 4, none⟩ (.int .i64 (j : Int))).alloc (.cells #[.int .u8 21] 5)) := hpost 21
      have H67 := keepHid P67
      have H21 := keepHid P21
      show Calls _ _ _ _ (RPost B G O crc cl W ([if crc = true then 67 else 21], { s with tr := s.tr - 1 }) w)
      rw [hj]
      generalize (j + 1 : Nat) = z at *
      clear h1 h2 h3 h4 h5 hg hl hge a1 a2 a3 a4 a6 hd hn0 ht hb t1 hr hj hj2 hpost P67 P21
      cases crc
      all_goals
        go_enter Tryz.func51, Tryz.ntmps51
        go_wp2
        go_ret
        first | exact H67.out | exact H21.out
  · rw [if_pos hd]
    have i1 : 0 < (s.da.length : Int) := by
      have : s.da.length ≠ 0 := fun e => hd (List.eq_nil_of_length_eq_zero e)
      omega
    have HP := keepHid (ack_post H.out [21] 1 rfl (by omega) #[.int .u8 21] rfl w.heap.size rfl)
    generalize s.da.length = z at *
    clear h1 h2 h3 h4 h5 hg hl hge a1 a2 a3 a4 a5 a6
    go_enter Tryz.func51, Tryz.ntmps51
    go_wp2
    go_ret
    exact HP.out


/-- 'append' onto bytes of the call's own, as one step of a region that draws. -/
theorem step_append_bytes {ops : Array Oper} {o : Oper} {a : Act} {w : World} {K : Act → World → Prop} {Q : Exit → Act → World → Prop} {E : Prop} (hg : o.guard = none) (s x : Operand)
    (ho : o.op = .call { callee := .builtin .append, args := #[s, x], argTypes := #[31, 31] })
    (base : Nat) (v : Value) (n : Nat) (xs : List UInt8) (hs : a.eval s = v) (hown : OwnB w base 5 v n xs)
    (B : Nat) (A : Option Addr) (m c : Nat) (bs : List UInt8) (hx : a.eval x = .slice A m c) (hb : Bys w B A m bs)
    (hnm : n + m ≤ 140737488355328) (hbase : base ≤ w.heap.size)
    (h : ∀ A' cap' w', OwnB w' base 5 (.slice A' (n + m) cap') (n + m) (xs ++ bs) → Turn (fun i => v.ownBlock = some i) w w' → ((Value.slice A' (n + m) cap').ownBlock = v.ownBlock ∨ (Value.slice A' (n + m) cap').ownBlock = some w.heap.size) →
      K (a.put o.dst (.slice A' (n + m) cap')) w') :
    if Region.wanted o (yielded ops a.tmps) = true then Oper.wp Tryz.prog o a w K Q else E := by
  have hw : Region.wanted o (yielded ops a.tmps) = true := by simp [Region.wanted, hg]
  rw [if_pos hw]
  exact wp_append_bytes w s x 31 ho base 5 byteT v n xs hs hown B A m c bs hx hb _ rfl hnm hbase fun A' cap' w' h2 h3 h4 _ _ => h A' cap' w' h2 h3 h4

/-- One cell of the receiver's is written, no slice. -/
theorem Rcv.put_ {w : World} {B G W : Nat} {O : Nat → Prop} {crc cl : Bool} {s s' : Rd} (h : Rcv w B G O crc cl W s) (i : Nat) (u : Value) (hc : ∀ vb vd, (rcvC crc cl W vb vd s).setIfInBounds i u = rcvC crc cl W vb vd s') (hbu : s'.bu = s.bu) (hda : s'.da = s.da)
    (t1 : 1 ≤ s'.tk) (t99 : s'.tk ≤ 99) (tr : s'.tr ≤ 9) (bl : s'.bl ≤ 9223372036854775807) : Rcv (w.setCell ⟨G, i, none⟩ u) B G O crc cl W s' := by
  obtain ⟨⟨vb, vd, h1, h2, h3, h4, h5⟩, hg, hl, hge, a1, a2, a3, a4, a5, a6⟩ := h
  have t : Turn (fun b => b = G) w (w.setCell ⟨G, i, none⟩ u) := turnAt _ _ (Turn.refl _ w)
  refine ⟨⟨vb, vd, by rw [← hc]; exact h1.put i u, ?_, ?_, h4, h5⟩, hg, fun j hj => Nat.lt_of_lt_of_le (hl j hj) t.size, hge, a1, a2, t1, t99, tr, bl⟩
  · rw [hbu]; exact h2.keep fun j hj hlt => t.block j hlt (h4 j hj).2.1
  · rw [hda]; exact h3.keep fun j hj hlt => t.block j hlt (h5 j hj).2
theorem Rcv.turnO {w : World} {B G W : Nat} {O : Nat → Prop} {crc cl : Bool} {s : Rd} (h : Rcv w B G O crc cl W s) (i : Nat) (u : Value) : Turn O w (w.setCell ⟨G, i, none⟩ u) := (turnAt i u (Turn.refl _ w)).mono (fun j hj => by rw [hj]; exact h.g)
/-- The bytes that wait are thrown away. -/
theorem Rcv.drop_ {w : World} {B G W : Nat} {O : Nat → Prop} {crc cl : Bool} {s : Rd} (h : Rcv w B G O crc cl W s) : Rcv (w.setCell ⟨G, 7, none⟩ (.slice none 0 0)) B G O crc cl W { s with bu := [] } := by
  obtain ⟨⟨vb, vd, h1, h2, h3, h4, h5⟩, hg, hl, hge, a1, a2, a3, a4, a5, a6⟩ := h
  have t : Turn (fun b => b = G) w (w.setCell ⟨G, 7, none⟩ (.slice none 0 0)) := turnAt _ _ (Turn.refl _ w)
  exact ⟨⟨.slice none 0 0, vd, h1.put 7 _, World.ownsRow_nil _ _ _ _, h3.keep fun j hj hlt => t.block j hlt (h5 j hj).2, fun j hj => by simp [Value.ownBlock] at hj, h5⟩, hg, fun j hj => Nat.lt_of_lt_of_le (hl j hj) t.size, hge, a1, a2, a3, a4, a5, a6⟩
/-- What an append of bytes to the receiver's row leaves. -/
def Grew (w : World) (B : Nat) (v : Value) (n : Nat) (xs : List UInt8) (A : Option Addr) (m c : Nat) (bs : List UInt8) (w' : World) : Prop :=
  OwnB w' B 5 (.slice A (n + m) c) (n + m) (xs ++ bs) ∧ Turn (fun i => v.ownBlock = some i) w w' ∧ ((Value.slice A (n + m) c).ownBlock = v.ownBlock ∨ (Value.slice A (n + m) c).ownBlock = some w.heap.size)
theorem Grew.lt {w w' : World} {B n m c : Nat} {v : Value} {xs bs : List UInt8} {A : Option Addr} (h : Grew w B v n xs A m c bs w') : ∀ i, (Value.slice A (n + m) c).ownBlock = some i → i < w'.heap.size ∧ B ≤ i := by
  intro i hi
  rcases h.1.form with ⟨A', c', e, _, _, rfl | ⟨g, rfl, hb, hg⟩⟩
  · injection e with e1; subst e1; simp [Value.ownBlock] at hi
  · injection e with e1; subst e1; simp [Value.ownBlock] at hi; subst hi; exact ⟨hg, hb⟩
theorem grew_data {w : World} {B G W : Nat} {O : Nat → Prop} {crc cl : Bool} {s : Rd} (h : Rcv w B G O crc cl W s) (d : List UInt8) (m : Nat) (hm : d.length = m) :
    ∃ A c, w.cell? ⟨G, 8, none⟩ = some (.slice A s.da.length c) ∧ OwnB w B 5 (.slice A s.da.length c) s.da.length s.da ∧
      ∀ A' c' w2, Grew w B (.slice A s.da.length c) s.da.length s.da A' m c' d w2 → w2.cell? ⟨G, 8, none⟩ = some (.slice A s.da.length c) ∧ (∀ i, w2.frozen? ⟨G, i, none⟩ = false) ∧
        ∃ O', Rcv (w2.setCell ⟨G, 8, none⟩ (.slice A' (s.da.length + m) c')) B G O' crc cl W { s with da := s.da ++ d } ∧ Turn O w (w2.setCell ⟨G, 8, none⟩ (.slice A' (s.da.length + m) c')) ∧ (∀ i, O' i → O i ∨ w.heap.size ≤ i) := by
  subst hm
  obtain ⟨⟨vb, vd, h1, h2, h3, h4, h5⟩, hg, hl, hge, a1, a2, a3, a4, a5, a6⟩ := h
  obtain ⟨Ad, cd, rfl⟩ := len_sl h3
  refine ⟨Ad, cd, h1.cell 8, h3, fun A' c' w2 hgr => ?_⟩
  have hlt := hgr.lt
  obtain ⟨g1, g2, g3⟩ := hgr
  have k2 : Blk w2 G _ _ := g2.blk h1 (fun e => (h5 _ e).2 rfl)
  have t2 : Turn (fun b => b = G) w2 (w2.setCell ⟨G, 8, none⟩ (.slice A' (s.da.length + d.length) c')) := turnAt _ _ (Turn.refl _ w2)
  have hnew : ∀ i, (Value.slice A' (s.da.length + d.length) c').ownBlock = some i → i ≠ G ∧ vb.ownBlock ≠ some i := fun i hi => by
    rcases g3 with e | e
    · rw [hi] at e; exact ⟨(h5 i e.symm).2, fun hb => (h4 i hb).2.2 e.symm⟩
    · rw [hi] at e
      obtain rfl := Option.some.inj e
      exact ⟨fun e => by have := hl G hg; omega, fun hb => by have := hl _ (h4 _ hb).1; omega⟩
  refine ⟨k2.cell 8, k2.frozen, fun i => O i ∨ (Value.slice A' (s.da.length + d.length) c').ownBlock = some i, ?_, (g2.mono (fun i hi => (h5 i hi).1)).trans (t2.mono (fun i hi => by rw [hi]; exact hg)), fun i hi => ?_⟩
  · refine ⟨⟨vb, .slice A' (s.da.length + d.length) c', ?_, ?_, ?_, fun i hi => ⟨.inl (h4 i hi).1, (h4 i hi).2.1, fun e => (hnew i e).2 hi⟩, fun i hi => ⟨.inr hi, (hnew i hi).1⟩⟩, .inl hg, fun i hi => ?_, fun i hi => ?_, a1, a2, a3, a4, a5, a6⟩
    · have := k2.put 8 (.slice A' (s.da.length + d.length) c')
      exact this
    · exact (h2.keep fun i hi hlt => g2.block i hlt (fun e => (h4 i hi).2.2 e)).keep fun i hi hlt => t2.block i hlt (h4 i hi).2.1
    · show OwnB _ B _ _ (s.da ++ d).length (s.da ++ d)
      rw [List.length_append]
      exact g1.keep fun i hi hlt => t2.block i hlt (hnew i hi).1
    · rcases hi with hi | hi
      · exact Nat.lt_of_lt_of_le (hl i hi) (Nat.le_trans g2.size t2.size)
      · exact Nat.lt_of_lt_of_le (hlt i hi).1 t2.size
    · rcases hi with hi | hi
      · exact hge i hi
      · exact (hlt i hi).2
  · rcases hi with hi | hi
    · exact .inl hi
    · rcases g3 with e | e
      · rw [hi] at e; exact .inl (h5 i e.symm).1
      · rw [hi] at e; exact .inr (by rw [Option.some.inj e]; exact Nat.le_refl _)
theorem grew_buf {w : World} {B G W : Nat} {O : Nat → Prop} {crc cl : Bool} {s : Rd} (h : Rcv w B G O crc cl W s) (d : List UInt8) (m : Nat) (hm : d.length = m) :
    ∃ A c, w.cell? ⟨G, 7, none⟩ = some (.slice A s.bu.length c) ∧ OwnB w B 5 (.slice A s.bu.length c) s.bu.length s.bu ∧
      ∀ A' c' w2, Grew w B (.slice A s.bu.length c) s.bu.length s.bu A' m c' d w2 → w2.cell? ⟨G, 7, none⟩ = some (.slice A s.bu.length c) ∧ (∀ i, w2.frozen? ⟨G, i, none⟩ = false) ∧
        ∃ O', Rcv (w2.setCell ⟨G, 7, none⟩ (.slice A' (s.bu.length + m) c')) B G O' crc cl W { s with bu := s.bu ++ d } ∧ Turn O w (w2.setCell ⟨G, 7, none⟩ (.slice A' (s.bu.length + m) c')) ∧ (∀ i, O' i → O i ∨ w.heap.size ≤ i) ∧
          (w2.setCell ⟨G, 7, none⟩ (.slice A' (s.bu.length + m) c')).cell? ⟨G, 7, none⟩ = some (.slice A' (s.bu.length + m) c') ∧ OwnB (w2.setCell ⟨G, 7, none⟩ (.slice A' (s.bu.length + m) c')) B 5 (.slice A' (s.bu.length + m) c') (s.bu.length + m) (s.bu ++ d) := by
  subst hm
  obtain ⟨⟨vb, vd, h1, h2, h3, h4, h5⟩, hg, hl, hge, a1, a2, a3, a4, a5, a6⟩ := h
  obtain ⟨Ab, cb, rfl⟩ := len_sl h2
  refine ⟨Ab, cb, h1.cell 7, h2, fun A' c' w2 hgr => ?_⟩
  have hlt := hgr.lt
  obtain ⟨g1, g2, g3⟩ := hgr
  have k2 : Blk w2 G _ _ := g2.blk h1 (fun e => (h4 _ e).2.1 rfl)
  have t2 : Turn (fun b => b = G) w2 (w2.setCell ⟨G, 7, none⟩ (.slice A' (s.bu.length + d.length) c')) := turnAt _ _ (Turn.refl _ w2)
  have hnew : ∀ i, (Value.slice A' (s.bu.length + d.length) c').ownBlock = some i → i ≠ G ∧ vd.ownBlock ≠ some i := fun i hi => by
    rcases g3 with e | e
    · rw [hi] at e; exact ⟨(h4 i e.symm).2.1, (h4 i e.symm).2.2⟩
    · rw [hi] at e
      obtain rfl := Option.some.inj e
      exact ⟨fun e => by have := hl G hg; omega, fun hb => by have := hl _ (h5 _ hb).1; omega⟩
  refine ⟨k2.cell 7, k2.frozen, fun i => O i ∨ (Value.slice A' (s.bu.length + d.length) c').ownBlock = some i, ?_, (g2.mono (fun i hi => (h4 i hi).1)).trans (t2.mono (fun i hi => by rw [hi]; exact hg)), fun i hi => ?_, ?_, ?_⟩
  · refine ⟨⟨.slice A' (s.bu.length + d.length) c', vd, ?_, ?_, ?_, fun i hi => ⟨.inr hi, (hnew i hi).1, (hnew i hi).2⟩, fun i hi => ⟨.inl (h5 i hi).1, (h5 i hi).2⟩⟩, .inl hg, fun i hi => ?_, fun i hi => ?_, a1, a2, a3, a4, a5, a6⟩
    · have := k2.put 7 (.slice A' (s.bu.length + d.length) c')
      exact this
    · show OwnB _ B _ _ (s.bu ++ d).length (s.bu ++ d)
      rw [List.length_append]
      exact g1.keep fun i hi hlt => t2.block i hlt (hnew i hi).1
    · exact (h3.keep fun i hi hlt => g2.block i hlt (fun e => (h4 i e).2.2 hi)).keep fun i hi hlt => t2.block i hlt (h5 i hi).2
    · rcases hi with hi | hi
      · exact Nat.lt_of_lt_of_le (hl i hi) (Nat.le_trans g2.size t2.size)
      · exact Nat.lt_of_lt_of_le (hlt i hi).1 t2.size
    · rcases hi with hi | hi
      · exact hge i hi
      · exact (hlt i hi).2
  · rcases hi with hi | hi
    · exact .inl hi
    · rcases g3 with e | e
      · rw [hi] at e; exact .inl (h4 i e.symm).1
      · rw [hi] at e; exact .inr (by rw [Option.some.inj e]; exact Nat.le_refl _)
  · exact World.cell?_setCell_same _ _ _ (by rw [k2.cell 7]; rfl)
  · exact g1.keep fun i hi hlt => t2.block i hlt (hnew i hi).1
/-- What a block's taking comes to at its end. -/
theorem fin_post {w w1 : World} {B G W : Nat} {O O1 : Nat → Prop} {crc cl : Bool} {s : Rd} (h : Rcv w1 B G O1 crc cl W s) (ht : Turn O w w1) (hO : ∀ i, O1 i → O i ∨ w.heap.size ≤ i) (g : Nat) (hg : g = w1.heap.size) :
    (cl = false ∧ s.bl ≤ 0 ∧ Calls Tryz.prog 53 #[.pointer (some ⟨G, 0, none⟩), .nilIface, .slice (some ⟨g, 0, none⟩) 1 1] (w1.alloc (.cells #[.int .u8 6] 5)) (RPost B G O crc cl W (finR cl s) w)) ∨
    (cl = false ∧ ¬ s.bl ≤ 0 ∧ RPost B G O crc cl W (finR cl s) w (.returned (.slice (some ⟨g, 0, none⟩) 1 1)) (w1.alloc (.cells #[.int .u8 6] 5))) ∨
    (cl = true ∧ RPost B G O crc cl W (finR cl s) w (.returned (.slice (some ⟨g, 0, none⟩) 1 1)) (w1.alloc (.cells #[.int .u8 6] 5))) := by
  have ha : RPost B G O crc cl W ([6], s) w (.returned (.slice (some ⟨g, 0, none⟩) 1 1)) (w1.alloc (.cells #[.int .u8 6] 5)) := (ack_post h [6] 1 rfl (by omega) _ rfl g hg).of ht hO
  unfold finR
  cases cl
  · by_cases hb : s.bl ≤ 0
    · refine .inl ⟨rfl, hb, ?_⟩
      rw [if_pos ⟨rfl, hb⟩]
      exact (stop_new h 0 .nilIface rfl [6] 1 rfl (by omega) _ rfl g hg).mono fun _ _ h => h.of ht hO
    · refine .inr (.inl ⟨rfl, hb, ?_⟩)
      rw [if_neg (fun e => hb e.2)]
      exact ha
  · refine .inr (.inr ⟨rfl, ?_⟩)
    rw [if_neg (fun e => by cases e.1)]
    exact ha
set_option maxRecDepth 100000 in
set_option maxHeartbeats 4000000 in
theorem take_yes {w : World} {B G W : Nat} {O : Nat → Prop} {crc cl : Bool} {s : Rd} (h : Rcv w B G O crc cl W s) (num : UInt8) (A : Option Addr) (n c Q : Nat) (d : List UInt8) (hd : Bys w Q A n d) (hQ : Q ≤ w.heap.size) (hn : s.da.length + n ≤ 140737488355328) (hbl : -9223372036854775808 < s.bl) (he : num = s.ex) :
    Calls Tryz.prog 72 #[.pointer (some ⟨G, 0, none⟩), .agg #[.int .u8 (num.toNat : Int), .slice A n c]] w (RPost B G O crc cl W (finR cl { s with da := s.da ++ d, ex := s.ex + 1, bl := s.bl - 1 }) w) := by
  subst he
  obtain ⟨wb, hwb⟩ : ∃ wb, w.alloc (.cells #[.int .u8 (s.ex.toNat : Int), .slice A n c] 92) = wb := ⟨_, rfl⟩
  have hbb : Below w.heap.size w wb := by rw [← hwb]; exact (Below.refl _ _).alloc (Nat.le_refl _) _
  have hkb : Blk wb w.heap.size 92 #[.int .u8 (s.ex.toNat : Int), .slice A n c] := by rw [← hwb]; exact Blk.new w _ _
  have b0 : wb.cell? ⟨w.heap.size, 0, none⟩ = some (.int .u8 (s.ex.toNat : Int)) := hkb.cell 0
  have b1 : wb.cell? ⟨w.heap.size, 1, none⟩ = some (.slice A n c) := hkb.cell 1
  have hr := h.below hbb
  have hlow : B ≤ w.heap.size := by have := h.lt G h.g; have := h.ge G h.g; omega
  have HLOW : Hid (B ≤ wb.heap.size) := keepHid (Nat.le_trans hlow hbb.size)
  have HY : Hid (Bys wb.drew.drew Q A n d) := keepHid ((hd.more hQ |>.below hbb |>.drew |>.drew) |> fun hy => by
    exact ((hd.below (hbb.mono hQ)).drew).drew)
  have hdl : d.length = n := hd.len
  obtain ⟨Ad, cd, e8, ho, hgr⟩ := grew_data (w := wb.drew.drew) hr.drew.drew d n hdl
  have e0 : wb.cell? ⟨G, 0, none⟩ = some (.int .u8 (s.ex.toNat : Int)) := by
    obtain ⟨⟨vb, vd, h1, _⟩, _⟩ := hr
    exact h1.cell 0
  obtain ⟨nd, hnd⟩ : ∃ nd, s.da.length = nd := ⟨_, rfl⟩
  rw [hnd] at e8 ho hgr hn
  have e8' : wb.cell? ⟨G, 8, none⟩ = some (.slice Ad nd cd) := e8
  have HO := keepHid ho
  obtain ⟨y, hy⟩ : ∃ y : Nat, (s.ex + 1).toNat = y := ⟨_, rfl⟩
  have hy2 : ((s.ex.toNat : Int) + 1) % 256 = (y : Int) := by
    rw [← hy, UInt8.toNat_add]
    simp
  have hTB : Turn O w wb.drew.drew := Turn.drew (Turn.drew (Turn.of_below hbb))
  have hsz : ∀ i, i ≥ wb.drew.drew.heap.size → w.heap.size ≤ i := fun i hi => Nat.le_trans hbb.size hi
  have HG : Hid (∀ A' c' w2, OwnB w2 B 5 (.slice A' (nd + n) c') (nd + n) (s.da ++ d) → Turn (fun i => (Value.slice Ad nd cd).ownBlock = some i) wb.drew.drew w2 → ((Value.slice A' (nd + n) c').ownBlock = (Value.slice Ad nd cd).ownBlock ∨ (Value.slice A' (nd + n) c').ownBlock = some wb.drew.drew.heap.size) →
      w2.cell? ⟨G, 8, none⟩ = some (.slice Ad nd cd) ∧ w2.frozen? ⟨G, 8, none⟩ = false ∧ ∀ w3, w2.setCell ⟨G, 8, none⟩ (.slice A' (nd + n) c') = w3 → w3.cell? ⟨G, 0, none⟩ = some (.int .u8 (s.ex.toNat : Int)) ∧ w3.cell? ⟨G, 3, none⟩ = some (.int .i64 s.bl) ∧ w3.cell? ⟨G, 2, none⟩ = some (.bool cl) ∧ (∀ i, w3.frozen? ⟨G, i, none⟩ = false) ∧
        ((cl = false ∧ s.bl - 1 ≤ 0 ∧ Calls Tryz.prog 53 #[.pointer (some ⟨G, 0, none⟩), .nilIface, .slice (some ⟨w3.heap.size, 0, none⟩) 1 1] (((w3.setCell ⟨G, 0, none⟩ (.int .u8 (y : Int))).setCell ⟨G, 3, none⟩ (.int .i64 (s.bl - 1))).alloc (.cells #[.int .u8 6] 5)) (RPost B G O crc cl W (finR cl { s with da := s.da ++ d, ex := s.ex + 1, bl := s.bl - 1 }) w)) ∨
          (cl = false ∧ ¬ s.bl - 1 ≤ 0 ∧ RPost B G O crc cl W (finR cl { s with da := s.da ++ d, ex := s.ex + 1, bl := s.bl - 1 }) w (.returned (.slice (some ⟨w3.heap.size, 0, none⟩) 1 1)) (((w3.setCell ⟨G, 0, none⟩ (.int .u8 (y : Int))).setCell ⟨G, 3, none⟩ (.int .i64 (s.bl - 1))).alloc (.cells #[.int .u8 6] 5))) ∨
          (cl = true ∧ RPost B G O crc cl W (finR cl { s with da := s.da ++ d, ex := s.ex + 1, bl := s.bl - 1 }) w (.returned (.slice (some ⟨w3.heap.size, 0, none⟩) 1 1)) (((w3.setCell ⟨G, 0, none⟩ (.int .u8 (y : Int))).setCell ⟨G, 3, none⟩ (.int .i64 (s.bl - 1))).alloc (.cells #[.int .u8 6] 5))))) := keepHid (fun A' c' w2 q1 q2 q3 => by
    obtain ⟨f1, f2, O', f3, f4, f5⟩ := hgr A' c' w2 ⟨q1, q2, q3⟩
    refine ⟨f1, f2 8, fun w3 hw3 => ?_⟩
    rw [hw3] at f3 f4
    have hfz : ∀ i, w3.frozen? ⟨G, i, none⟩ = false ∧ w3.cell? ⟨G, i, none⟩ = w3.cell? ⟨G, i, none⟩ := fun i => by
      obtain ⟨⟨vb, vd, h1, _⟩, _⟩ := f3
      exact ⟨h1.frozen i, rfl⟩
    have r1 := f3.put_ (s' := { s with da := s.da ++ d, ex := s.ex + 1 }) 0 (.int .u8 (y : Int)) (fun vb vd => by rw [← hy]; rfl) rfl rfl h.t1 h.t99 h.tr h.bl
    have r2 := r1.put_ (s' := { s with da := s.da ++ d, ex := s.ex + 1, bl := s.bl - 1 }) 3 (.int .i64 (s.bl - 1)) (fun vb vd => rfl) rfl rfl h.t1 h.t99 h.tr (by have := h.bl; show s.bl - 1 ≤ _; omega)
    have tt : Turn O' w3 ((w3.setCell ⟨G, 0, none⟩ (.int .u8 (y : Int))).setCell ⟨G, 3, none⟩ (.int .i64 (s.bl - 1))) := (f3.turnO 0 _).trans (r1.turnO 3 _)
    have hG : O G := h.g
    have tt2 : Turn O w3 ((w3.setCell ⟨G, 0, none⟩ (.int .u8 (y : Int))).setCell ⟨G, 3, none⟩ (.int .i64 (s.bl - 1))) := ((turnAt 3 _ (turnAt 0 _ (Turn.refl _ w3))) : Turn (fun b => b = G) w3 _).mono (fun i hi => by rw [hi]; exact hG)
    have key := fin_post (O := O) (w := w) r2 ((hTB.trans f4).trans tt2) (fun i hi => by
      rcases f5 i hi with h | h
      · exact .inl h
      · exact .inr (hsz i h)) w3.heap.size (by simp [World.setCell])
    obtain ⟨⟨vb, vd, h1, _⟩, _⟩ := f3
    exact ⟨h1.cell 0, h1.cell 3, h1.cell 2, h1.frozen, key⟩)
  have hbl2 := h.bl
  have hl1 : (s.da ++ d).length = nd + n := by rw [List.length_append, hnd, hdl]
  generalize finR cl { s with da := s.da ++ d, ex := s.ex + 1, bl := s.bl - 1 } = r at *
  generalize hex : s.ex.toNat = ex at *
  have hexl : ex < 256 := by rw [← hex]; exact u8lt _
  have hx2 : IntKind.u8.wrap ((ex : Int) + 1) = (y : Int) := by rw [← hy2]; rfl
  generalize hbx : s.bl = bl at *
  clear h hd hbb hkb hr hlow ho hgr e8 hTB hsz hnd hdl hl1 hy hex hbx
  go_enter Tryz.func72, Tryz.ntmps72
  go_upto_region 1 with fail
  go_region
  go_upto_region 2 with fail
  go_region_law (refine step_append_bytes rfl (.tmp 17) (.tmp 19) rfl B (.slice Ad nd cd) nd s.da (by simp [Act.eval]) HO.out Q A n c d (by simp [Act.eval]) HY.out (by omega) HLOW.out ?_; intro A' c' w2 q1 q2 q3; obtain ⟨f1, f2, f3⟩ := HG.out A' c' w2 q1 q2 q3; have HF3 := keepHid f3; clear q1 q2 q3 f3)
  all_goals
    obtain ⟨w3, hw3⟩ : ∃ w3, w2.setCell ⟨G, 8, none⟩ (.slice A' (nd + n) c') = w3 := ⟨_, rfl⟩
    rw [hw3]
    obtain ⟨g0, g3, g2, gf, hfin⟩ := HF3.out w3 hw3
    clear hw3 f1 f2 b0 b1 e0 e8' hwb
    rcases hfin with ⟨rfl, hb, hst⟩ | ⟨rfl, hb, hp⟩ | ⟨rfl, hp⟩
    · have HST := keepHid hst
      clear hst
      go_wp2_with (go_at_call 53; (with_reducible refine HST.out.mono ?_); rintro e w5 ⟨A5, c5, O5, rfl, hp5⟩; have HP5 := keepHid hp5; clear hp5)
      go_ret
      exact ⟨A5, c5, O5, rfl, HP5.out⟩
    · have HP := keepHid hp
      clear hp
      go_wp2
      go_ret
      exact HP.out
    · have HP := keepHid hp
      clear hp
      go_wp2
      go_ret
      exact HP.out
set_option maxRecDepth 100000 in
set_option maxHeartbeats 4000000 in
theorem take_not {w : World} {B G W : Nat} {O : Nat → Prop} {crc cl : Bool} {s : Rd} (h : Rcv w B G O crc cl W s) (num : UInt8) (A : Option Addr) (n c : Nat) (he : num ≠ s.ex) (d : List UInt8) :
    Calls Tryz.prog 72 #[.pointer (some ⟨G, 0, none⟩), .agg #[.int .u8 (num.toNat : Int), .slice A n c]] w (RPost B G O crc cl W (takeR cl s num d) w) := by
  obtain ⟨wb, hwb⟩ : ∃ wb, w.alloc (.cells #[.int .u8 (num.toNat : Int), .slice A n c] 92) = wb := ⟨_, rfl⟩
  have hbb : Below w.heap.size w wb := by rw [← hwb]; exact (Below.refl _ _).alloc (Nat.le_refl _) _
  have hkb : Blk wb w.heap.size 92 #[.int .u8 (num.toNat : Int), .slice A n c] := by rw [← hwb]; exact Blk.new w _ _
  have b0 : wb.cell? ⟨w.heap.size, 0, none⟩ = some (.int .u8 (num.toNat : Int)) := hkb.cell 0
  have hr := h.below hbb
  have hr2 := hr.drew.drew
  have tt : Turn O w wb.drew.drew := Turn.drew (Turn.drew (Turn.of_below hbb))
  have q1 : ((num.toNat : Int) == (s.ex.toNat : Int)) = false := u8_ne he
  obtain ⟨p, hp⟩ : ∃ p, (s.ex - 1).toNat = p := ⟨_, rfl⟩
  have hp2 : ((s.ex.toNat : Int) - 1) % 256 = (p : Int) := by
    rw [← hp, UInt8.toNat_sub]
    have := u8lt s.ex
    simp
    omega
  have hx2 : IntKind.u8.wrap ((s.ex.toNat : Int) - 1) = (p : Int) := by rw [← hp2]; rfl
  have hst : Calls Tryz.prog 53 #[.pointer (some ⟨G, 0, none⟩), .iface 107 (.int .i64 14), .slice (some ⟨wb.heap.size, 0, none⟩) 2 2] (wb.alloc (.cells #[.int .u8 24, .int .u8 24] 5)).drew.drew (RPost B G O crc cl W ([24, 24], stopR s 14) w) := (stop_new hr2 14 (.iface 107 (.int .i64 14)) rfl [24, 24] 2 rfl (by omega) #[.int .u8 24, .int .u8 24] rfl wb.heap.size rfl).mono fun _ _ h => h.of tt (fun i hi => .inl hi)
  have hfin : (cl = false ∧ s.bl ≤ 0 ∧ Calls Tryz.prog 53 #[.pointer (some ⟨G, 0, none⟩), .nilIface, .slice (some ⟨wb.heap.size, 0, none⟩) 1 1] (wb.alloc (.cells #[.int .u8 6] 5)).drew.drew (RPost B G O crc cl W (finR cl s) w)) ∨
      (cl = false ∧ ¬ s.bl ≤ 0 ∧ RPost B G O crc cl W (finR cl s) w (.returned (.slice (some ⟨wb.heap.size, 0, none⟩) 1 1)) (wb.alloc (.cells #[.int .u8 6] 5)).drew.drew) ∨
      (cl = true ∧ RPost B G O crc cl W (finR cl s) w (.returned (.slice (some ⟨wb.heap.size, 0, none⟩) 1 1)) (wb.alloc (.cells #[.int .u8 6] 5)).drew.drew) := fin_post hr2 tt (fun i hi => .inl hi) wb.heap.size rfl
  have hlen : s.da.length = 0 ↔ s.da = [] := ⟨List.eq_nil_of_length_eq_zero, fun e => by rw [e]; rfl⟩
  have hbl := h.bl
  obtain ⟨⟨vb, vd, h1, h2, h3, h4, h5⟩, hg, hl, hge, a1, a2, a3, a4, a5, a6⟩ := hr
  obtain ⟨Ad, cd, rfl⟩ := len_sl h3
  have c8 : wb.cell? ⟨G, 8, none⟩ = some (.slice Ad s.da.length cd) := h1.cell 8
  have c0 : wb.cell? ⟨G, 0, none⟩ = some (.int .u8 (s.ex.toNat : Int)) := h1.cell 0
  have c2 : wb.cell? ⟨G, 2, none⟩ = some (.bool cl) := h1.cell 2
  have c3 : wb.cell? ⟨G, 3, none⟩ = some (.int .i64 s.bl) := h1.cell 3
  unfold takeR
  rw [if_neg he]
  by_cases hn : num = s.ex - 1
  · have hnp : num.toNat = p := by rw [hn, hp]
    have q2 : ((num.toNat : Int) != (p : Int)) = false := by rw [hnp]; simp
    by_cases hd : s.da = []
    · rw [if_pos (.inr hd)]
      rw [hlen.2 hd] at c8
      generalize stopR s 14 = r at *
      generalize s.ex.toNat = ex at *
      generalize num.toNat = nu at *
      have HST := keepHid hst
      clear h hbb hkb hr2 tt hst hfin h1 h2 h3 h4 h5 hg hl hge a1 a2 a3 a4 a5 a6 hn hnp hd hp hlen he
      go_enter Tryz.func72, Tryz.ntmps72
      go_upto_region 1 with fail
      go_region
      go_upto_region 5 with fail
      go_region
      all_goals
        go_wp2_with (go_at_call 53; (with_reducible refine HST.out.mono ?_); rintro e w5 ⟨A5, c5, O5, rfl, hp5⟩; have HP5 := keepHid hp5; clear hp5)
        go_ret
        exact ⟨A5, c5, O5, rfl, HP5.out⟩
    · rw [if_neg (fun e => e.elim (fun e => e hn) hd)]
      have q3 : ((s.da.length : Int) == 0) = false := by
        have : s.da.length ≠ 0 := fun e => hd (hlen.1 e)
        simp; omega
      generalize finR cl s = r at *
      generalize s.da.length = nd at *
      generalize s.ex.toNat = ex at *
      generalize num.toNat = nu at *
      generalize hbx : s.bl = bl at *
      clear h hbb hkb hr2 tt hst h1 h2 h3 h4 h5 hg hl hge a1 a2 a3 a4 a5 hn hnp hd hp hlen he
      rcases hfin with ⟨rfl, hb, hst⟩ | ⟨rfl, hb, hpp⟩ | ⟨rfl, hpp⟩
      · have HST := keepHid hst
        clear hst
        go_enter Tryz.func72, Tryz.ntmps72
        go_upto_region 1 with fail
        go_region
        go_upto_region 5 with fail
        go_region
        all_goals
          go_wp2_with (go_at_call 53; (with_reducible refine HST.out.mono ?_); rintro e w5 ⟨A5, c5, O5, rfl, hp5⟩; have HP5 := keepHid hp5; clear hp5)
          go_ret
          exact ⟨A5, c5, O5, rfl, HP5.out⟩
      all_goals
        have HP := keepHid hpp
        clear hpp
        go_enter Tryz.func72, Tryz.ntmps72
        go_upto_region 1 with fail
        go_region
        go_upto_region 5 with fail
        go_region
        all_goals
          go_wp2
          go_ret
          exact HP.out
  · rw [if_pos (.inl hn)]
    have hnp : num.toNat ≠ p := fun e => hn (UInt8.toNat_inj.1 (by rw [hp]; exact e))
    have q2 : ((num.toNat : Int) != (p : Int)) = true := by simp; omega
    generalize stopR s 14 = r at *
    generalize s.ex.toNat = ex at *
    generalize num.toNat = nu at *
    have HST := keepHid hst
    clear h hbb hkb hr2 tt hst hfin h1 h2 h3 h4 h5 hg hl hge a1 a2 a3 a4 a5 a6 hn hnp hp hlen he
    go_enter Tryz.func72, Tryz.ntmps72
    go_upto_region 1 with fail
    go_region
    go_upto_region 5 with fail
    go_region
    all_goals
      go_wp2_with (go_at_call 53; (with_reducible refine HST.out.mono ?_); rintro e w5 ⟨A5, c5, O5, rfl, hp5⟩; have HP5 := keepHid hp5; clear hp5)
      go_ret
      exact ⟨A5, c5, O5, rfl, HP5.out⟩
theorem take_any {w : World} {B G W : Nat} {O : Nat → Prop} {crc cl : Bool} {s : Rd} (h : Rcv w B G O crc cl W s) (num : UInt8) (A : Option Addr) (n c Q : Nat) (d : List UInt8) (hd : Bys w Q A n d) (hQ : Q ≤ w.heap.size) (hn : s.da.length + n ≤ 140737488355328) (hbl : -9223372036854775808 < s.bl) :
    Calls Tryz.prog 72 #[.pointer (some ⟨G, 0, none⟩), .agg #[.int .u8 (num.toNat : Int), .slice A n c]] w (RPost B G O crc cl W (takeR cl s num d) w) := by
  by_cases he : num = s.ex
  · have := take_yes h num A n c Q d hd hQ hn hbl he
    unfold takeR
    rwa [if_pos he]
  · exact take_not h num A n c he d


/-- bytes.HasPrefix, of a prefix of two. -/
theorem prefix_any (A B : Option Addr) (n c d P Q : Nat) (xs bs : List UInt8) (w : World) (ha : Bys w P A n xs) (hb : Bys w Q B 2 bs) (hc : n ≤ c) :
    Calls Tryz.prog 54 #[.slice A n c, .slice B 2 d] w fun e w' => e = .returned (.bool (decide (xs.take 2 = bs))) ∧ w = w' := by
  have hl := ha.len
  rcases Nat.lt_or_ge n 2 with h | h
  · have he : decide (xs.take 2 = bs) = false := by
      rw [decide_eq_false_iff_not]
      intro e
      have := congrArg List.length e
      rw [List.length_take, hb.len] at this
      omega
    rw [he]
    have i1 : ¬ (2 : Int) ≤ (n : Int) := by omega
    clear ha hb hl he
    go_enter Tryz.func54, Tryz.ntmps54
    go_wp2
    go_ret
    exact ⟨rfl, rfl⟩
  · have HE := keepHid (equal_any A B 2 2 c d P Q (xs.take 2) bs w (ha.head h) hb)
    have i1 : (2 : Int) ≤ (n : Int) := by omega
    have i2 : (2 : Int) ≤ (c : Int) := by omega
    clear ha hb hl
    generalize decide (xs.take 2 = bs) = q at *
    go_enter Tryz.func54, Tryz.ntmps54
    go_wp2_with (go_at_call 70; (with_reducible refine HE.out.mono ?_); rintro e w5 ⟨rfl, rfl⟩)
    go_ret
    exact ⟨rfl, rfl⟩
/-- What is read of bytes, in a block of its own. -/
def Scanned (w : World) (num : UInt8) (d : List UInt8) (p : Value) (wx : World) : Prop :=
  ∃ g A c, p = .pointer (some ⟨g, 0, none⟩) ∧ wx.cell? ⟨g, 0, none⟩ = some (.int .u8 (num.toNat : Int)) ∧ wx.cell? ⟨g, 1, none⟩ = some (.slice A d.length c) ∧ Bys wx wx.heap.size A d.length d ∧ Below w.heap.size w wx ∧ w.heap.size ≤ g ∧ ∀ G, G < w.heap.size → Apart (fun b => b = G) A d.length
theorem scanned_of {w w5 wx : World} {num : UInt8} {d : List UInt8} {g : Nat} {A : Option Addr} {c B : Nat} (hg : w.heap.size ≤ g) (hb : Below w.heap.size w wx) (hk : Blk wx g 92 #[.int .u8 (num.toNat : Int), .slice A d.length c]) (ho : OwnB w5 B 5 (.slice A d.length c) d.length d) (hd : d.length ≤ 1024)
    (ht : Turn (fun b => b = g) w5 wx) (hB : g < B ∨ w5.heap.size ≤ g) (hwB : w.heap.size ≤ B) : Scanned w num d (.pointer (some ⟨g, 0, none⟩)) wx := by
  refine ⟨g, A, c, rfl, hk.cell 0, hk.cell 1, ?_, hb, hg, fun G hG => apart_new ho (by omega)⟩
  have hy := ho.bys (by omega)
  refine (hy.turn ht (Nat.le_refl _) ?_).more ht.size
  rcases hB with h | h
  · exact apart_new ho h
  · exact hy.apart (fun i hi => by omega)
theorem scan_len (bs : List UInt8) (crc : Bool) : (scanL bs crc).2.2.length ≤ 1024 := by
  rcases scan_state bs crc with h | h | h
  · have : (scanL bs crc).2.2 = [] := by
      unfold scanL at h ⊢
      repeat' split
      all_goals simp_all
    rw [this]; simp
  · have : (scanL bs crc).2.2 = [] := by
      unfold scanL at h ⊢
      repeat' split
      all_goals simp_all
    rw [this]; simp
  · rcases scan_data bs crc h with e | e <;> omega
set_option maxRecDepth 100000 in
set_option maxHeartbeats 4000000 in
theorem scanR_any {w : World} {B G W : Nat} {O : Nat → Prop} {crc cl : Bool} {s : Rd} (h : Rcv w B G O crc cl W s) (hn : s.da.length + 1024 ≤ 140737488355328) (hbl : -9223372036854775808 < s.bl) (hbm : s.bu.length ≤ 140737488355328) :
    Calls Tryz.prog 55 #[.pointer (some ⟨G, 0, none⟩)] w (RPost B G O crc cl W (scanR crc cl s) w) := by
  have H := keepHid h
  obtain ⟨⟨vb, vd, h1, h2, h3, h4, h5⟩, hg, hl, hge, a1, a2, a3, a4, a5, a6⟩ := h
  obtain ⟨Ab, cb, hlb, hcm, rfl⟩ : ∃ A c, s.bu.length ≤ c ∧ c ≤ 9223372036854775807 ∧ vb = .slice A s.bu.length c := by
    obtain ⟨A, c, e, e1, e2, _⟩ := h2.form
    exact ⟨A, c, e1, e2, e⟩
  have c7 : w.cell? ⟨G, 7, none⟩ = some (.slice Ab s.bu.length cb) := h1.cell 7
  have c1 : w.cell? ⟨G, 1, none⟩ = some (.bool crc) := h1.cell 1
  have hlt := hl G hg
  have c7' : (w.alloc (.cells #[.int .u8 0, .slice none 0 0] 92)).cell? ⟨G, 7, none⟩ = some (.slice Ab s.bu.length cb) := (World.cell?_alloc_lt _ _ _ hlt).trans c7
  have c1' : (w.alloc (.cells #[.int .u8 0, .slice none 0 0] 92)).cell? ⟨G, 1, none⟩ = some (.bool crc) := (World.cell?_alloc_lt _ _ _ hlt).trans c1
  have hby := h2.bys (n := s.bu.length) (by omega)
  have HSC : Hid (∀ w', Below w.heap.size w w' → Calls Tryz.prog 71 #[.slice Ab s.bu.length cb, .bool crc] w' (ScanPost w' (scanL s.bu crc))) := keepHid (fun w' hb => scan_any Ab s.bu.length cb w.heap.size s.bu crc w' (hby.below hb) hb.size hlb hcm)
  have HD : Hid (Below w.heap.size w w.drew) := keepHid (Below.drew (Below.refl _ _))
  have HDA : Hid (Below w.heap.size w (w.alloc (.cells #[.int .u8 0, .slice none 0 0] 92)).drew) := keepHid (Below.drew ((Below.refl _ _).alloc (Nat.le_refl _) _))
  have hs := scan_state s.bu crc
  have hsd := scan_len s.bu crc
  have HSR : Hid (scanR crc cl s = if (scanL s.bu crc).1 = 0 then ([], s) else if (scanL s.bu crc).1 = 1 then ([21], { s with bu := [] }) else takeR cl { s with bu := [] } (scanL s.bu crc).2.1 (scanL s.bu crc).2.2) := keepHid rfl
  obtain ⟨⟨st, num, d⟩, hsc⟩ : ∃ r, scanL s.bu crc = r := ⟨_, rfl⟩
  rw [hsc] at HSC hs hsd HSR
  simp only [] at hs hsd HSR
  obtain ⟨r, hr0⟩ : ∃ r, scanR crc cl s = r := ⟨_, rfl⟩
  rw [hr0] at HSR ⊢
  have HFA : Hid (∀ A5 c5 w5, OwnB w5 (w.alloc (.cells #[.int .u8 0, .slice none 0 0] 92)).drew.heap.size 5 (.slice A5 d.length c5) d.length d → Below (w.alloc (.cells #[.int .u8 0, .slice none 0 0] 92)).drew.heap.size (w.alloc (.cells #[.int .u8 0, .slice none 0 0] 92)).drew w5 →
      w5.cell? ⟨w.heap.size, 0, none⟩ = some (.int .u8 0) ∧ w5.cell? ⟨w.heap.size, 1, none⟩ = some (.slice none 0 0) ∧ (∀ i, w5.frozen? ⟨w.heap.size, i, none⟩ = false) ∧ Scanned w num d (.pointer (some ⟨w.heap.size, 0, none⟩)) ((w5.setCell ⟨w.heap.size, 0, none⟩ (.int .u8 (num.toNat : Int))).setCell ⟨w.heap.size, 1, none⟩ (.slice A5 d.length c5))) := keepHid (fun A5 c5 w5 ho hb => by
    have k0 : Blk (w.alloc (.cells #[.int .u8 0, .slice none 0 0] 92)).drew w.heap.size 92 #[.int .u8 0, .slice none 0 0] := Blk.new w _ _
    have k5 := k0.below hb k0.lt
    have b5 : Below w.heap.size w w5 := HDA.out.trans (hb.mono HDA.out.size)
    exact ⟨k5.cell 0, k5.cell 1, k5.frozen, scanned_of (Nat.le_refl _) ((b5.setCell (Nat.le_refl _) _).setCell (Nat.le_refl _) _) ((k5.put 0 _).put 1 _) ho hsd (turnAt _ _ (turnAt _ _ (Turn.refl _ _))) (.inl k0.lt) HDA.out.size⟩)
  have HFB : Hid (∀ A5 c5 w5, OwnB w5 w.drew.heap.size 5 (.slice A5 d.length c5) d.length d → Below w.drew.heap.size w.drew w5 → Scanned w num d (.pointer (some ⟨w5.heap.size, 0, none⟩)) (w5.alloc (.cells #[.int .u8 (num.toNat : Int), .slice A5 d.length c5] 92))) := keepHid (fun A5 c5 w5 ho hb => by
    have b5 : Below w.heap.size w w5 := HD.out.trans (hb.mono HD.out.size)
    exact scanned_of b5.size (b5.alloc b5.size _) (Blk.new w5 _ _) ho hsd ((Turn.refl _ _).alloc _) (.inr (Nat.le_refl _)) HD.out.size)
  obtain ⟨nb, hnb⟩ : ∃ nb, s.bu.length = nb := ⟨_, rfl⟩
  rw [hnb] at c7 c7' HSC
  obtain ⟨nd, hnd⟩ : ∃ nd, d.length = nd := ⟨_, rfl⟩
  rw [hnd] at HFA HFB
  go_enter Tryz.func55, Tryz.ntmps55
  go_upto_region 1 with fail
  go_cut [3, 4] (fun p sv wx => sv = .int .i64 (st : Int) ∧ Scanned w num d p wx)
  case first =>
    clear hs hsd hn hbl hbm h1 h2 h3 h4 h5 hg hl hge a1 a2 a3 a4 a5 a6 hby hsc hnb
    go_region_with (go_at_call 71; (with_reducible refine (HSC.out _ (by first | exact HD.out | exact HDA.out)).mono ?_); rintro e w5 ⟨A5, c5, rfl, ho5, h51, h52, hb5⟩; simp only [hnd] at ho5 h51; first | (obtain ⟨f0, f1, ff, fR⟩ := HFA.out _ _ _ ho5 hb5; have HR5 := keepHid fR; clear fR ho5 hb5) | (have HR5 := keepHid (HFB.out _ _ _ ho5 hb5); clear ho5 hb5))
    all_goals
      go_wp2_with fail
      go_meet
      case rel => exact ⟨rfl, HR5.out⟩
  case rest =>
    obtain ⟨rfl, g, A5, c5, rfl, b0, b1, hby5, hb5, hg5, hap⟩ := hcut
    have hr := H.out.below hb5
    have hd := hr.drop_
    have hkc : wc.cell? ⟨G, 7, none⟩ = some (.slice Ab nb cb) := (hb5.cell hlt).trans c7
    have hfz : wc.frozen? ⟨G, 7, none⟩ = false := by
      obtain ⟨⟨_, _, q1, _⟩, _⟩ := hr
      exact q1.frozen 7
    have tt : Turn O w (wc.setCell ⟨G, 7, none⟩ (.slice none 0 0)) := (Turn.of_below hb5).trans (hr.turnO 7 _)
    rcases hs with rfl | rfl | rfl
    · have HP : Hid (RPost B G O crc cl W r w (.returned (.slice none 0 0)) wc) := keepHid (by rw [HSR.out, if_pos rfl]; exact RPost.none_ (Turn.of_below hb5) hr (fun i hi => .inl hi))
      clear hr hd tt hby5 hb5 hap h1 h2 h3 h4 h5 hg hl hge hby hsc
      go_wp2
      go_ret
      exact HP.out
    · have HP : Hid (RPost B G O crc cl W r w (.returned (.slice (some ⟨wc.heap.size, 0, none⟩) 1 1)) ((wc.setCell ⟨G, 7, none⟩ (.slice none 0 0)).alloc (.cells #[.int .u8 21] 5))) :=
        keepHid (by rw [HSR.out, if_neg (by decide), if_pos rfl]; exact (ack_post hd [21] 1 rfl (by omega) _ rfl wc.heap.size (by simp [World.setCell])).of tt (fun i hi => .inl hi))
      clear hr hd tt hby5 hb5 hap h1 h2 h3 h4 h5 hg hl hge hby hsc
      go_wp2
      go_ret
      exact HP.out
    · have HTK : Hid (Calls Tryz.prog 72 #[.pointer (some ⟨G, 0, none⟩), .agg #[.int .u8 (num.toNat : Int), .slice A5 d.length c5]] (wc.setCell ⟨G, 7, none⟩ (.slice none 0 0)) (RPost B G O crc cl W r w)) :=
        keepHid (by rw [HSR.out, if_neg (by decide), if_neg (by decide)]; exact (take_any hd num A5 d.length c5 wc.heap.size d (hby5.turn (turnAt _ _ (Turn.refl _ _)) (Nat.le_refl _) (hap G hlt)) (by simp [World.setCell]) (by show s.da.length + d.length ≤ _; omega) hbl).mono fun _ _ h => h.of tt (fun i hi => .inl hi))
      rw [hnd] at HTK b1
      clear hnd
      have hgG : ¬ g = G := by omega
      have hGg : ¬ G = g := by omega
      clear hr hd tt hby5 hb5 hap h1 h2 h3 h4 h5 hg hl hge hby hsc
      go_wp2_with (go_at_call 72; (with_reducible refine HTK.out.mono ?_); rintro e w7 ⟨A7, c7, O7, rfl, hp7⟩; have HP7 := keepHid hp7; clear hp7)
      go_ret
      exact ⟨A7, c7, O7, rfl, HP7.out⟩


theorem seeR_eot {crc cl : Bool} {s : Rd} (h : cl = true) (h4 : s.bu.head? = some 4) : seeR crc cl s = ([6], stopR s 0) := by unfold seeR; rw [if_pos ⟨h, h4⟩]
theorem seeR_can {crc cl : Bool} {s : Rd} (h : ¬ (cl = true ∧ s.bu.head? = some 4)) (h2 : s.bu.take 2 = [24, 24]) : seeR crc cl s = ([], stopR s 9) := by unfold seeR; rw [if_neg h, if_pos h2]
theorem seeR_one {crc cl : Bool} {s : Rd} (h : ¬ (cl = true ∧ s.bu.head? = some 4)) (h2 : ¬ s.bu.take 2 = [24, 24]) (h3 : s.bu = [24]) : seeR crc cl s = ([], s) := by unfold seeR; rw [if_neg h, if_neg h2, if_pos h3]
theorem seeR_scan {crc cl : Bool} {s : Rd} (h : ¬ (cl = true ∧ s.bu.head? = some 4)) (h2 : ¬ s.bu.take 2 = [24, 24]) (h3 : ¬ s.bu = [24]) : seeR crc cl s = scanR crc cl s := by unfold seeR; rw [if_neg h, if_neg h2, if_neg h3]
set_option maxRecDepth 100000 in
set_option maxHeartbeats 4000000 in
theorem put_rcv {w : World} {B G W : Nat} {O : Nat → Prop} {crc cl : Bool} {s : Rd} (h : Rcv w B G O crc cl W s) (A : Option Addr) (n c Q : Nat) (b : List UInt8) (hb : Bys w Q A n b) (hQ : Q ≤ w.heap.size) (hap : Apart (fun i => i = G) A n)
    (hn : s.da.length + 1024 ≤ 140737488355328) (hbl : -9223372036854775808 < s.bl) (hbm : s.bu.length + n ≤ 140737488355328) :
    Calls Tryz.prog 35 #[.pointer (some ⟨G, 0, none⟩), .slice A n c] w (RPost B G O crc cl W (putR crc cl W s b) w) := by
  have hlb := hb.len
  have ce : ∀ {i}, w.cell? ⟨G, i, none⟩ = w.cell? ⟨G, i, none⟩ := rfl
  have H := keepHid h
  have hw1 := h.w1
  have hw99 := h.w99
  have ht99 := h.t99
  obtain ⟨c5, c6, c9, hf⟩ : w.cell? ⟨G, 5, none⟩ = some (.int .i64 (W : Int)) ∧ w.cell? ⟨G, 6, none⟩ = some (.int .i64 (s.tk : Int)) ∧ w.cell? ⟨G, 9, none⟩ = some (.bool s.ov) ∧ ∀ i, w.frozen? ⟨G, i, none⟩ = false := by
    obtain ⟨⟨_, _, h1, _⟩, _⟩ := h
    exact ⟨h1.cell 5, h1.cell 6, h1.cell 9, h1.frozen⟩
  unfold putR
  by_cases ho : s.ov = true
  · rw [if_pos (.inl ho)]
    rw [ho] at c9
    have HP : Hid (RPost B G O crc cl W ([], s) w (.returned (.slice none 0 0)) w) := keepHid (RPost.none_ (Turn.refl _ w) h (fun i hi => .inl hi))
    clear h hb hlb hap hn hbl hbm ho
    go_enter Tryz.func35, Tryz.ntmps35
    go_wp2
    go_ret
    exact HP.out
  have ho' : s.ov = false := by simpa using ho
  by_cases hbe : b = []
  · rw [if_pos (.inr hbe)]
    rw [ho'] at c9
    obtain rfl : n = 0 := by rw [← hlb, hbe]; rfl
    have HP : Hid (RPost B G O crc cl W ([], s) w (.returned (.slice none 0 0)) w) := keepHid (RPost.none_ (Turn.refl _ w) h (fun i hi => .inl hi))
    clear h hb hlb hap hn hbl hbm ho ho' hbe
    go_enter Tryz.func35, Tryz.ntmps35
    go_wp2
    go_ret
    exact HP.out
  rw [if_neg (fun e => e.elim ho hbe)]
  rw [ho'] at c9
  have hn0 : 0 < n := by
    rcases b with _ | ⟨x, r⟩
    · exact absurd rfl hbe
    · simp at hlb; omega
  obtain ⟨r, hr⟩ : ∃ r, seeR crc cl { s with tk := W, bu := s.bu ++ b } = r := ⟨_, rfl⟩
  rw [hr]
  have HR := keepHid hr
  obtain ⟨w1, hw1'⟩ : ∃ w1, w.setCell ⟨G, 6, none⟩ (.int .i64 (W : Int)) = w1 := ⟨_, rfl⟩
  have h1 : Rcv w1 B G O crc cl W { s with tk := W } := by rw [← hw1']; exact h.put_ 6 _ (fun _ _ => rfl) rfl rfl hw1 hw99 h.tr h.bl
  have t1 : Turn O w w1 := by rw [← hw1']; exact h.turnO 6 _
  have hb1 : Bys w1 Q A n b := by rw [← hw1']; exact hb.turn (turnAt (G := G) 6 _ (Turn.refl _ w)) hQ hap
  obtain ⟨Ab, cb, e7, ho7, hgr⟩ := grew_buf h1 b n hlb
  obtain ⟨nb, hnb⟩ : ∃ nb, s.bu.length = nb := ⟨_, rfl⟩
  have ho7' : OwnB w1 B 5 (.slice Ab nb cb) nb s.bu := by rw [← hnb]; exact ho7
  have e7' : w1.cell? ⟨G, 7, none⟩ = some (.slice Ab nb cb) := by rw [← hnb]; exact e7
  have HO7 := keepHid ho7'
  have HY1 := keepHid hb1
  have hlow : B ≤ w1.heap.size := by have := h1.lt G h1.g; have := h1.ge G h1.g; omega
  have HGR : Hid (∀ A' c' w2, OwnB w2 B 5 (.slice A' (nb + n) c') (nb + n) (s.bu ++ b) → Turn (fun i => (Value.slice Ab nb cb).ownBlock = some i) w1 w2 → ((Value.slice A' (nb + n) c').ownBlock = (Value.slice Ab nb cb).ownBlock ∨ (Value.slice A' (nb + n) c').ownBlock = some w1.heap.size) → nb + n ≤ c' → c' ≤ 9223372036854775807 →
      w2.cell? ⟨G, 7, none⟩ = some (.slice Ab nb cb) ∧ w2.frozen? ⟨G, 7, none⟩ = false ∧ ∀ w3, w2.setCell ⟨G, 7, none⟩ (.slice A' (nb + n) c') = w3 →
        ∃ g O', A' = some ⟨g, 0, none⟩ ∧ Rcv w3 B G O' crc cl W { s with tk := W, bu := s.bu ++ b } ∧ Turn O w w3 ∧ (∀ i, O' i → O i ∨ w.heap.size ≤ i) ∧ w3.cell? ⟨G, 7, none⟩ = some (.slice (some ⟨g, 0, none⟩) (nb + n) c') ∧ w3.cell? ⟨G, 2, none⟩ = some (.bool cl) ∧ OwnB w3 B 5 (.slice (some ⟨g, 0, none⟩) (nb + n) c') (nb + n) (s.bu ++ b)) := keepHid (fun A' c' w2 q1 q2 q3 q4 q5 => by
    have hgr2 := hgr A' c' w2
    rw [show ({ s with tk := W } : Rd).bu.length = nb from hnb] at hgr2
    obtain ⟨f1, f2, O', f3, f4, f5, f6, f7⟩ := hgr2 ⟨q1, q2, q3⟩
    refine ⟨f1, f2 7, fun w3 hw3 => ?_⟩
    rw [hw3] at f3 f4 f6 f7
    obtain ⟨g, c2, e, _⟩ := f7.some_form (by omega)
    obtain rfl : A' = some ⟨g, 0, none⟩ := by injection e
    have c2' : w3.cell? ⟨G, 2, none⟩ = some (.bool cl) := by
      obtain ⟨⟨_, _, k1, _⟩, _⟩ := f3
      exact k1.cell 2
    exact ⟨g, O', rfl, f3, t1.trans f4, fun i hi => (f5 i hi).imp id (fun h => Nat.le_trans t1.size h), f6, c2', f7⟩)
  have hlq : (s.bu ++ b).length = nb + n := by rw [List.length_append, hnb, hlb]
  have HLQ := keepHid hlq
  have i0 : ((n : Int) == 0) = false := by simp; omega
  rw [hnb] at hbm
  obtain ⟨N, hN⟩ : ∃ N, nb + n = N := ⟨_, rfl⟩
  have hNm : N ≤ 140737488355328 := by omega
  have hN0 : 0 < N := by omega
  rw [hN] at HGR HLQ
  have HDN := keepHid hn
  have HBL := keepHid hbl
  clear h h1 hb hb1 hlb hap hn hbl ho ho' hbe hr hw1 hw99 ht99 t1 e7 ho7 hgr ho7' hnb hlq
  go_enter Tryz.func35, Tryz.ntmps35
  go_wp2_with (at_builtin; go_loud (refine wpList_append_bytes _ rfl _ _ 31 rfl B 5 byteT (.slice Ab nb cb) nb s.bu (by rfl) HO7.out Q A n c b (by rfl) HY1.out N hN (by omega) hlow ?_))
  intro A' c' w2 q1 q2 q3 q4 q5
  obtain ⟨f1, f2, f3⟩ := HGR.out A' c' w2 q1 q2 q3 q4 q5
  obtain ⟨w3, hw3⟩ : ∃ w3, w2.setCell ⟨G, 7, none⟩ (.slice A' N c') = w3 := ⟨_, rfl⟩
  obtain ⟨g, O', rfl, k1, k2, k3, k7, k2', k8⟩ := f3 w3 hw3
  go_upto_region 5 with fail
  try rw [hw3]
  clear f1 f2 f3 q1 q2 q3 HGR HO7 HY1 hw3
  generalize hq : s.bu ++ b = q at *
  obtain ⟨s1, hs1⟩ : ∃ s1, ({ s with tk := W, bu := q } : Rd) = s1 := ⟨_, rfl⟩
  rw [hs1] at HR k1
  have hbu : s1.bu = q := by rw [← hs1]
  have hda : s1.da = s.da := by rw [← hs1]
  have hbl1 : s1.bl = s.bl := by rw [← hs1]
  have hql := HLQ.out
  obtain ⟨c0, hc0⟩ : ∃ c0, q[0]? = some c0 := ⟨_, List.getElem?_eq_getElem (by omega)⟩
  have hhd : q.head? = some c0 := by rw [← hc0]; cases q <;> rfl
  have g0 : w3.cell? ⟨g, 0, none⟩ = some (.int .u8 (c0.toNat : Int)) := k8.cell hc0
  have hgw : w.heap.size ≤ w3.heap.size := k2.size
  have b4 : Below w3.heap.size w3 (w3.alloc (.cells #[.int .u8 24, .int .u8 24] 5)) := (Below.refl _ _).alloc (Nat.le_refl _) _
  have k4 := k1.below b4
  have t4 : Turn O w (w3.alloc (.cells #[.int .u8 24, .int .u8 24] 5)) := k2.trans (Turn.of_below b4)
  by_cases h4 : cl = true ∧ c0 = 4
  · obtain ⟨rfl, rfl⟩ := h4
    have HST : Hid (Calls Tryz.prog 53 #[.pointer (some ⟨G, 0, none⟩), .nilIface, .slice (some ⟨w3.heap.size, 0, none⟩) 1 1] (w3.alloc (.cells #[.int .u8 6] 5)) (RPost B G O crc true W r w)) := keepHid (by
      rw [← HR.out, seeR_eot rfl (by rw [hbu]; exact hhd)]
      exact (stop_new k1 0 .nilIface rfl [6] 1 rfl (by omega) _ rfl w3.heap.size rfl).mono fun _ _ h => h.of k2 k3)
    have g0' : w3.cell? ⟨g, 0, none⟩ = some (.int .u8 4) := g0
    clear g0 k1 k2 k3 k8 k4 b4 t4 hbu hda hbl1 hql hc0 hhd hq hs1 HR
    go_wp2_with (go_at_call 53; (with_reducible refine HST.out.mono ?_); rintro e w5 ⟨A5, c5, O5, rfl, hp5⟩; have HP5 := keepHid hp5; clear hp5)
    go_ret
    exact ⟨A5, c5, O5, rfl, HP5.out⟩
  have hne : ¬ (cl = true ∧ s1.bu.head? = some 4) := by
    rw [hbu, hhd]
    rintro ⟨e1, e2⟩
    exact h4 ⟨e1, Option.some.inj e2⟩
  have hgd : cl = false ∨ (cl = true ∧ ((c0.toNat : Int) == 4) = false) := by
    cases cl
    · exact .inl rfl
    · exact .inr ⟨rfl, u8_ne (d := 4) (fun e => h4 ⟨rfl, e⟩)⟩
  have HPF : Hid (Calls Tryz.prog 54 #[.slice (some ⟨g, 0, none⟩) N c', .slice (some ⟨w3.heap.size, 0, none⟩) 2 2] (w3.alloc (.cells #[.int .u8 24, .int .u8 24] 5)) fun e w' => e = .returned (.bool (decide (q.take 2 = [24, 24]))) ∧ (w3.alloc (.cells #[.int .u8 24, .int .u8 24] 5)) = w') := keepHid
    (prefix_any _ _ N c' 2 w3.heap.size (w3.heap.size + 1) q [24, 24] _ ((k8.bys (by omega)).alloc (Nat.le_refl _) _) (bys_new w3 _ [24, 24] 2 rfl (by decide) _ rfl _ rfl) q4)
  have g0a : (w3.alloc (.cells #[.int .u8 24, .int .u8 24] 5)).cell? ⟨g, 0, none⟩ = some (.int .u8 (c0.toNat : Int)) := (World.cell?_alloc_lt _ _ _ (World.block_lt_of_cell? _ _ g0)).trans g0
  have k7a : (w3.alloc (.cells #[.int .u8 24, .int .u8 24] 5)).cell? ⟨G, 7, none⟩ = some (.slice (some ⟨g, 0, none⟩) N c') := (World.cell?_alloc_lt _ _ _ (World.block_lt_of_cell? _ _ k7)).trans k7
  by_cases h2 : q.take 2 = [24, 24]
  · have HST : Hid (Calls Tryz.prog 53 #[.pointer (some ⟨G, 0, none⟩), .iface 107 (.int .i64 9), .slice none 0 0] (w3.alloc (.cells #[.int .u8 24, .int .u8 24] 5)) (RPost B G O crc cl W r w)) := keepHid (by
      rw [← HR.out, seeR_can hne (by rw [hbu]; exact h2)]
      exact (stop_none k4 9 _ rfl).mono fun _ _ h => h.of t4 k3)
    rw [decide_eq_true h2] at HPF
    clear k1 k2 k3 k8 k4 b4 t4 hbu hda hbl1 hql hc0 hhd hq hs1 HR hne h4 h2
    rcases hgd with rfl | ⟨rfl, hgd⟩
    all_goals
      generalize c0.toNat = cn at *
      go_wp2_with (first | (go_at_call 54; (with_reducible refine HPF.out.mono ?_); rintro e w6 ⟨rfl, rfl⟩) | (go_at_call 53; (with_reducible refine HST.out.mono ?_); rintro e w5 ⟨A5, c5, O5, rfl, hp5⟩; have HP5 := keepHid hp5; clear hp5))
      go_ret
      exact ⟨A5, c5, O5, rfl, HP5.out⟩
  rw [decide_eq_false h2] at HPF
  by_cases h1 : q = [24]
  · have HP : Hid (RPost B G O crc cl W r w (.returned (.slice none 0 0)) (w3.alloc (.cells #[.int .u8 24, .int .u8 24] 5))) := keepHid (by
      rw [← HR.out, seeR_one hne (by rw [hbu]; exact h2) (by rw [hbu]; exact h1)]
      exact RPost.none_ t4 k4 k3)
    have hN1 : N = 1 := by rw [← hql, h1]; rfl
    have h24 : c0 = 24 := by rw [h1] at hc0; simpa using hc0.symm
    subst hN1 h24
    have g0' : (w3.alloc (.cells #[.int .u8 24, .int .u8 24] 5)).cell? ⟨g, 0, none⟩ = some (.int .u8 24) := g0a
    have g0'' : w3.cell? ⟨g, 0, none⟩ = some (.int .u8 24) := g0
    clear g0 g0a k1 k2 k3 k8 k4 b4 t4 hbu hda hbl1 hql hc0 hhd hq hs1 HR hne h4 h2 h1
    rcases hgd with rfl | ⟨rfl, hgd⟩
    all_goals
      go_wp2_with (go_at_call 54; (with_reducible refine HPF.out.mono ?_); rintro e w6 ⟨rfl, rfl⟩)
      go_ret
      exact HP.out
  have HSN : Hid (Calls Tryz.prog 55 #[.pointer (some ⟨G, 0, none⟩)] (w3.alloc (.cells #[.int .u8 24, .int .u8 24] 5)) (RPost B G O crc cl W r w)) := keepHid (by
    rw [← HR.out, seeR_scan hne (by rw [hbu]; exact h2) (by rw [hbu]; exact h1)]
    exact (scanR_any k4 (by rw [hda]; exact HDN.out) (by rw [hbl1]; exact HBL.out) (by rw [hbu, hql]; exact hNm)).mono fun _ _ h => h.of t4 k3)
  have hlast : ((N : Int) == 1) = false ∨ (N = 1 ∧ ((c0.toNat : Int) == 24) = false) := by
    by_cases hN1 : N = 1
    · refine .inr ⟨hN1, u8_ne (d := 24) (fun e => h1 ?_)⟩
      rcases q with _ | ⟨x, _ | ⟨y, t⟩⟩
      · simp at hc0
      · simp at hc0; rw [hc0, e]
      · simp at hql; omega
    · exact .inl (by simp; omega)
  clear k1 k2 k3 k8 k4 b4 t4 hbu hda hbl1 hql hc0 hhd hq hs1 HR hne h4 h2 h1
  rcases hlast with hN1 | ⟨rfl, h24⟩
  all_goals
    rcases hgd with rfl | ⟨rfl, hgd⟩
    all_goals
      generalize c0.toNat = cn at *
      go_wp2_with (first | (go_at_call 54; (with_reducible refine HPF.out.mono ?_); rintro e w6 ⟨rfl, rfl⟩) | (go_at_call 55; (with_reducible refine HSN.out.mono ?_); rintro e w5 ⟨A5, c5, O5, rfl, hp5⟩; have HP5 := keepHid hp5; clear hp5))
      go_ret
      exact ⟨A5, c5, O5, rfl, HP5.out⟩


set_option maxRecDepth 100000 in
set_option maxHeartbeats 4000000 in
theorem tick_rcv {w : World} {B G W : Nat} {O : Nat → Prop} {crc cl : Bool} {s : Rd} (h : Rcv w B G O crc cl W s) :
    Calls Tryz.prog 32 #[.pointer (some ⟨G, 0, none⟩)] w (RPost B G O crc cl W (tickR crc W s) w) := by
  have hw1 := h.w1
  have hw99 := h.w99
  have h1 := h.t1
  have ht99 := h.t99
  have H := keepHid h
  obtain ⟨c5, c6, c7, c9, hf⟩ : w.cell? ⟨G, 5, none⟩ = some (.int .i64 (W : Int)) ∧ w.cell? ⟨G, 6, none⟩ = some (.int .i64 (s.tk : Int)) ∧ (∃ u, w.cell? ⟨G, 7, none⟩ = some u) ∧ w.cell? ⟨G, 9, none⟩ = some (.bool s.ov) ∧ ∀ i, w.frozen? ⟨G, i, none⟩ = false := by
    obtain ⟨⟨_, _, h1, _⟩, _⟩ := h
    exact ⟨h1.cell 5, h1.cell 6, ⟨_, h1.cell 7⟩, h1.cell 9, h1.frozen⟩
  obtain ⟨u7, c7⟩ := c7
  unfold tickR
  by_cases ho : s.ov = true
  · rw [if_pos ho]
    rw [ho] at c9
    have HP : Hid (RPost B G O crc cl W ([], s) w (.returned (.slice none 0 0)) w) := keepHid (RPost.none_ (Turn.refl _ w) h (fun i hi => .inl hi))
    clear h ho
    go_enter Tryz.func32, Tryz.ntmps32
    go_wp2
    go_ret
    exact HP.out
  rw [if_neg ho]
  have ho' : s.ov = false := by simpa using ho
  rw [ho'] at c9
  obtain ⟨u, hu⟩ : ∃ u, s.tk = u + 1 := ⟨s.tk - 1, by omega⟩
  have i1 : (s.tk : Int) - 1 = (u : Int) := by omega
  have hu99 : (u : Int) ≤ 98 := by omega
  by_cases hk : 1 < s.tk
  · rw [if_pos hk]
    have hr : Rcv (w.setCell ⟨G, 6, none⟩ (.int .i64 (u : Int))) B G O crc cl W { s with tk := s.tk - 1 } := h.put_ 6 _ (fun _ _ => by rw [show s.tk - 1 = u by omega]; rfl) rfl rfl (by show 1 ≤ s.tk - 1; omega) (by show s.tk - 1 ≤ 99; omega) h.tr h.bl
    have HP : Hid (RPost B G O crc cl W ([], { s with tk := s.tk - 1 }) w (.returned (.slice none 0 0)) (w.setCell ⟨G, 6, none⟩ (.int .i64 (u : Int)))) := keepHid (RPost.none_ (h.turnO 6 _) hr (fun i hi => .inl hi))
    have i2 : 0 < (u : Int) := by omega
    generalize ({ s with tk := s.tk - 1 } : Rd) = s' at *
    generalize s.tk = tk at *
    clear h hr ho ho' hk h1 ht99 hu hw1 hw99
    go_enter Tryz.func32, Tryz.ntmps32
    go_wp2
    go_ret
    exact HP.out
  · rw [if_neg hk]
    obtain rfl : u = 0 := by omega
    obtain ⟨w2, hw2⟩ : ∃ w2, (((w.setCell ⟨G, 6, none⟩ (.int .i64 0)).setCell ⟨G, 6, none⟩ (.int .i64 (W : Int))).setCell ⟨G, 7, none⟩ (.slice none 0 0)) = w2 := ⟨_, rfl⟩
    have hd : Rcv w2 B G O crc cl W { s with tk := W, bu := [] } := by
      rw [← hw2]
      have t : Turn (fun b => b = G) w (((w.setCell ⟨G, 6, none⟩ (.int .i64 0)).setCell ⟨G, 6, none⟩ (.int .i64 (W : Int))).setCell ⟨G, 7, none⟩ (.slice none 0 0)) := turnAt 7 _ (turnAt 6 _ (turnAt 6 _ (Turn.refl _ w)))
      obtain ⟨⟨vb, vd, h1, h2, h3, h4, h5⟩, hg, hl, hge, a1, a2, a3, a4, a5, a6⟩ := h
      exact ⟨⟨.slice none 0 0, vd, ((h1.put 6 _).put 6 _).put 7 _, World.ownsRow_nil _ _ _ _, h3.keep fun j hj hlt => t.block j hlt (h5 j hj).2, fun j hj => by simp [Value.ownBlock] at hj, h5⟩, hg, fun j hj => Nat.lt_of_lt_of_le (hl j hj) t.size, hge, a1, a2, hw1, hw99, a5, a6⟩
    have tt : Turn O w w2 := by
      rw [← hw2]
      exact ((turnAt 7 _ (turnAt 6 _ (turnAt 6 _ (Turn.refl _ w)))) : Turn (fun b => b = G) w _).mono (fun i hi => by rw [hi]; exact h.g)
    have HAS : Hid (Calls Tryz.prog 51 #[.pointer (some ⟨G, 0, none⟩)] w2 (RPost B G O crc cl W (askR crc { s with tk := W, bu := [] }) w)) := keepHid ((ask_any hd).mono fun _ _ h => h.of tt (fun i hi => .inl hi))
    generalize askR crc { s with tk := W, bu := [] } = r at *
    generalize s.tk = tk at *
    clear h hd tt ho ho' hk h1 ht99 hu
    go_enter Tryz.func32, Tryz.ntmps32
    go_wp2_with (go_at_call 51; (with_reducible refine HAS.out.mono ?_); rintro e w5 ⟨A5, c5, O5, rfl, hp5⟩; have HP5 := keepHid hp5; clear hp5)
    go_ret
    exact ⟨A5, c5, O5, rfl, HP5.out⟩
theorem done_rcv {w : World} {B G W : Nat} {O : Nat → Prop} {crc cl : Bool} {s : Rd} (h : Rcv w B G O crc cl W s) :
    Calls Tryz.prog 48 #[.pointer (some ⟨G, 0, none⟩)] w fun e w' => e = .returned (.tuple #[.bool s.ov, errV s.er]) ∧ w' = w.drew := by
  obtain ⟨c9, c10⟩ : w.cell? ⟨G, 9, none⟩ = some (.bool s.ov) ∧ w.cell? ⟨G, 10, none⟩ = some (errV s.er) := by
    obtain ⟨⟨_, _, h1, _⟩, _⟩ := h
    exact ⟨h1.cell 9, h1.cell 10⟩
  clear h
  rcases errV_or s.er with e | ⟨t, u, e⟩
  all_goals
    rw [e] at c10 ⊢
    go_enter Tryz.func48, Tryz.ntmps48
    go_upto_region 1 with fail
    go_region
    go_wp2
    go_ret2
    exact ⟨rfl, rfl⟩
/-- The data, in a row of the call's own. -/
theorem data_rcv {w : World} {B G W : Nat} {O : Nat → Prop} {crc cl : Bool} {s : Rd} (h : Rcv w B G O crc cl W s) (hn : s.da.length ≤ 140737488355328) :
    Calls Tryz.prog 49 #[.pointer (some ⟨G, 0, none⟩)] w (RetB w s.da) := by
  obtain ⟨⟨vb, vd, h1, h2, h3, h4, h5⟩, hg, hl, hge, a1, a2, a3, a4, a5, a6⟩ := h
  obtain ⟨Ad, cd, rfl⟩ := len_sl h3
  have c8 : w.cell? ⟨G, 8, none⟩ = some (.slice Ad s.da.length cd) := h1.cell 8
  have HC := keepHid (clone_any Ad s.da.length cd w.heap.size s.da w (h3.bys (by omega)) hn)
  generalize s.da.length = n at *
  generalize s.da = d at *
  clear h1 h2 h3 h4 h5 hg hl hge a1 a2 a3 a4 a5 a6
  go_enter Tryz.func49, Tryz.ntmps49
  go_wp2_with (go_at_call 64; (with_reducible refine HC.out.mono ?_); rintro e w5 ⟨A5, c5, rfl, hp5⟩; have HP5 := keepHid hp5; clear hp5)
  go_ret
  exact ⟨A5, c5, rfl, HP5.out⟩
def OfRPost (w : World) (crc cl : Bool) (W : Nat) (s : Rd) (e : Ending) (w' : World) : Prop :=
  ∃ G, e = .returned (.pointer (some ⟨G, 0, none⟩)) ∧ w.heap.size ≤ G ∧ Rcv w' w.heap.size G (fun i => i = G) crc cl W s ∧ Below w.heap.size w w'
set_option maxRecDepth 100000 in
set_option maxHeartbeats 4000000 in
theorem of_rcv (z1 z2 : Int) (number : UInt8) (crc cl : Bool) (many : Int) (w : World) (hm : many ≤ 9223372036854775807) :
    Calls Tryz.prog 59 #[.agg #[.int .i64 z1, .int .i64 z2], .int .u8 (number.toNat : Int), .bool crc, .bool cl, .int .i64 many] w (OfRPost w crc cl (capZ z2 99) (newR number many (capZ z1 9))) := by
  obtain ⟨hT, hT1, hT9⟩ := capZ_is z1 9 (by omega)
  obtain ⟨hW, hW1, hW9⟩ := capZ_is z2 99 (by omega)
  generalize capZ z1 9 = T at *
  generalize capZ z2 99 = W at *
  obtain ⟨mb, hmb⟩ : ∃ mb, max many 1 = mb := ⟨_, rfl⟩
  obtain ⟨m1, hm1⟩ : ∃ m1, max z1 1 = m1 := ⟨_, rfl⟩
  obtain ⟨m2, hm2⟩ : ∃ m2, max z2 1 = m2 := ⟨_, rfl⟩
  rw [hm1] at hT
  rw [hm2] at hW
  have q1 := fun ts t W => max_z ts t z1 1 m1 hm1 W
  have q2 := fun ts t W => max_z ts t z2 1 m2 hm2 W
  have q3 := fun ts t W => min_z ts t m1 9 T hT W
  have q4 := fun ts t w => min_z ts t m2 99 W hW w
  have q5 := fun ts t w => max_z ts t many 1 mb hmb w
  obtain ⟨w1, hw1⟩ : ∃ w1, w.alloc (.cells #[.int .i64 z1, .int .i64 z2] 23) = w1 := ⟨_, rfl⟩
  have hb1 : Below w.heap.size w w1 := by rw [← hw1]; exact (Below.refl _ _).alloc (Nat.le_refl _) _
  have hk1 : Blk w1 w.heap.size 23 #[.int .i64 z1, .int .i64 z2] := by rw [← hw1]; exact Blk.new w _ _
  have a0 : w1.cell? ⟨w.heap.size, 0, none⟩ = some (.int .i64 z1) := hk1.cell 0
  have a1 : w1.cell? ⟨w.heap.size, 1, none⟩ = some (.int .i64 z2) := hk1.cell 1
  have HP : Hid (OfRPost w crc cl W (newR number many T) (.returned (.pointer (some ⟨w1.heap.size, 0, none⟩))) (w1.alloc (.cells #[.int .u8 (number.toNat : Int), .bool crc, .bool cl, .int .i64 mb, .int .i64 (T : Int), .int .i64 (W : Int), .int .i64 1, .slice none 0 0, .slice none 0 0, .bool false, .nilIface] 104))) := keepHid (by
    refine ⟨w1.heap.size, rfl, hb1.size, ?_, hb1.alloc hb1.size _⟩
    refine ⟨⟨.slice none 0 0, .slice none 0 0, ?_, World.ownsRow_nil _ _ _ _, World.ownsRow_nil _ _ _ _, fun i hi => by simp [Value.ownBlock] at hi, fun i hi => by simp [Value.ownBlock] at hi⟩, rfl, fun i hi => by rw [hi]; simp, fun i hi => by rw [hi]; exact hb1.size, hW1, hW9, Nat.le_refl _, by show 1 ≤ 99; omega, hT9, by show max many 1 ≤ _; omega⟩
    rw [← hmb]
    exact Blk.new w1 _ _)
  clear hT hW hm1 hm2 hT1 hT9 hW1 hW9 hb1 hk1 hm hmb
  go_enter Tryz.func59, Tryz.ntmps59
  go_wp2
  go_ret
  exact HP.out
end Go.Proofs.YtonloefjhofeeaaGreatDoor
