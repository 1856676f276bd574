/-
  A Watch, as it lies: its tables, and at which places it is; or that it is over.
-/
import Derived.Test.YtgndcgknedmalaaGreatDoorNfaPlain
import Derived.Test.YtgndcgknedmalaaGreatDoorNfaVar
import Derived.LoopTactic
namespace Go.Proofs.YtgndcgknedmalaaGreatDoor
open Go.RowKit
set_option linter.unusedVariables false

def ptrV (t : Nat) : Value := .pointer (some ⟨t, 0, none⟩)
theorem Sl.keep2 {α : Type} {f : α → Value} {w w' : World} {A : Option Addr} {n : Nat} {xs : List α} (h : Sl f w A n xs) (hs : w.heap.size ≤ w'.heap.size) (hk : ∀ ad, A = some ad → ad.block < w.heap.size → w'.heap[ad.block]? = w.heap[ad.block]?) : Sl f w' A n xs :=
  ⟨h.1, h.2.1, fun k x hx => by
    obtain ⟨ad, e, hb, hc⟩ := h.2.2 k x hx
    exact ⟨ad, e, Nat.lt_of_lt_of_le hb hs, (World.cell?_of_block (by rw [ad_block]; exact hk ad e hb)).trans hc⟩⟩
theorem TabA.kept {w w' : World} {lo g : Nat} {A : Au} (h : TabA w lo g A) (hk : ∀ b, lo ≤ b → b < w.heap.size → w'.heap[b]? = w.heap[b]?) : TabA w' lo g A := by
  obtain ⟨F, c, L, k, ⟨vs, vg, M, vals, h1⟩, h2, h3⟩ := h
  refine ⟨F, c, L, k, ⟨vs, vg, M, vals, ?_⟩, own_keep h2 fun i hi hl => hk i (h2.lt i hi).1 hl, own_keep h3 fun i hi hl => hk i (h3.lt i hi).1 hl⟩
  exact ⟨(hk g h1.log h1.blk.lt).trans h1.blk, h1.log, h1.lom, own_keep h1.sets fun i hi hl => hk i (h1.sets.lt i hi).1 hl, own_keep h1.groups fun i hi hl => hk i (h1.groups.lt i hi).1 hl,
    fun i q hq => by obtain ⟨v, e, hr⟩ := h1.rows i q hq; exact ⟨v, e, own_keep hr fun b hb hl => hk b (hr.lt b hb).1 hl⟩, h1.leads.keep (hk M h1.lom h1.leads.lt)⟩
/-- The tables of a Watch in block g: a row of pointers; all of it lies above g, and below H. -/
structure Tbs (w : World) (H g : Nat) (As : List Au) (A : Option Addr) (ts : List Nat) (w0 : World) : Prop where
  small : w0.heap.size ≤ H
  size : w0.heap.size ≤ w.heap.size
  same : ∀ b, g < b → b < w0.heap.size → w.heap[b]? = w0.heap[b]?
  row : Sl ptrV w0 A As.length ts
  low : ∀ ad, A = some ad → g < ad.block
  tab : ∀ (j : Nat) (a : Au), As[j]? = some a → ∃ t, ts[j]? = some t ∧ TabA w0 (g + 1) t a
  wf : ∀ (j : Nat) (a : Au), As[j]? = some a → AuWf a
namespace Tbs
variable {w w' w0 : World} {H g : Nat} {As : List Au} {A : Option Addr} {ts : List Nat}
theorem at_ (h : Tbs w H g As A ts w0) {j : Nat} {a : Au} (hj : As[j]? = some a) : ∃ t ad, A = some ad ∧ w.cell? (ad.add j) = some (ptrV t) ∧ TabA w (g + 1) t a ∧ AuWf a := by
  obtain ⟨t, ht, hT⟩ := h.tab j a hj
  obtain ⟨ad, e, hb, hc⟩ := h.row.2.2 j t ht
  refine ⟨t, ad, e, (World.cell?_of_block (by rw [ad_block]; exact h.same _ (h.low ad e) hb)).trans hc, hT.kept fun b hb hl => h.same b (by omega) hl, h.wf j a hj⟩
theorem turn {S : Nat → Prop} {B : Nat} (h : Tbs w H g As A ts w0) (ht : Turn S w w') (hS : ∀ b, S b → b ≤ g ∨ H ≤ b) : Tbs w' H g As A ts w0 :=
  ⟨h.small, Nat.le_trans h.size ht.size, fun b hb hl => (ht.block b (Nat.lt_of_lt_of_le hl h.size) (fun e => by have := hS b e; have := h.small; omega)).trans (h.same b hb hl), h.row, h.low, h.tab, h.wf⟩
end Tbs
/-- The places at which the patterns are. -/
structure Ats (w : World) (P : Nat → Prop) (As : List Au) (f : Nat → List UInt8) (vs : List Value) : Prop where
  len : vs.length = 8
  at_ : ∀ (j : Nat) (a : Au), As[j]? = some a → ∃ At m c, vs[j]? = some (.slice At m c) ∧ Sl Value.bool w At m (srch a (f j)) ∧ ∀ ad, At = some ad → P ad.block ∧ ad.block < w.heap.size
theorem Ats.turn {w w' : World} {P : Nat → Prop} {As : List Au} {f : Nat → List UInt8} {vs : List Value} {S : Nat → Prop} (h : Ats w P As f vs) (ht : Turn S w w') (hS : ∀ b, S b → ¬ P b) : Ats w' P As f vs :=
  ⟨h.len, fun j a hj => by
    obtain ⟨At, m, c, h1, h2, h3⟩ := h.at_ j a hj
    exact ⟨At, m, c, h1, h2.keep2 ht.size fun ad e hl => ht.block _ hl (fun e2 => hS _ e2 (h3 ad e).1), fun ad e => ⟨(h3 ad e).1, Nat.lt_of_lt_of_le (h3 ad e).2 ht.size⟩⟩⟩
theorem Ats.sub {w : World} {P P' : Nat → Prop} {As : List Au} {f : Nat → List UInt8} {vs : List Value} (h : Ats w P As f vs) (hP : ∀ b, P b → b < w.heap.size → P' b) : Ats w P' As f vs :=
  ⟨h.len, fun j a hj => by
    obtain ⟨At, m, c, h1, h2, h3⟩ := h.at_ j a hj
    exact ⟨At, m, c, h1, h2, fun ad e => ⟨hP _ (h3 ad e).1 (h3 ad e).2, (h3 ad e).2⟩⟩⟩
def cellsW (V : Value) (vs : List Value) (n : Nat) (o : Bool) : Array Value := (V :: (vs ++ [.int .i64 (n : Int), .bool o])).toArray
theorem cells_tabs (V : Value) (vs : List Value) (n : Nat) (o : Bool) : (cellsW V vs n o)[0]? = some V := by simp [cellsW]
theorem cells_at {V : Value} {vs : List Value} {n : Nat} {o : Bool} {j : Nat} {v : Value} (h : vs[j]? = some v) : (cellsW V vs n o)[1 + j]? = some v := by
  have hl : j < vs.length := by
    rcases Nat.lt_or_ge j vs.length with hl | hl
    · exact hl
    · rw [List.getElem?_eq_none hl] at h; cases h
  rw [Nat.add_comm]
  simp [cellsW, List.getElem?_append_left hl, h]
theorem cells_seen {V : Value} {vs : List Value} {n : Nat} {o : Bool} (h : vs.length = 8) : (cellsW V vs n o)[9]? = some (.int .i64 (n : Int)) := by
  simp [cellsW, h]
theorem cells_over {V : Value} {vs : List Value} {n : Nat} {o : Bool} (h : vs.length = 8) : (cellsW V vs n o)[10]? = some (.bool o) := by
  simp [cellsW, h]
theorem cells_put_seen {V : Value} {vs : List Value} {n m : Nat} {o : Bool} (h : vs.length = 8) : (cellsW V vs n o).setIfInBounds 9 (.int .i64 (m : Int)) = cellsW V vs m o := by
  simp [cellsW, h]
theorem cells_put_at {V v : Value} {vs : List Value} {n : Nat} {o : Bool} {j : Nat} (h : j < vs.length) : (cellsW V vs n o).setIfInBounds (1 + j) v = cellsW V (vs.set j v) n o := by
  rw [Nat.add_comm]
  simp [cellsW, h]
/-- A Watch in block g that waits: of pattern j the text f j has been read, n bytes have been seen. -/
structure WatIn (w : World) (H : Nat) (P : Nat → Prop) (g : Nat) (As : List Au) (f : Nat → List UInt8) (n : Nat) (A : Option Addr) (cap : Nat) (vs : List Value) : Prop where
  tabs : ∃ ts w0, Tbs w H g As A ts w0
  blk : Blk w g 101 (cellsW (.slice A As.length cap) vs n false)
  ats : Ats w P As f vs
  few : As.length ≤ 8
  base : g < H ∧ H ≤ w.heap.size ∧ ∀ b, P b → H ≤ b
namespace WatIn
variable {w w' : World} {H g : Nat} {P : Nat → Prop} {As : List Au} {f : Nat → List UInt8} {n : Nat} {A : Option Addr} {cap : Nat} {vs : List Value}
/-- Others have turned. -/
theorem turn {S : Nat → Prop} (h : WatIn w H P g As f n A cap vs) (ht : Turn S w w') (hS : ∀ b, S b → b < g ∨ (H ≤ b ∧ ¬ P b)) : WatIn w' H P g As f n A cap vs := by
  obtain ⟨ts, w0, h1⟩ := h.tabs
  obtain ⟨b1, b2, b3⟩ := h.base
  exact ⟨⟨ts, w0, h1.turn (B := H) ht fun b e => by have := hS b e; omega⟩, ht.blk h.blk (fun e => by have := hS g e; omega), h.ats.turn ht (fun b e hp => by
    rcases hS b e with h | ⟨h, h'⟩
    · have := b3 b hp; omega
    · exact h' hp), h.few, b1, Nat.le_trans b2 ht.size, b3⟩
theorem below (h : WatIn w H P g As f n A cap vs) (hb : Below w.heap.size w w') : WatIn w' H P g As f n A cap vs :=
  h.turn (S := fun _ => False) (Turn.of_below hb) (fun _ e => e.elim)
/-- One byte more is seen. -/
theorem seen (h : WatIn w H P g As f n A cap vs) (m : Nat) : WatIn (w.setCell ⟨g, 9, none⟩ (.int .i64 (m : Int))) H P g As f m A cap vs := by
  obtain ⟨ts, w0, h1⟩ := h.tabs
  obtain ⟨b1, b2, b3⟩ := h.base
  have ht : Turn (fun b => b = g) w (w.setCell ⟨g, 9, none⟩ (.int .i64 (m : Int))) := Turn.setCell (S := fun b => b = g) (Turn.refl _ w) (.inl rfl) _
  refine ⟨⟨ts, w0, h1.turn (B := H) ht fun b e => by omega⟩, ?_, h.ats.turn ht (fun b e hp => by have := b3 b hp; omega), h.few, b1, Nat.le_trans b2 ht.size, b3⟩
  have := h.blk.put 9 (.int .i64 (m : Int))
  rwa [cells_put_seen h.ats.len] at this
/-- Pattern i has read on. -/
theorem step (h : WatIn w H P g As f n A cap vs) {i : Nat} {a : Au} (hi : As[i]? = some a) {G m : Nat} {l : List UInt8} (hs : Sl Value.bool w (some ⟨G, 0, none⟩) m (srch a l)) (hG : P G) (hGl : G < w.heap.size) :
    WatIn (w.setCell ⟨g, 1 + i, none⟩ (.slice (some ⟨G, 0, none⟩) m m)) H P g As (fun j => if j = i then l else f j) n A cap (vs.set i (.slice (some ⟨G, 0, none⟩) m m)) := by
  obtain ⟨ts, w0, h1⟩ := h.tabs
  obtain ⟨b1, b2, b3⟩ := h.base
  have ht : Turn (fun b => b = g) w (w.setCell ⟨g, 1 + i, none⟩ (.slice (some ⟨G, 0, none⟩) m m)) := Turn.setCell (S := fun b => b = g) (Turn.refl _ w) (.inl rfl) _
  have hil : i < vs.length := by
    have : i < As.length := by
      rcases Nat.lt_or_ge i As.length with hl | hl
      · exact hl
      · rw [List.getElem?_eq_none hl] at hi; cases hi
    rw [h.ats.len]; have := h.few; omega
  refine ⟨⟨ts, w0, h1.turn (B := H) ht fun b e => by omega⟩, ?_, ⟨by rw [List.length_set]; exact h.ats.len, fun j a' hj => ?_⟩, h.few, b1, Nat.le_trans b2 ht.size, b3⟩
  · have := h.blk.put (1 + i) (.slice (some ⟨G, 0, none⟩) m m)
    rwa [cells_put_at hil] at this
  · by_cases e : j = i
    · subst e
      rw [hi] at hj
      obtain rfl := Option.some.inj hj
      refine ⟨some ⟨G, 0, none⟩, m, m, by rw [List.getElem?_set_self hil], ?_, fun ad e => by cases e; exact ⟨hG, Nat.lt_of_lt_of_le hGl ht.size⟩⟩
      rw [if_pos rfl]
      exact hs.keep2 ht.size fun ad e hl => ht.block _ hl (fun e2 => by cases e; simp at e2; have := b3 G hG; omega)
    · obtain ⟨At, m', c', q1, q2, q3⟩ := (h.ats.turn ht (fun b e hp => by have := b3 b hp; omega)).at_ j a' hj
      refine ⟨At, m', c', by rw [List.getElem?_set_ne (by omega)]; exact q1, ?_, q3⟩
      rw [if_neg e]; exact q2
theorem sub {P' : Nat → Prop} (h : WatIn w H P g As f n A cap vs) (hP : ∀ b, P b → b < w.heap.size → P' b) (hH : ∀ b, P' b → H ≤ b) : WatIn w H P' g As f n A cap vs :=
  ⟨h.tabs, h.blk, h.ats.sub hP, h.few, h.base.1, h.base.2.1, hH⟩
theorem text {f' : Nat → List UInt8} (h : WatIn w H P g As f n A cap vs) (e : ∀ j a, As[j]? = some a → f' j = f j) : WatIn w H P g As f' n A cap vs :=
  ⟨h.tabs, h.blk, ⟨h.ats.len, fun j a hj => by rw [e j a hj]; exact h.ats.at_ j a hj⟩, h.few, h.base⟩
end WatIn
def Wat (w : World) (H : Nat) (P : Nat → Prop) (g : Nat) (As : List Au) (s : List UInt8) : Prop := ∃ A cap vs, WatIn w H P g As (fun _ => s) s.length A cap vs
theorem Wat.turn {w w' : World} {H g : Nat} {P : Nat → Prop} {As : List Au} {s : List UInt8} {S : Nat → Prop} (h : Wat w H P g As s) (ht : Turn S w w') (hS : ∀ b, S b → b < g ∨ (H ≤ b ∧ ¬ P b)) : Wat w' H P g As s := by
  obtain ⟨A, cap, vs, h⟩ := h
  exact ⟨A, cap, vs, h.turn ht hS⟩
theorem Wat.below {w w' : World} {H g : Nat} {P : Nat → Prop} {As : List Au} {s : List UInt8} (h : Wat w H P g As s) (hb : Below w.heap.size w w') : Wat w' H P g As s := by
  obtain ⟨A, cap, vs, h⟩ := h
  exact ⟨A, cap, vs, h.below hb⟩
/-- A Watch that is over; n bytes have been seen. -/
def Wov (w : World) (g n : Nat) : Prop := ∃ cs, Blk w g 101 cs ∧ cs[9]? = some (.int .i64 (n : Int)) ∧ cs[10]? = some (.bool true)
theorem Wov.turn {w w' : World} {g n : Nat} {S : Nat → Prop} (h : Wov w g n) (ht : Turn S w w') (hS : ¬ S g) : Wov w' g n := by
  obtain ⟨cs, h1, h2⟩ := h
  exact ⟨cs, ht.blk h1 hS, h2⟩
theorem Wov.below {w w' : World} {g n : Nat} (h : Wov w g n) (hb : Below w.heap.size w w') : Wov w' g n := h.turn (S := fun _ => False) (Turn.of_below hb) (fun e => e)
/-- Either. -/
structure Seen9 (w : World) (g n : Nat) (o : Bool) : Prop where
  c9 : w.cell? ⟨g, 9, none⟩ = some (.int .i64 (n : Int))
  c10 : w.cell? ⟨g, 10, none⟩ = some (.bool o)
theorem Wat.cells {w : World} {H g : Nat} {P : Nat → Prop} {As : List Au} {s : List UInt8} (h : Wat w H P g As s) : Seen9 w g s.length false := by
  obtain ⟨A, cap, vs, h⟩ := h
  exact ⟨(h.blk.cell 9).trans (cells_seen h.ats.len), (h.blk.cell 10).trans (cells_over h.ats.len)⟩
theorem Wov.cells {w : World} {g n : Nat} (h : Wov w g n) : Seen9 w g n true := by
  obtain ⟨cs, h1, h2, h3⟩ := h
  exact ⟨(h1.cell 9).trans h2, (h1.cell 10).trans h3⟩
end Go.Proofs.YtgndcgknedmalaaGreatDoor
