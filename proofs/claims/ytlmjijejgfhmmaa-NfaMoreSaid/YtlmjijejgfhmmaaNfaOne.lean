/-
  nfa's kid, nothing, one, by contracts.
-/
import Derived.Test.YtlmjijejgfhmmaaNfaUnion
import Derived.Test.YtlmjijejgfhmmaaRegexParse
import Derived.Deep.RegionLaw
namespace Go.Proofs.Ytlmjijejgfhmmaa
open Go.RowKit
set_option linter.unusedVariables false

set_option maxHeartbeats 1000000 in
theorem kid0_any (k : Int) (s : St) (g n c : Nat) (x : Hd) (w : World) (hn : 1 ≤ n) (hx : AtHd w g 0 x) :
    Calls Try.prog 36 #[hdV ⟨k, s, some ⟨g, 0, none⟩, n, c⟩, .int .i64 0] w fun e w' => e = .returned (hdV x) ∧ Below w.heap.size w w' := by
  obtain ⟨x0, x1, x2, x3, x4, x5⟩ := at0 hx
  have hl := hx.lt
  have hn' : (0 : Int) < (n : Int) := by omega
  obtain ⟨w2, hw2⟩ : ∃ w2, (w.alloc (.cells #[.int .i64 k, .int .u64 (s.a.toNat : Int), .int .u64 (s.b.toNat : Int), .int .u64 (s.c.toNat : Int), .int .u64 (s.d.toNat : Int), .slice (some ⟨g, 0, none⟩) n c] 30)).alloc (.cells #[.int .i64 0, .int .u64 0, .int .u64 0, .int .u64 0, .int .u64 0, .slice none 0 0] 30) = w2 := ⟨_, rfl⟩
  have hb : Below w.heap.size w w2 := by rw [← hw2]; exact ((Below.refl _ _).alloc (Nat.le_refl _) _).alloc (by simp) _
  have HB := keepHid hb
  have k1 : Blk w2 w.heap.size 30 #[.int .i64 k, .int .u64 (s.a.toNat : Int), .int .u64 (s.b.toNat : Int), .int .u64 (s.c.toNat : Int), .int .u64 (s.d.toNat : Int), .slice (some ⟨g, 0, none⟩) n c] := by rw [← hw2]; exact (Blk.new _ _ _).alloc _
  have k2 : Blk w2 (w.heap.size + 1) 30 #[.int .i64 0, .int .u64 0, .int .u64 0, .int .u64 0, .int .u64 0, .slice none 0 0] := by rw [← hw2]; exact Blk.new_at _ _ _ _ (by simp)
  obtain ⟨a0, a1, a2, a3, a4, a5, af⟩ := blk6 k1
  obtain ⟨z0, z1, z2, z3, z4, z5, zf⟩ := blk6 k2
  obtain ⟨y0, y1, y2, y3, y4, y5⟩ := at0 (hx.keep (hb.block g hl))
  have HW := keepHid hw2
  clear hb k1 k2 x0 x1 x2 x3 x4 x5 hx hl
  unfold hdV
  go_enter Try.func36, Try.ntmps36
  go_wp2
  refine bodyPost_ret (v := hdV x) ?_ rfl ⟨rfl, below_six (b := w.heap.size + 1) HB.out (by omega) _ _ _ _ _ _⟩
  rw [results_cell_one rfl]
  go_simp
  rfl
set_option maxHeartbeats 1000000 in
theorem kid1_any (k : Int) (s : St) (g n c : Nat) (x : Hd) (w : World) (hn : 2 ≤ n) (hx : AtHd w g 6 x) :
    Calls Try.prog 36 #[hdV ⟨k, s, some ⟨g, 0, none⟩, n, c⟩, .int .i64 1] w fun e w' => e = .returned (hdV x) ∧ Below w.heap.size w w' := by
  obtain ⟨x0, x1, x2, x3, x4, x5⟩ := at6 hx
  have hl := hx.lt
  have hn' : (1 : Int) < (n : Int) := by omega
  obtain ⟨w2, hw2⟩ : ∃ w2, (w.alloc (.cells #[.int .i64 k, .int .u64 (s.a.toNat : Int), .int .u64 (s.b.toNat : Int), .int .u64 (s.c.toNat : Int), .int .u64 (s.d.toNat : Int), .slice (some ⟨g, 0, none⟩) n c] 30)).alloc (.cells #[.int .i64 0, .int .u64 0, .int .u64 0, .int .u64 0, .int .u64 0, .slice none 0 0] 30) = w2 := ⟨_, rfl⟩
  have hb : Below w.heap.size w w2 := by rw [← hw2]; exact ((Below.refl _ _).alloc (Nat.le_refl _) _).alloc (by simp) _
  have HB := keepHid hb
  have k1 : Blk w2 w.heap.size 30 #[.int .i64 k, .int .u64 (s.a.toNat : Int), .int .u64 (s.b.toNat : Int), .int .u64 (s.c.toNat : Int), .int .u64 (s.d.toNat : Int), .slice (some ⟨g, 0, none⟩) n c] := by rw [← hw2]; exact (Blk.new _ _ _).alloc _
  have k2 : Blk w2 (w.heap.size + 1) 30 #[.int .i64 0, .int .u64 0, .int .u64 0, .int .u64 0, .int .u64 0, .slice none 0 0] := by rw [← hw2]; exact Blk.new_at _ _ _ _ (by simp)
  obtain ⟨a0, a1, a2, a3, a4, a5, af⟩ := blk6 k1
  obtain ⟨z0, z1, z2, z3, z4, z5, zf⟩ := blk6 k2
  obtain ⟨y0, y1, y2, y3, y4, y5⟩ := at6 (hx.keep (hb.block g hl))
  have HW := keepHid hw2
  clear hb k1 k2 x0 x1 x2 x3 x4 x5 hx hl
  unfold hdV
  go_enter Try.func36, Try.ntmps36
  go_wp2
  refine bodyPost_ret (v := hdV x) ?_ rfl ⟨rfl, below_six (b := w.heap.size + 1) HB.out (by omega) _ _ _ _ _ _⟩
  rw [results_cell_one rfl]
  go_simp
  rfl

theorem Tab.small {w : World} {lo g : Nat} {v3 v4 v5 : Value} {T : TbD} (h : Tab w lo g v3 v4 v5 T) : g < w.heap.size := by obtain ⟨vs, vg, M, vals, h⟩ := h; exact h.blk.lt
theorem below_three {B b : Nat} {a w : World} (h : Below B a w) (hb : B ≤ b) (u0 u1 u2 : Value) : Below B a (((w.setCell ⟨b, 0, none⟩ u0).setCell ⟨b, 1, none⟩ u1).setCell ⟨b, 2, none⟩ u2) := ((h.setCell hb _).setCell hb _).setCell hb _
/-- Stores into a variable of the call's own leave a table. -/
theorem tab_three {w : World} {lo g b : Nat} {v3 v4 v5 : Value} {T : TbD} (h : Tab w lo g v3 v4 v5 T) {cs : Array Value} (hb : Blk w b 61 cs) (u0 u1 u2 : Value) :
    Tab (((w.setCell ⟨b, 0, none⟩ u0).setCell ⟨b, 1, none⟩ u1).setCell ⟨b, 2, none⟩ u2) lo g v3 v4 v5 T := by
  obtain ⟨vs, vg, M, vals, h⟩ := h
  have far : ∀ i, i ≠ b → (((w.setCell ⟨b, 0, none⟩ u0).setCell ⟨b, 1, none⟩ u1).setCell ⟨b, 2, none⟩ u2).heap[i]? = w.heap[i]? := fun i hi => by
    rw [Below.heap_setCell _ ⟨b, 2, none⟩ u2 i hi, Below.heap_setCell _ ⟨b, 1, none⟩ u1 i hi, Below.heap_setCell _ ⟨b, 0, none⟩ u0 i hi]
  have hM : M ≠ b := fun e => by
    obtain ⟨es, c, ho⟩ := h.leads.obj
    subst e
    unfold Blk at hb
    rw [hb] at ho
    cases ho
  refine ⟨vs, vg, M, vals, (far g (blk_ne h.blk hb (by decide))).trans h.blk, h.log, h.lom, ?_, ?_, fun i q hq => ?_, h.leads.keep (far M hM)⟩
  · exact own_keep h.sets fun i hi _ => by obtain ⟨cur, hc⟩ := own_obj h.sets hi; exact far i (blk_ne hc hb (by decide))
  · exact own_keep h.groups fun i hi _ => by obtain ⟨cur, hc⟩ := own_obj h.groups hi; exact far i (blk_ne hc hb (by decide))
  · obtain ⟨v, hv, hr⟩ := h.rows i q hq
    exact ⟨v, hv, own_keep hr fun i hi _ => by obtain ⟨cur, hc⟩ := own_obj hr hi; exact far i (blk_ne hc hb (by decide))⟩
/-- What a function of a table that answers a part leaves. -/
def PartPost (lo g : Nat) (v3 v4 v5 : Value) (R : Prt × TbD) (w : World) (e : Ending) (w' : World) : Prop := e = .returned (partV R.1) ∧ Tab w' lo g v3 v4 v5 R.2 ∧ Tn lo w w'
theorem part_fin {lo g b : Nat} {v3 v4 v5 : Value} {T : TbD} {w w' : World} (ht : Tab w' lo g v3 v4 v5 T) (hn : Tn lo w w') {cs : Array Value} (hb : Blk w' b 61 cs) (hlb : w.heap.size ≤ b) (u0 u1 u2 : Value) :
    Tab (((w'.setCell ⟨b, 0, none⟩ u0).setCell ⟨b, 1, none⟩ u1).setCell ⟨b, 2, none⟩ u2) lo g v3 v4 v5 T ∧ Tn lo w (((w'.setCell ⟨b, 0, none⟩ u0).setCell ⟨b, 1, none⟩ u1).setCell ⟨b, 2, none⟩ u2) :=
  ⟨tab_three ht hb u0 u1 u2, ((hn.setCell (.inr hlb) _).setCell (.inr hlb) _).setCell (.inr hlb) _⟩
set_option maxHeartbeats 1000000 in
theorem nothing_any {lo g : Nat} {v3 v4 v5 : Value} {T : TbD} {w : World} (ht : Tab w lo g v3 v4 v5 T) (hlo : lo ≤ w.heap.size) (hn : T.groups.length < 1000000) :
    Calls Try.prog 40 #[.pointer (some ⟨g, 0, none⟩)] w (PartPost lo g v3 v4 v5 (nothingF T) w) := by
  obtain ⟨w1, hw1⟩ : ∃ w1, w.alloc (.cells #[.bool false, .int .i64 0, .int .i64 0] 61) = w1 := ⟨_, rfl⟩
  have hb1 : Below w.heap.size w w1 := by rw [← hw1]; exact (Below.refl _ _).alloc (Nat.le_refl _) _
  have HK1 : Hid (Blk w1 w.heap.size 61 #[.bool false, .int .i64 0, .int .i64 0]) := keepHid (by rw [← hw1]; exact Blk.new _ _ _)
  have HG := group_any (w := w1) [] none 0 (ht.keep hb1) (World.ownsRow_nil _ _ _ _) (Nat.le_trans hlo hb1.size) hn
  rw [List.length_nil] at HG
  have HB1 := keepHid hb1
  have hl : (T.groups.length : Int) ≤ 1000000 := by omega
  unfold PartPost nothingF partV
  generalize hT : T.push [] = T1 at *
  simp only
  obtain ⟨N, hN⟩ : ∃ N, T.groups.length = N := ⟨_, rfl⟩
  rw [hN] at HG hl ⊢
  unfold natV at HG
  have HW := keepHid hw1
  have HG' := keepHid HG
  clear ht hlo hn hb1 hN hT hw1 HG
  go_enter Try.func40, Try.ntmps40
  go_wp2_with fail
  rw [HW.out]
  with_reducible refine HG'.out.mono ?_
  rintro e w2 ⟨rfl, ht2, hn2⟩
  have hk2 := hn2.blk HK1.out (by decide)
  have HF := keepHid (part_fin ht2 ((Tn.of_below HB1.out).trans hn2) hk2 (Nat.le_refl _) (.bool true) (.int .i64 (N : Int)) (.int .i64 (N : Int)))
  obtain ⟨z0, z1, z2, zf⟩ := blk3 hk2
  clear ht2 hn2 hk2
  go_wp2
  refine bodyPost_ret (v := .agg #[.bool true, .int .i64 (N : Int), .int .i64 (N : Int)]) ?_ rfl ⟨rfl, HF.out⟩
  rw [results_cell_one rfl]
  go_simp
end Go.Proofs.Ytlmjijejgfhmmaa
