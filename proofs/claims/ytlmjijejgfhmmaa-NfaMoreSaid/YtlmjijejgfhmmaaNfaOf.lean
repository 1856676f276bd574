/-
  nfa.Of, by contract.
-/
import Derived.Test.YtlmjijejgfhmmaaNfaAddThn
namespace Go.Proofs.Ytlmjijejgfhmmaa
open Go.RowKit
set_option linter.unusedVariables false

/-- Block g is the table of the places A. -/
def TabA (w : World) (lo g : Nat) (A : Au) : Prop :=
  ∃ F c L k, Tab w lo g (.slice F A.first.length c) (.slice L A.last.length k) (.bool A.e) A.T ∧ OwnI w lo (.slice F A.first.length c) A.first.length A.first ∧ OwnI w lo (.slice L A.last.length k) A.last.length A.last
theorem TabA.keep {w w' : World} {lo g : Nat} {A : Au} (h : TabA w lo g A) (hb : Below w.heap.size w w') : TabA w' lo g A := by
  obtain ⟨F, c, L, k, h1, h2, h3⟩ := h
  exact ⟨F, c, L, k, h1.keep hb, own_keep h2 fun i _ hl => hb.block i hl, own_keep h3 fun i _ hl => hb.block i hl⟩
/-- A store into a table's own field. -/
theorem tab_field {w : World} {lo g : Nat} {v3 v4 v5 : Value} {T : TbD} (h : Tab w lo g v3 v4 v5 T) (u : Value) :
    Tab (w.setCell ⟨g, 3, none⟩ u) lo g u v4 v5 T ∧ Tab (w.setCell ⟨g, 4, none⟩ u) lo g v3 u v5 T ∧ Tab (w.setCell ⟨g, 5, none⟩ u) lo g v3 v4 u T := by
  obtain ⟨vs, vg, M, vals, h⟩ := h
  have far : ∀ i j, j ≠ g → (w.setCell ⟨g, i, none⟩ u).heap[j]? = w.heap[j]? := fun i j hj => Below.heap_setCell w ⟨g, i, none⟩ u j hj
  have rest : ∀ i, (w.setCell ⟨g, i, none⟩ u).ownsRow lo 27 4 vs T.sets.length (T.sets.flatMap setL) ∧ (w.setCell ⟨g, i, none⟩ u).ownsRow lo 57 1 vg T.groups.length vals ∧
      (∀ (j : Nat) (q : List Nat), T.groups[j]? = some q → ∃ v, vals[j]? = some v ∧ (w.setCell ⟨g, i, none⟩ u).ownsRow lo 3 1 v q.length (q.map natV)) ∧ MapS (w.setCell ⟨g, i, none⟩ u) M T.leads := fun i => by
    refine ⟨own_keep h.sets fun j hj _ => far i j (fun e => h.ne_gs (e ▸ hj)), own_keep h.groups fun j hj _ => far i j (fun e => h.ne_gv (e ▸ hj)), fun j q hq => ?_, h.leads.keep (far i M (fun e => h.ne_gm e.symm))⟩
    obtain ⟨v, hv, hr⟩ := h.rows j q hq
    exact ⟨v, hv, own_keep hr fun b hb _ => far i b (fun e => by obtain ⟨cur, hc⟩ := own_obj hr hb; exact blk_ne hc h.blk (by decide) e)⟩
  refine ⟨⟨vs, vg, M, vals, ?_⟩, ⟨vs, vg, M, vals, ?_⟩, ⟨vs, vg, M, vals, ?_⟩⟩
  · obtain ⟨r1, r2, r3, r4⟩ := rest 3
    exact ⟨by simpa using h.blk.put 3 u, h.log, h.lom, r1, r2, r3, r4⟩
  · obtain ⟨r1, r2, r3, r4⟩ := rest 4
    exact ⟨by simpa using h.blk.put 4 u, h.log, h.lom, r1, r2, r3, r4⟩
  · obtain ⟨r1, r2, r3, r4⟩ := rest 5
    exact ⟨by simpa using h.blk.put 5 u, h.log, h.lom, r1, r2, r3, r4⟩
theorem own_field {w : World} {lo g i n : Nat} {v3 v4 v5 v : Value} {T : TbD} {xs : List Nat} (h : Tab w lo g v3 v4 v5 T) (hr : OwnI w lo v n xs) (u : Value) : OwnI (w.setCell ⟨g, i, none⟩ u) lo v n xs := by
  obtain ⟨vs, vg, M, vals, h⟩ := h
  exact own_keep hr fun b hb _ => Below.heap_setCell w ⟨g, i, none⟩ u b (fun e => by obtain ⟨cur, hc⟩ := own_obj hr hb; exact blk_ne hc h.blk (by decide) e)
/-- An empty table, as it is made. -/
theorem tab_new {w w' : World} {lo M g : Nat} (hM : MapS w M []) (hlm : lo ≤ M) (hg : g = w.heap.size) (hlo : lo ≤ w.heap.size) (hw : w.alloc (.cells #[.slice none 0 0, .slice none 0 0, .map (some M), .slice none 0 0, .slice none 0 0, .bool false] 59) = w') :
    Tab w' lo g (.slice none 0 0) (.slice none 0 0) (.bool false) tb0 := by
  subst hg hw
  exact ⟨.slice none 0 0, .slice none 0 0, M, [], Blk.new _ _ _, hlo, hlm, World.ownsRow_nil _ _ _ _, World.ownsRow_nil _ _ _ _, fun i q hq => by simp [tb0] at hq, hM.keep (Below.heap_alloc w _ M hM.lt)⟩
def OfPost (r : Re) (w : World) (e : Ending) (w' : World) : Prop := ∃ g, e = .returned (.pointer (some ⟨g, 0, none⟩)) ∧ TabA w' w.heap.size g (auOf r) ∧ Below w.heap.size w w'
set_option maxHeartbeats 4000000 in
theorem of_any {r : Re} {h : Hd} {w : World} (hi : IsS w (fun i => i < w.heap.size) h r) (hs : Sm (addF r tb0).2) : Calls Try.prog 11 #[hdV h] w (OfPost r w) := by
  obtain ⟨w1, hw1⟩ : ∃ w1, (w.alloc (.cells (hdC h) 30)).alloc (.map #[] 0) = w1 := ⟨_, rfl⟩
  obtain ⟨w2, hw2⟩ : ∃ w2, w1.alloc (.cells #[.slice none 0 0, .slice none 0 0, .map (some (w.heap.size + 1)), .slice none 0 0, .slice none 0 0, .bool false] 59) = w2 := ⟨_, rfl⟩
  have hs1 : w1.heap.size = w.heap.size + 1 + 1 := by rw [← hw1]; simp
  have hM1 : MapS w1 (w.heap.size + 1) [] := by rw [← hw1]; exact MapS.made _ _ (by simp)
  have ht2 := tab_new (lo := w.heap.size) (g := w.heap.size + 1 + 1) hM1 (by omega) hs1.symm (by omega) hw2
  have hb2 : Below w.heap.size w w2 := by rw [← hw2, ← hw1]; exact (((Below.refl _ _).alloc (Nat.le_refl _) _).alloc (by simp) _).alloc (by simp; omega) _
  have kn : Blk w2 w.heap.size 30 (hdC h) := by rw [← hw2, ← hw1]; exact ((Blk.new _ _ _).alloc _).alloc _
  have HA := keepHid (add_any r w.heap.size (w.heap.size + 1 + 1) _ _ _ tb0 h w2 ht2 hb2.size (hi.keep fun i hl _ => hb2.block i hl) hs)
  have HB := keepHid hb2
  have HKN := keepHid kn
  have hmm := @run_makeMap Try.prog
  unfold hdC at kn hw1
  obtain ⟨n0, n1, n2, n3, n4, n5, nf⟩ := blk6 kn
  have HW : Hid (((w.alloc (.cells #[.int .i64 h.k, .int .u64 (h.s.a.toNat : Int), .int .u64 (h.s.b.toNat : Int), .int .u64 (h.s.c.toNat : Int), .int .u64 (h.s.d.toNat : Int), .slice h.A h.n h.c] 30)).alloc (.map #[] 0)).alloc (.cells #[.slice none 0 0, .slice none 0 0, .map (some (w.heap.size + 1)), .slice none 0 0, .slice none 0 0, .bool false] 59) = w2) := keepHid (by rw [hw1]; exact hw2)
  clear hi hs hw1 hw2 hs1 hM1 ht2 hb2 kn
  unfold hdV at *
  go_enter Try.func11, Try.ntmps11
  go_upto_region 2 with fail
  rw [HW.out]
  go_wp2_with fail
  with_reducible refine HA.out.mono ?_
  have hgr := add_grown r tb0
  have e1 : auOf r = ⟨(addF r tb0).2, fst r 0, lst r 0, (addF r tb0).1.e⟩ := by
    unfold auOf
    have a1 := grp_of hgr.f
    have a2 := grp_of hgr.l
    simp only [tb0] at a1 a2 ⊢
    simp only [List.length_nil] at a1 a2
    rw [a1, a2]
  have HGF : Hid ((addF r tb0).2.groups[(addF r tb0).1.f]? = some (fst r 0)) := keepHid (by have := hgr.f; simpa [tb0] using this)
  have HGL : Hid ((addF r tb0).2.groups[(addF r tb0).1.l]? = some (lst r 0)) := keepHid (by have := hgr.l; simpa [tb0] using this)
  have HAU := keepHid e1
  clear e1 hgr n0 n1 n2 n3 n4 n5 nf hmm HW
  generalize addF r tb0 = R at *
  obtain ⟨⟨pe, pf, pl⟩, T⟩ := R
  simp only at *
  rintro e w3 ⟨rfl, ht3, hn3⟩
  obtain ⟨w4, hw4⟩ : ∃ w4, w3.alloc (.cells #[.bool pe, .int .i64 (pf : Int), .int .i64 (pl : Int)] 61) = w4 := ⟨_, rfl⟩
  have hb34 : Below w3.heap.size w3 w4 := by rw [← hw4]; exact (Below.refl _ _).alloc (Nat.le_refl _) _
  have HP4 : Hid (Blk w4 w3.heap.size 61 #[.bool pe, .int .i64 (pf : Int), .int .i64 (pl : Int)]) := keepHid (by rw [← hw4]; exact Blk.new _ _ _)
  have HT4 := keepHid (Tab.keep ht3 hb34)
  have HN4 := keepHid ((Tn.below (hn3.trans (Tn.of_below hb34)) HB.out.size))
  obtain ⟨vs, vg, M, vals, h4⟩ := Tab.keep ht3 hb34
  obtain ⟨G, cap, A1, c1, rfl, ca, hra⟩ := h4.grp HGF.out
  have cg : w4.cell? ⟨w.heap.size + 1 + 1, 1, none⟩ = some (.slice (some ⟨G, 0, none⟩) T.groups.length cap) := h4.blk.cell 1
  have c3 : w4.cell? ⟨w.heap.size + 1 + 1, 3, none⟩ = some (.slice none 0 0) := h4.blk.cell 3
  have cf := h4.blk.frozen 3
  obtain ⟨p0, p1, p2, pfz⟩ := blk3 HP4.out
  have HRA := keepHid hra
  have hgl := lt_of_get HGF.out
  obtain ⟨N, hN⟩ : ∃ N, T.groups.length = N := ⟨_, rfl⟩
  rw [hN] at cg hgl
  have la : (pf : Int) < (N : Int) := by omega
  have hi4 : (N : Int) ≤ 9223372036854775807 := by
    obtain ⟨A, c, e, e1, e2⟩ := own_val h4.groups
    unfold maxLen at e2
    rw [hN] at e1
    omega
  clear ht3 hn3 hb34 h4 hra hN hgl
  unfold partV
  go_upto_region 3 with fail
  try rw [hw4]
  clear hw4
  generalize w3.heap.size = C at *
  go_region
  all_goals
    obtain ⟨w5, hw5⟩ : ∃ w5, (w4.setCell ⟨w.heap.size + 1 + 1, 3, none⟩ (.slice A1 (fst r 0).length c1)).drew = w5 := ⟨_, rfl⟩
    rw [hw5]
    have ht5 : Tab w5 w.heap.size (w.heap.size + 1 + 1) (.slice A1 (fst r 0).length c1) (.slice none 0 0) (.bool false) T := by rw [← hw5]; exact (tab_field HT4.out _).1.keep (Below.drew (Below.refl _ _))
    have HF5 : Hid (OwnI w5 w.heap.size (.slice A1 (fst r 0).length c1) (fst r 0).length (fst r 0)) := keepHid (by rw [← hw5]; exact own_field HT4.out HRA.out _)
    have HN5 : Hid (Below w.heap.size w2 w5) := keepHid (by rw [← hw5]; exact (HN4.out.setCell (by simp; omega) _).drew)
    have HP5 : Hid (Blk w5 C 61 #[.bool pe, .int .i64 (pf : Int), .int .i64 (pl : Int)]) := keepHid (by
      rw [← hw5]
      obtain ⟨vs, vg, M, vals, h4⟩ := HT4.out
      exact (HP4.out.far (fun e => blk_ne HP4.out h4.blk (by decide) e) _).drew)
    have HT5 := keepHid ht5
    clear cg ca c3 cf p0 p1 p2 pfz hw5 la hi4
    obtain ⟨vs5, vg5, M5, vals5, h5⟩ := ht5
    obtain ⟨G5, cap5, A2, c2, rfl, ca, hra⟩ := h5.grp HGL.out
    have cg : w5.cell? ⟨w.heap.size + 1 + 1, 1, none⟩ = some (.slice (some ⟨G5, 0, none⟩) T.groups.length cap5) := h5.blk.cell 1
    have c4 : w5.cell? ⟨w.heap.size + 1 + 1, 4, none⟩ = some (.slice none 0 0) := h5.blk.cell 4
    have cf := h5.blk.frozen 4
    obtain ⟨p0, p1, p2, pfz⟩ := blk3 HP5.out
    have HRA2 := keepHid hra
    have hgl := lt_of_get HGL.out
    obtain ⟨N5, hN⟩ : ∃ N, T.groups.length = N := ⟨_, rfl⟩
    rw [hN] at cg hgl
    have la : (pl : Int) < (N5 : Int) := by omega
    have hi5 : (N5 : Int) ≤ 9223372036854775807 := by
      obtain ⟨A, c, e, e1, e2⟩ := own_val h5.groups
      unfold maxLen at e2
      rw [hN] at e1
      omega
    clear h5 hra hN hgl
    go_upto_region 4 with fail
    go_region
    all_goals
      obtain ⟨w6, hw6⟩ : ∃ w6, (w5.setCell ⟨w.heap.size + 1 + 1, 4, none⟩ (.slice A2 (lst r 0).length c2)).drew = w6 := ⟨_, rfl⟩
      rw [hw6]
      have ht6 : Tab w6 w.heap.size (w.heap.size + 1 + 1) (.slice A1 (fst r 0).length c1) (.slice A2 (lst r 0).length c2) (.bool false) T := by rw [← hw6]; exact (tab_field HT5.out _).2.1.keep (Below.drew (Below.refl _ _))
      have hp6 : Blk w6 C 61 #[.bool pe, .int .i64 (pf : Int), .int .i64 (pl : Int)] := by
        rw [← hw6]
        obtain ⟨vs, vg, M, vals, h4⟩ := HT5.out
        exact (HP5.out.far (fun e => blk_ne HP5.out h4.blk (by decide) e) _).drew
      have hf6 : OwnI w6 w.heap.size (.slice A1 (fst r 0).length c1) (fst r 0).length (fst r 0) := by rw [← hw6]; exact own_field HT5.out HF5.out _
      have hl6 : OwnI w6 w.heap.size (.slice A2 (lst r 0).length c2) (lst r 0).length (lst r 0) := by rw [← hw6]; exact own_field HT5.out HRA2.out _
      have HE : Hid (TabA (w6.setCell ⟨w.heap.size + 1 + 1, 5, none⟩ (.bool pe)) w.heap.size (w.heap.size + 1 + 1) (auOf r) ∧ Below w.heap.size w (w6.setCell ⟨w.heap.size + 1 + 1, 5, none⟩ (.bool pe))) := keepHid (by
        rw [HAU.out]
        refine ⟨⟨A1, c1, A2, c2, (tab_field ht6 _).2.2, own_field ht6 hf6 _, own_field ht6 hl6 _⟩, ?_⟩
        refine HB.out.trans ?_
        rw [← hw6]
        exact ((HN5.out.setCell (by simp; omega) _).drew).setCell (by simp; omega) _)
      have c5 : ∃ v, w6.cell? ⟨w.heap.size + 1 + 1, 5, none⟩ = some v ∧ w6.frozen? ⟨w.heap.size + 1 + 1, 5, none⟩ = false := by
        obtain ⟨vs, vg, M, vals, h6⟩ := ht6
        exact ⟨_, h6.blk.cell 5, h6.blk.frozen 5⟩
      obtain ⟨v5, c5, f5⟩ := c5
      clear cg ca c4 cf p0 p1 p2 pfz hw6 la hi5 ht6 hf6 hl6
      obtain ⟨p0, p1, p2, pfz⟩ := blk3 hp6
      clear hp6
      go_wp2
      go_ret
      exact ⟨_, rfl, HE.out.1, HE.out.2⟩
end Go.Proofs.Ytlmjijejgfhmmaa
