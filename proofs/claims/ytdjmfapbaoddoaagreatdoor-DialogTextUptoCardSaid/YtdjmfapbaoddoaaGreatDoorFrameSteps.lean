/-
  Dialogues that come in: a slice of steps, each with its slice of arms.
-/
import Derived.Test.YtdjmfapbaoddoaaGreatDoorRows
import Derived.Test.YtdjmfapbaoddoaaGreatDoorFrame
import Derived.Test.YtdjmfapbaoddoaaGreatDoorFrameRows
import Derived.Test.YtdjmfapbaoddoaaGreatDoorDialogRows
import Derived.Deep.Strs
import Derived.OpenShut
namespace Go.Proofs.YtdjmfapbaoddoaaGreatDoor
open Go.RowKit Go.ChangeShapes Go.WideShapes Go.Deep
set_option linter.unusedVariables false

/-- How much an arm holds, and a step. -/
def szA (a : Ar) : Nat := a.pat.length + a.dst.length + 1
def szS (x : Sp) : Nat := x.label.length + x.text.length + (x.arms.map szA).sum + x.dst.length + 1
/-- A step's numbers are numbers. -/
structure StF (x : Sp) : Prop where
  n : -9223372036854775808 ≤ x.n ∧ x.n ≤ 9223372036854775807
  kind : -9223372036854775808 ≤ x.kind ∧ x.kind ≤ 9223372036854775807

section
variable {H : Type} {enc : TypeId × Value → H} {P : Program} {W : World} {base : Nat} {held : Bool}
theorem bulk_of {α : Type} (sz : α → Nat) : ∀ (es : List α) (D : Nat → DataW H) (s : Nat), (∀ k e, es[k]? = some e → sz e ≤ Rows.uptoBulk (D (s + k))) → (es.map sz).sum ≤ Rows.uptoBulkAll ((List.range es.length).map fun k => D (s + k))
  | [], D, s, _ => by simp [Rows.uptoBulkAll]
  | e :: es, D, s, h => by
    have ih := bulk_of sz es D (s + 1) (fun k r hk => by have := h (k + 1) r (by simpa using hk); rwa [show s + (k + 1) = s + 1 + k by omega] at this)
    have h1 := h 0 e rfl
    rw [List.length_cons, List.range_succ_eq_map, List.map_cons, List.map_cons, List.map_map]
    simp only [Rows.uptoBulkAll, List.sum_cons]
    have e1 : (List.range es.length).map ((fun k => D (s + k)) ∘ Nat.succ) = (List.range es.length).map fun k => D (s + 1 + k) := by
      apply List.map_congr_left
      intro k _
      show D (s + (k + 1)) = _
      rw [show s + (k + 1) = s + 1 + k by omega]
    rw [e1]
    omega
theorem arms_trod {ta q s : TypeId} {g0 g1 : Field} {fuel : Nat} {cs : List Value} {x : DataW H × List MemPlace} (ht : P.underlying ta = some (.slice q)) (hq : P.underlying q = some (.struct #[g0, g1])) (h0 : g0.type = s ∧ g0.offset = 0) (h1 : g1.type = s ∧ g1.offset = 1)
    (hs : P.underlying s = some .string) (cs' : P.cellsOf s = 1) (ct : P.cellsOf q = 2) (h : DataW.trod enc P W base (fun _ => true) held fuel ta cs = some x) :
    ∃ A n c rs, cs = [.slice A n c] ∧ ArS W A n rs ∧ n ≤ c ∧ c ≤ 9223372036854775807 ∧ (rs.map szA).sum ≤ Rows.uptoBulk x.1 := by
  rcases open_slice ht h with ⟨hcs, hx⟩ | ⟨a, len, cap, m, n, D, Pl, hcs, hb, hl, hm, hmm, hx, hi⟩
  · exact ⟨none, 0, 0, [], hcs, ⟨rfl, Nat.zero_le _, fun k e h => by simp at h⟩, Nat.le_refl _, Nat.zero_le _, by simp⟩
  · simp only [if_true] at hmm
    subst hmm
    rw [ct] at hi
    obtain ⟨rows, hr1, hr2⟩ := choose_list (α := Ar) (p := fun k e => (a.block < W.heap.size ∧ ∀ j z, (arL e)[j]? = some z → W.cell? (a.add (k * 2 + j)) = some z) ∧ szA e ≤ Rows.uptoBulk (D k)) len (fun k hk => by
      obtain ⟨cz, h3, h4⟩ := hi k (by omega)
      obtain ⟨_, hcl, hat⟩ := World.cells?_some h3
      obtain ⟨y0, y1, n', hD, _, t0, t1⟩ := trod_struct2 hq h4
      rw [h0.1, h0.2, cs'] at t0
      rw [h1.1, h1.2, cs'] at t1
      match cz, hcl with
      | [c0, c1], _ =>
        obtain ⟨s0, q0, d0, _⟩ := DataW.trod_string hs t0
        obtain ⟨s1, q1, d1, _⟩ := DataW.trod_string hs t1
        have e0 : c0 = .string s0 := by simpa using q0
        have e1 : c1 = .string s1 := by simpa using q1
        subst e0 e1
        have hc : ∀ j z, (arL ⟨s0.data.toList, s1.data.toList⟩)[j]? = some z → W.cell? (a.add (k * 2 + j)) = some z := fun j z hz => by
          have hj : j < 2 := (List.getElem?_eq_some_iff.1 hz).1
          have := hat j (by omega)
          rw [ad_add] at this
          rw [this, ← hz]
          rfl
        refine ⟨⟨s0.data.toList, s1.data.toList⟩, ⟨?_, hc⟩, ?_⟩
        · have := World.block_lt_of_cell? _ _ (hc 0 _ rfl)
          rwa [ad_block] at this
        · have e : D k = .agg [y0.1, y1.1] := by have := congrArg Prod.fst hD; exact this
          rw [e, d0, d1]
          simp only [Rows.uptoBulk, Rows.uptoBulkAll, szA]
          omega)
    refine ⟨some a, len, _, rows, hcs, ⟨hr1, by unfold maxLen at hm; omega, fun k e hk => ⟨a, rfl, (hr2 k e hk).1.1, (hr2 k e hk).1.2⟩⟩, hl, by unfold maxLen at hm; exact hm, ?_⟩
    have hbk := bulk_of szA rows D 0 (fun k e hk => by rw [Nat.zero_add]; exact (hr2 k e hk).2)
    simp only [Nat.zero_add, hr1] at hbk
    change _ ≤ Rows.uptoBulkAll (List.map D (List.range len)) at hbk
    rw [hx]
    simp only [Rows.uptoBulk]
    omega
theorem trod_struct7 {spare : Nat → Bool} {t : TypeId} {f0 f1 f2 f3 f4 f5 f6 : Field} {fuel : Nat} {cs : List Value} {x : DataW H × List MemPlace} (ht : P.underlying t = some (.struct #[f0, f1, f2, f3, f4, f5, f6])) (h : DataW.trod enc P W base spare held fuel t cs = some x) :
    ∃ y0 y1 y2 y3 y4 y5 y6 n, x.1 = .agg [y0.1, y1.1, y2.1, y3.1, y4.1, y5.1, y6.1] ∧ cs.length = P.cellsOf t ∧ DataW.trod enc P W base spare held n f0.type ((cs.drop f0.offset).take (P.cellsOf f0.type)) = some y0 ∧
      DataW.trod enc P W base spare held n f1.type ((cs.drop f1.offset).take (P.cellsOf f1.type)) = some y1 ∧ DataW.trod enc P W base spare held n f2.type ((cs.drop f2.offset).take (P.cellsOf f2.type)) = some y2 ∧
      DataW.trod enc P W base spare held n f3.type ((cs.drop f3.offset).take (P.cellsOf f3.type)) = some y3 ∧ DataW.trod enc P W base spare held n f4.type ((cs.drop f4.offset).take (P.cellsOf f4.type)) = some y4 ∧
      DataW.trod enc P W base spare held n f5.type ((cs.drop f5.offset).take (P.cellsOf f5.type)) = some y5 ∧ DataW.trod enc P W base spare held n f6.type ((cs.drop f6.offset).take (P.cellsOf f6.type)) = some y6 := by
  obtain ⟨xs, n, _, rfl, hl, hlen, hf⟩ := DataW.trod_struct ht h
  match xs, hlen with
  | [y0, y1, y2, y3, y4, y5, y6], _ => exact ⟨y0, y1, y2, y3, y4, y5, y6, n, by simp, hl, by simpa using hf 0 f0 rfl, by simpa using hf 1 f1 rfl, by simpa using hf 2 f2 rfl, by simpa using hf 3 f3 rfl, by simpa using hf 4 f4 rfl, by simpa using hf 5 f5 rfl, by simpa using hf 6 f6 rfl⟩
/-- A step among cells. -/
theorem st_trod {t s i k ta q : TypeId} {f0 f1 f2 f3 f4 f5 f6 g0 g1 : Field} {fuel : Nat} {cs : List Value} {x : DataW H × List MemPlace} (ht : P.underlying t = some (.struct #[f0, f1, f2, f3, f4, f5, f6]))
    (h0 : f0.type = s ∧ f0.offset = 0) (h1 : f1.type = k ∧ f1.offset = 1) (h2 : f2.type = s ∧ f2.offset = 2) (h3 : f3.type = ta ∧ f3.offset = 3) (h4 : f4.type = i ∧ f4.offset = 4) (h5 : f5.type = s ∧ f5.offset = 5) (h6 : f6.type = i ∧ f6.offset = 6)
    (hs : P.underlying s = some .string) (hi : P.underlying i = some (.int .i64)) (hk : P.underlying k = some (.int .i64)) (hta : P.underlying ta = some (.slice q)) (hq : P.underlying q = some (.struct #[g0, g1])) (hg0 : g0.type = s ∧ g0.offset = 0) (hg1 : g1.type = s ∧ g1.offset = 1)
    (cs' : P.cellsOf s = 1) (ci : P.cellsOf i = 1) (ck : P.cellsOf k = 1) (ca : P.cellsOf ta = 1) (cq : P.cellsOf q = 2) (ct : P.cellsOf t = 7) (h : DataW.trod enc P W base (fun _ => true) held fuel t cs = some x) :
    ∃ (e : Sp) (A : Option Addr) (m c : Nat), cs = stL e (.slice A m c) ∧ ArS W A m e.arms ∧ m ≤ c ∧ StF e ∧ szS e ≤ Rows.uptoBulk x.1 := by
  obtain ⟨y0, y1, y2, y3, y4, y5, y6, n, hx, hl, t0, t1, t2, t3, t4, t5, t6⟩ := trod_struct7 ht h
  rw [h0.1, h0.2, cs'] at t0
  rw [h1.1, h1.2, ck] at t1
  rw [h2.1, h2.2, cs'] at t2
  rw [h3.1, h3.2, ca] at t3
  rw [h4.1, h4.2, ci] at t4
  rw [h5.1, h5.2, cs'] at t5
  rw [h6.1, h6.2, ci] at t6
  rw [ct] at hl
  match cs, hl with
  | [c0, c1, c2, c3, c4, c5, c6], _ =>
    obtain ⟨s0, q0, d0, _⟩ := DataW.trod_string hs t0
    obtain ⟨z1, q1, _, r1⟩ := DataW.trod_int hk t1
    obtain ⟨s2, q2, d2, _⟩ := DataW.trod_string hs t2
    obtain ⟨A, m, c, rs, q3, hA, hmc, _, hbk⟩ := arms_trod hta hq hg0 hg1 hs cs' cq t3
    obtain ⟨z4, q4, _, r4⟩ := DataW.trod_int hi t4
    obtain ⟨s5, q5, d5, _⟩ := DataW.trod_string hs t5
    obtain ⟨z6, q6, _, r6⟩ := DataW.trod_int hi t6
    have e0 : c0 = .string s0 := by simpa using q0
    have e1 : c1 = .int .i64 z1 := by simpa using q1
    have e2 : c2 = .string s2 := by simpa using q2
    have e3 : c3 = .slice A m c := by simpa using q3
    have e4 : c4 = .int .i64 z4 := by simpa using q4
    have e5 : c5 = .string s5 := by simpa using q5
    have e6 : c6 = .int .i64 z6 := by simpa using q6
    subst e0 e1 e2 e3 e4 e5 e6
    refine ⟨⟨s0.data.toList, z1, s2.data.toList, rs, z4, s5.data.toList, z6⟩, A, m, c, rfl, hA, hmc, ⟨wf_i64 r4, wf_i64 r1⟩, ?_⟩
    rw [hx, d0, d2, d5]
    simp only [Rows.uptoBulk, Rows.uptoBulkAll, szS]
    omega
theorem open_steps {b0 : Nat} {t t1 s i k ta q : TypeId} {f0 f1 f2 f3 f4 f5 f6 g0 g1 : Field} {v : Value} {d : DataW H} {p : List MemPlace} (ht : P.underlying t = some (.slice t1)) (ht1 : P.underlying t1 = some (.struct #[f0, f1, f2, f3, f4, f5, f6]))
    (h0 : f0.type = s ∧ f0.offset = 0) (h1 : f1.type = k ∧ f1.offset = 1) (h2 : f2.type = s ∧ f2.offset = 2) (h3 : f3.type = ta ∧ f3.offset = 3) (h4 : f4.type = i ∧ f4.offset = 4) (h5 : f5.type = s ∧ f5.offset = 5) (h6 : f6.type = i ∧ f6.offset = 6)
    (hs : P.underlying s = some .string) (hi : P.underlying i = some (.int .i64)) (hk : P.underlying k = some (.int .i64)) (hta : P.underlying ta = some (.slice q)) (hq : P.underlying q = some (.struct #[g0, g1])) (hg0 : g0.type = s ∧ g0.offset = 0) (hg1 : g1.type = s ∧ g1.offset = 1)
    (cs' : P.cellsOf s = 1) (ci : P.cellsOf i = 1) (ck : P.cellsOf k = 1) (ca : P.cellsOf ta = 1) (cq : P.cellsOf q = 2) (ct : P.cellsOf t1 = 7)
    (hv : Value.okWide P W .any b0 t v) (h : DataW.Trod enc P W base (fun _ => true) held t v d p) :
    ∃ A n c es, v = .slice A n c ∧ StS W A n es ∧ (∀ e ∈ es, StF e) ∧ n ≤ c ∧ c ≤ 9223372036854775807 ∧ (es.map szS).sum ≤ Rows.uptoBulk d := by
  obtain ⟨a0, len0, cap0, rfl⟩ := okWide_slice ht hv
  obtain ⟨fuel, hf⟩ := h
  rcases open_slice ht hf with ⟨hcs', hx⟩ | ⟨a, len, cap, m, n, D, Pl, hcs', hb, hl, hm, hmm, hx, hi'⟩
  · simp [Value.cells] at hcs'
    obtain ⟨rfl, rfl, rfl⟩ := hcs'
    exact ⟨none, 0, 0, [], rfl, ⟨rfl, Nat.zero_le _, fun k e h => by simp at h⟩, fun e h => (by cases h), Nat.le_refl _, Nat.zero_le _, by simp⟩
  · simp [Value.cells] at hcs'
    obtain ⟨rfl, rfl, rfl⟩ := hcs'
    simp only [if_true] at hmm
    subst hmm
    rw [ct] at hi'
    obtain ⟨rows, hr1, hr2⟩ := choose_list (α := Sp) (p := fun k e => (∃ A m c, a.block < W.heap.size ∧ (∀ j z, (stL e (.slice A m c))[j]? = some z → W.cell? (a.add (k * 7 + j)) = some z) ∧ ArS W A m e.arms ∧ m ≤ c) ∧ StF e ∧ szS e ≤ Rows.uptoBulk (D k)) len0 (fun j0 hj0 => by
      obtain ⟨cs, h3', h4'⟩ := hi' j0 (by omega)
      obtain ⟨_, hcl, hat⟩ := World.cells?_some h3'
      obtain ⟨e, A, m, c, he, hA, hmc, hF, hbk⟩ := st_trod ht1 h0 h1 h2 h3 h4 h5 h6 hs hi hk hta hq hg0 hg1 cs' ci ck ca cq ct h4'
      subst he
      have hc : ∀ j z, (stL e (.slice A m c))[j]? = some z → W.cell? (a.add (j0 * 7 + j)) = some z := fun j z hz => by
        have hj : j < 7 := (List.getElem?_eq_some_iff.1 hz).1
        have := hat j (by omega)
        rw [ad_add] at this
        rw [this, hz]
      refine ⟨e, ⟨A, m, c, ?_, hc, hA, hmc⟩, hF, hbk⟩
      have := World.block_lt_of_cell? _ _ (hc 0 _ rfl)
      rwa [ad_block] at this)
    refine ⟨some a, len0, _, rows, rfl, ⟨hr1, by unfold maxLen at hm; omega, fun k e hk => ?_⟩, fun e he => ?_, hl, by unfold maxLen at hm; omega, ?_⟩
    · obtain ⟨⟨A, m, c, g1, g2, g3, g4⟩, _⟩ := hr2 k e hk
      exact ⟨a, A, m, c, rfl, g1, g2, g3, g4⟩
    · obtain ⟨k, hk⟩ := List.getElem?_of_mem he
      exact (hr2 k e hk).2.1
    · have hbk := bulk_of szS rows D 0 (fun k e hk => by rw [Nat.zero_add]; exact (hr2 k e hk).2.2)
      simp only [Nat.zero_add, hr1] at hbk
      change _ ≤ Rows.uptoBulkAll (List.map D (List.range len0)) at hbk
      obtain rfl : d = _ := (congrArg Prod.fst hx)
      simp only [Rows.uptoBulk]
      omega
end
end Go.Proofs.YtdjmfapbaoddoaaGreatDoor
