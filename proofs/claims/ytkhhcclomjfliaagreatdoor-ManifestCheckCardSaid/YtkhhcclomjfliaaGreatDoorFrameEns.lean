/-
  Entries that come in: one, a slice of them.
-/
import Derived.Test.YtkhhcclomjfliaaGreatDoorRows
import Derived.Test.YtkhhcclomjfliaaGreatDoorFrame
import Derived.Test.YtkhhcclomjfliaaGreatDoorFrameRows
import Derived.Test.YtkhhcclomjfliaaGreatDoorManifestRows
import Derived.Deep.Strs
import Derived.OpenShut
namespace Go.Proofs.YtkhhcclomjfliaaGreatDoor
open Go.RowKit Go.ChangeShapes Go.WideShapes Go.Deep
set_option linter.unusedVariables false

section
variable {H : Type} {enc : TypeId × Value → H} {P : Program} {W : World} {base : Nat} {held : Bool}
theorem trod_struct5 {base : Nat} {spare : Nat → Bool} {held : Bool} {t : TypeId} {f0 f1 f2 f3 f4 : Field} {fuel : Nat} {cs : List Value} {x : DataW H × List MemPlace} (ht : P.underlying t = some (.struct #[f0, f1, f2, f3, f4])) (h : DataW.trod enc P W base spare held fuel t cs = some x) :
    ∃ y0 y1 y2 y3 y4 n, x.1 = .agg [y0.1, y1.1, y2.1, y3.1, y4.1] ∧ cs.length = P.cellsOf t ∧ DataW.trod enc P W base spare held n f0.type ((cs.drop f0.offset).take (P.cellsOf f0.type)) = some y0 ∧
      DataW.trod enc P W base spare held n f1.type ((cs.drop f1.offset).take (P.cellsOf f1.type)) = some y1 ∧ DataW.trod enc P W base spare held n f2.type ((cs.drop f2.offset).take (P.cellsOf f2.type)) = some y2 ∧
      DataW.trod enc P W base spare held n f3.type ((cs.drop f3.offset).take (P.cellsOf f3.type)) = some y3 ∧ DataW.trod enc P W base spare held n f4.type ((cs.drop f4.offset).take (P.cellsOf f4.type)) = some y4 := by
  obtain ⟨xs, n, _, rfl, hl, hlen, hf⟩ := DataW.trod_struct ht h
  match xs, hlen with
  | [y0, y1, y2, y3, y4], _ => exact ⟨y0, y1, y2, y3, y4, n, by simp, hl, by simpa using hf 0 f0 rfl, by simpa using hf 1 f1 rfl, by simpa using hf 2 f2 rfl, by simpa using hf 3 f3 rfl, by simpa using hf 4 f4 rfl⟩
/-- An entry among cells. -/
theorem en_trod {base : Nat} {spare : Nat → Bool} {held : Bool} {t s i u y : TypeId} {f0 f1 f2 f3 f4 : Field} {fuel : Nat} {cs : List Value} {x : DataW H × List MemPlace} (ht : P.underlying t = some (.struct #[f0, f1, f2, f3, f4]))
    (h0 : f0.type = s ∧ f0.offset = 0) (h1 : f1.type = i ∧ f1.offset = 1) (h2 : f2.type = i ∧ f2.offset = 2) (h3 : f3.type = u ∧ f3.offset = 3) (h4 : f4.type = y ∧ f4.offset = 4) (hs : P.underlying s = some .string) (hi : P.underlying i = some (.int .i64)) (hu : P.underlying u = some (.int .u32)) (hy : P.underlying y = some (.int .i64))
    (cs' : P.cellsOf s = 1) (ci : P.cellsOf i = 1) (cu : P.cellsOf u = 1) (cy : P.cellsOf y = 1) (ct : P.cellsOf t = 5) (h : DataW.trod enc P W base spare held fuel t cs = some x) :
    ∃ e : En, cs = enL e ∧ EnF e ∧ ∃ b y1 y2 y3 y4, x.1 = .agg [.lit (.string b), y1, y2, y3, y4] ∧ b.length = e.name.length := by
  obtain ⟨y0, y1, y2, y3, y4, n, hx, hl, t0, t1, t2, t3, t4⟩ := trod_struct5 ht h
  rw [h0.1, h0.2, cs'] at t0
  rw [h1.1, h1.2, ci] at t1
  rw [h2.1, h2.2, ci] at t2
  rw [h3.1, h3.2, cu] at t3
  rw [h4.1, h4.2, cy] at t4
  rw [ct] at hl
  match cs, hl with
  | [c0, c1, c2, c3, c4], _ =>
    obtain ⟨sv, q0, d0, hm⟩ := DataW.trod_string hs t0
    obtain ⟨z1, q1, _, r1⟩ := DataW.trod_int hi t1
    obtain ⟨z2, q2, _, r2⟩ := DataW.trod_int hi t2
    obtain ⟨z3, q3, _, r3⟩ := DataW.trod_int hu t3
    obtain ⟨z4, q4, _, r4⟩ := DataW.trod_int hy t4
    have e0 : c0 = .string sv := by simpa using q0
    have e1 : c1 = .int .i64 z1 := by simpa using q1
    have e2 : c2 = .int .i64 z2 := by simpa using q2
    have e3 : c3 = .int .u32 z3 := by simpa using q3
    have e4 : c4 = .int .i64 z4 := by simpa using q4
    subst e0 e1 e2 e3 e4
    refine ⟨⟨sv.data.toList, z1, z2, z3, z4⟩, rfl, ⟨?_, wf_i64 r1, wf_i64 r2, wf_u32 r3, wf_i64 r4⟩, sv.data.toList, _, _, _, _, by rw [hx, d0], rfl⟩
    have : sv.size = sv.data.toList.length := rfl
    unfold maxLen at hm
    show sv.data.toList.length ≤ _
    omega
theorem open_en {base b0 : Nat} {spare : Nat → Bool} {held : Bool} {t s i u y : TypeId} {f0 f1 f2 f3 f4 : Field} {v : Value} {d : DataW H} {p : List MemPlace} (ht : P.underlying t = some (.struct #[f0, f1, f2, f3, f4]))
    (h0 : f0.type = s ∧ f0.offset = 0) (h1 : f1.type = i ∧ f1.offset = 1) (h2 : f2.type = i ∧ f2.offset = 2) (h3 : f3.type = u ∧ f3.offset = 3) (h4 : f4.type = y ∧ f4.offset = 4) (hs : P.underlying s = some .string) (hi : P.underlying i = some (.int .i64)) (hu : P.underlying u = some (.int .u32)) (hy : P.underlying y = some (.int .i64))
    (cs' : P.cellsOf s = 1) (ci : P.cellsOf i = 1) (cu : P.cellsOf u = 1) (cy : P.cellsOf y = 1) (ct : P.cellsOf t = 5) (hv : Value.okWide P W .any b0 t v) (h : DataW.Trod enc P W base spare held t v d p) :
    ∃ e : En, v = enV e ∧ EnF e := by
  obtain ⟨c, rfl, hsz⟩ : ∃ c, v = .agg c ∧ c.size = P.cellsOf t := by
    simp only [Value.okWide, ht] at hv
    obtain ⟨c, e1, e2, _⟩ := hv
    exact ⟨c, e1, e2⟩
  obtain ⟨fuel, hf⟩ := h
  have hc : (Value.agg c).cells.toList = c.toList := rfl
  obtain ⟨e, he, hF, _⟩ := en_trod ht h0 h1 h2 h3 h4 hs hi hu hy cs' ci cu cy ct hf
  rw [hc] at he
  refine ⟨e, ?_, hF⟩
  obtain ⟨l⟩ := c
  have : l = enL e := he
  rw [this]; rfl
theorem open_ens {b0 : Nat} {t q s i u y : TypeId} {f0 f1 f2 f3 f4 : Field} {v : Value} {d : DataW H} {p : List MemPlace} (ht : P.underlying t = some (.slice q)) (hq : P.underlying q = some (.struct #[f0, f1, f2, f3, f4]))
    (h0 : f0.type = s ∧ f0.offset = 0) (h1 : f1.type = i ∧ f1.offset = 1) (h2 : f2.type = i ∧ f2.offset = 2) (h3 : f3.type = u ∧ f3.offset = 3) (h4 : f4.type = y ∧ f4.offset = 4) (hs : P.underlying s = some .string) (hi : P.underlying i = some (.int .i64)) (hu : P.underlying u = some (.int .u32)) (hy : P.underlying y = some (.int .i64))
    (cs' : P.cellsOf s = 1) (ci : P.cellsOf i = 1) (cu : P.cellsOf u = 1) (cy : P.cellsOf y = 1) (ct : P.cellsOf q = 5)
    (hv : Value.okWide P W .any b0 t v) (h : DataW.Trod enc P W base (fun _ => true) held t v d p) :
    ∃ A n c es, v = .slice A n c ∧ EnS W A n es ∧ (∀ e ∈ es, EnF e) ∧ n ≤ c ∧ c ≤ 9223372036854775807 ∧ ((d = .nil ∧ es = []) ∨ ∃ D sp, d = .slice ((List.range n).map D) sp ∧ ∀ k e, es[k]? = some e → ∃ b y1 y2 y3 y4, D k = .agg [.lit (.string b), y1, y2, y3, y4] ∧ b.length = e.name.length) := by
  obtain ⟨a0, len0, cap0, rfl⟩ := okWide_slice ht hv
  obtain ⟨fuel, hf⟩ := h
  rcases open_slice ht hf with ⟨hcs', hx⟩ | ⟨a, len, cap, m, n, D, Pl, hcs', hb, hl, hm, hmm, hx, hi'⟩
  · simp [Value.cells] at hcs'
    obtain ⟨rfl, rfl, rfl⟩ := hcs'
    exact ⟨none, 0, 0, [], rfl, EnS.nil _, fun e h => (by cases h), Nat.le_refl _, Nat.zero_le _, .inl ⟨by injection hx, rfl⟩⟩
  · simp [Value.cells] at hcs'
    obtain ⟨rfl, rfl, rfl⟩ := hcs'
    simp only [if_true] at hmm
    subst hmm
    rw [ct] at hi'
    obtain ⟨rows, hr1, hr2⟩ := choose_list (α := En) (p := fun k e => (a.block < W.heap.size ∧ ∀ j z, (enL e)[j]? = some z → W.cell? (a.add (k * 5 + j)) = some z) ∧ EnF e ∧ ∃ b y1 y2 y3 y4, D k = .agg [.lit (.string b), y1, y2, y3, y4] ∧ b.length = e.name.length) len0 (fun k hk => by
      obtain ⟨cs, h3', h4'⟩ := hi' k (by omega)
      obtain ⟨_, hcl, hat⟩ := World.cells?_some h3'
      obtain ⟨e, he, hF, b, y1, y2, y3, y4, hD, hbl⟩ := en_trod hq h0 h1 h2 h3 h4 hs hi hu hy cs' ci cu cy ct h4'
      subst he
      have hc : ∀ j z, (enL e)[j]? = some z → W.cell? (a.add (k * 5 + j)) = some z := fun j z hz => by
        have hj : j < 5 := (List.getElem?_eq_some_iff.1 hz).1
        have := hat j (by omega)
        rw [ad_add] at this
        rw [this, hz]
      refine ⟨e, ⟨?_, hc⟩, hF, b, y1, y2, y3, y4, hD, hbl⟩
      have := World.block_lt_of_cell? _ _ (hc 0 _ rfl)
      rwa [ad_block] at this)
    refine ⟨some a, len0, _, rows, rfl, ⟨hr1, fun k e hk => ⟨a, rfl, (hr2 k e hk).1.1, (hr2 k e hk).1.2⟩⟩, fun e he => ?_, hl, by unfold maxLen at hm; omega, .inr ⟨D, _, by injection hx, fun k e hk => (hr2 k e hk).2.2⟩⟩
    obtain ⟨k, hk⟩ := List.getElem?_of_mem he
    exact (hr2 k e hk).2.1
/-- How much the entries hold. -/
theorem bulk_ens : ∀ (es : List En) (D : Nat → DataW H) (s : Nat), (∀ k e, es[k]? = some e → ∃ b y1 y2 y3 y4, D (s + k) = .agg [.lit (.string b), y1, y2, y3, y4] ∧ b.length = e.name.length) → (es.map fun e => e.name.length + 1).sum ≤ Rows.uptoBulkAll ((List.range es.length).map fun k => D (s + k))
  | [], D, s, _ => by simp [Rows.uptoBulkAll]
  | e :: es, D, s, h => by
    have ih := bulk_ens es D (s + 1) (fun k r hk => by have := h (k + 1) r (by simpa using hk); rwa [show s + (k + 1) = s + 1 + k by omega] at this)
    obtain ⟨b, y1, y2, y3, y4, hD, hbl⟩ := h 0 e rfl
    rw [List.length_cons, List.range_succ_eq_map, List.map_cons, List.map_cons, List.map_map]
    simp only [Rows.uptoBulkAll, List.sum_cons]
    have e1 : (List.range es.length).map ((fun k => D (s + k)) ∘ Nat.succ) = (List.range es.length).map fun k => D (s + 1 + k) := by
      apply List.map_congr_left
      intro k _
      show D (s + (k + 1)) = _
      rw [show s + (k + 1) = s + 1 + k by omega]
    rw [e1]
    have h1 : e.name.length + 1 ≤ Rows.uptoBulk (D (s + 0)) := by
      rw [hD]
      simp only [Rows.uptoBulk, Rows.uptoBulkAll]
      omega
    omega
end
end Go.Proofs.YtkhhcclomjfliaaGreatDoor
