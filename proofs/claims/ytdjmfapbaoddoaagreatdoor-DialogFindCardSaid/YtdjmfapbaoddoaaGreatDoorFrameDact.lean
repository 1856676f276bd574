/-
  Acts that come in: a truth value, four numbers, rows of bytes.
-/
import Derived.Test.YtdjmfapbaoddoaaGreatDoorFrame
import Derived.Test.YtdjmfapbaoddoaaGreatDoorFrameRows
import Derived.Test.YtdjmfapbaoddoaaGreatDoorDialogAct
import Derived.Deep.Slices
import Derived.OpenShut
namespace Go.Proofs.YtdjmfapbaoddoaaGreatDoor
open Go.RowKit Go.ChangeShapes Go.WideShapes Go.Deep
set_option linter.unusedVariables false

section
variable {H : Type} {enc : TypeId × Value → H} {P : Program} {W : World} {base : Nat} {held : Bool}
theorem rows_trod {t s e : TypeId} {fuel : Nat} {cs : List Value} {x : DataW H × List MemPlace} (ht : P.underlying t = some (.slice s)) (hs : P.underlying s = some (.slice e)) (he : P.underlying e = some (.int .u8)) (hc : P.cellsOf e = 1) (hcs : P.cellsOf s = 1)
    (h : DataW.trod enc P W base (fun _ => true) held fuel t cs = some x) :
    ∃ A n c rows, cs = [.slice A n c] ∧ RowsB W A n rows ∧ n ≤ 9223372036854775807 := by
  rcases open_slice1 ht hcs h with ⟨hcs', hx⟩ | ⟨a, len, cap, m, n, V, D, Pl, hcs', hb, hl, hm, hmm, hx, hi⟩
  · exact ⟨none, 0, 0, [], hcs', ⟨rfl, fun k bs h => by simp at h⟩, Nat.zero_le _⟩
  · simp only [if_true] at hmm
    subst hmm
    obtain ⟨rows, hr1, hr2⟩ := choose_list (α := List UInt8) (p := fun k bs => ∃ Ak ck, W.cell? (a.add k) = some (.slice Ak bs.length ck) ∧ bs.length ≤ ck ∧ ck ≤ 9223372036854775807 ∧ Bys W W.heap.size Ak bs.length bs) len (fun k hk => by
      obtain ⟨h1, h2⟩ := hi k (by omega)
      obtain ⟨A, n', c', bs, hv, hb, hnc, hcm, hsz⟩ := bys_trod hs he hc h2
      have hV : V k = .slice A n' c' := by simpa using hv
      rw [hV] at h1
      have hlen := hb.len
      exact ⟨bs, A, c', by rw [hlen]; exact h1, by omega, hcm, by rw [hlen]; exact hb⟩)
    refine ⟨some a, len, _, rows, hcs', ⟨hr1, fun k bs hk => ?_⟩, by unfold maxLen at hm; omega⟩
    obtain ⟨Ak, ck, h1, h2, h3, h4⟩ := hr2 k bs hk
    exact ⟨a, Ak, ck, rfl, by have := World.block_lt_of_cell? _ _ h1; rwa [ad_block] at this, h1, h2, h3, h4⟩
theorem trod_struct6 {spare : Nat → Bool} {t : TypeId} {f0 f1 f2 f3 f4 f5 : Field} {fuel : Nat} {cs : List Value} {x : DataW H × List MemPlace} (ht : P.underlying t = some (.struct #[f0, f1, f2, f3, f4, f5])) (h : DataW.trod enc P W base spare held fuel t cs = some x) :
    ∃ y0 y1 y2 y3 y4 y5 n, cs.length = P.cellsOf t ∧ DataW.trod enc P W base spare held n f0.type ((cs.drop f0.offset).take (P.cellsOf f0.type)) = some y0 ∧
      DataW.trod enc P W base spare held n f1.type ((cs.drop f1.offset).take (P.cellsOf f1.type)) = some y1 ∧ DataW.trod enc P W base spare held n f2.type ((cs.drop f2.offset).take (P.cellsOf f2.type)) = some y2 ∧
      DataW.trod enc P W base spare held n f3.type ((cs.drop f3.offset).take (P.cellsOf f3.type)) = some y3 ∧ DataW.trod enc P W base spare held n f4.type ((cs.drop f4.offset).take (P.cellsOf f4.type)) = some y4 ∧
      DataW.trod enc P W base spare held n f5.type ((cs.drop f5.offset).take (P.cellsOf f5.type)) = some y5 := by
  obtain ⟨xs, n, _, rfl, hl, hlen, hf⟩ := DataW.trod_struct ht h
  match xs, hlen with
  | [y0, y1, y2, y3, y4, y5], _ => exact ⟨y0, y1, y2, y3, y4, y5, n, hl, by simpa using hf 0 f0 rfl, by simpa using hf 1 f1 rfl, by simpa using hf 2 f2 rfl, by simpa using hf 3 f3 rfl, by simpa using hf 4 f4 rfl, by simpa using hf 5 f5 rfl⟩
theorem open_dact {b0 : Nat} {t t1 o b r s : TypeId} {f0 f1 f2 f3 f4 f5 : Field} {v : Value} {d : DataW H} {p : List MemPlace} (ht : P.underlying t = some (.slice t1)) (ht1 : P.underlying t1 = some (.struct #[f0, f1, f2, f3, f4, f5]))
    (h0 : f0.type = o ∧ f0.offset = 0) (h1 : f1.type = b ∧ f1.offset = 1) (h2 : f2.type = b ∧ f2.offset = 2) (h3 : f3.type = r ∧ f3.offset = 3) (h4 : f4.type = b ∧ f4.offset = 4) (h5 : f5.type = b ∧ f5.offset = 5)
    (ho : P.underlying o = some .bool) (hb : P.underlying b = some (.int .u8)) (hr : P.underlying r = some (.slice s)) (hs : P.underlying s = some (.slice b))
    (co : P.cellsOf o = 1) (cb : P.cellsOf b = 1) (cr : P.cellsOf r = 1) (cs' : P.cellsOf s = 1) (ct : P.cellsOf t1 = 6)
    (hv : Value.okWide P W .any b0 t v) (h : DataW.Trod enc P W base (fun _ => true) held t v d p) :
    ∃ A n c es, v = .slice A n c ∧ DctS W A n es ∧ n ≤ c ∧ c ≤ 9223372036854775807 := by
  obtain ⟨a0, len0, cap0, rfl⟩ := okWide_slice ht hv
  obtain ⟨fuel, hf⟩ := h
  rcases open_slice ht hf with ⟨hcs', hx⟩ | ⟨a, len, cap, m, n, D, Pl, hcs', hb', hl, hm, hmm, hx, hi'⟩
  · simp [Value.cells] at hcs'
    obtain ⟨rfl, rfl, rfl⟩ := hcs'
    exact ⟨none, 0, 0, [], rfl, ⟨rfl, fun k e h => by simp at h⟩, Nat.le_refl _, Nat.zero_le _⟩
  · simp [Value.cells] at hcs'
    obtain ⟨rfl, rfl, rfl⟩ := hcs'
    simp only [if_true] at hmm
    subst hmm
    rw [ct] at hi'
    obtain ⟨rows, hr1, hr2⟩ := choose_list (α := Dc) (p := fun k e => ∃ Ap cp, a.block < W.heap.size ∧ (∀ j z, (dcL e (.slice Ap e.pats.length cp))[j]? = some z → W.cell? (a.add (k * 6 + j)) = some z) ∧ DcF e ∧ RowsB W Ap e.pats.length e.pats) len0 (fun j0 hj0 => by
      obtain ⟨cs, h3', h4'⟩ := hi' j0 (by omega)
      obtain ⟨_, hcl, hat⟩ := World.cells?_some h3'
      obtain ⟨y0, y1, y2, y3, y4, y5, n', _, t0, t1', t2, t3, t4, t5⟩ := trod_struct6 ht1 h4'
      rw [h0.1, h0.2, co] at t0
      rw [h1.1, h1.2, cb] at t1'
      rw [h2.1, h2.2, cb] at t2
      rw [h3.1, h3.2, cr] at t3
      rw [h4.1, h4.2, cb] at t4
      rw [h5.1, h5.2, cb] at t5
      match cs, hcl with
      | [c0, c1, c2, c3, c4, c5], _ =>
        obtain ⟨z0, q0, _⟩ := DataW.trod_bool ho t0
        obtain ⟨z1, q1, _, r1⟩ := DataW.trod_int hb t1'
        obtain ⟨z2, q2, _, r2⟩ := DataW.trod_int hb t2
        obtain ⟨Ap, np, cp, ps, q3, hR, hnp⟩ := rows_trod hr hs hb cb cs' t3
        obtain ⟨z4, q4, _, r4⟩ := DataW.trod_int hb t4
        obtain ⟨z5, q5, _, r5⟩ := DataW.trod_int hb t5
        have e0 : c0 = .bool z0 := by simpa using q0
        have e1 : c1 = .int .u8 z1 := by simpa using q1
        have e2 : c2 = .int .u8 z2 := by simpa using q2
        have e3 : c3 = .slice Ap np cp := by simpa using q3
        have e4 : c4 = .int .u8 z4 := by simpa using q4
        have e5 : c5 = .int .u8 z5 := by simpa using q5
        subst e0 e1 e2 e3 e4 e5
        obtain ⟨m1, rfl⟩ : ∃ m : Nat, z1 = (m : Int) := ⟨z1.toNat, by have := wf_u8 r1; omega⟩
        obtain ⟨m2, rfl⟩ : ∃ m : Nat, z2 = (m : Int) := ⟨z2.toNat, by have := wf_u8 r2; omega⟩
        obtain ⟨m4, rfl⟩ : ∃ m : Nat, z4 = (m : Int) := ⟨z4.toNat, by have := wf_u8 r4; omega⟩
        obtain ⟨m5, rfl⟩ : ∃ m : Nat, z5 = (m : Int) := ⟨z5.toNat, by have := wf_u8 r5; omega⟩
        obtain rfl : ps.length = np := hR.1
        have hc : ∀ j z, (dcL ⟨z0, m1, m2, ps, m4, m5⟩ (.slice Ap ps.length cp))[j]? = some z → W.cell? (a.add (j0 * 6 + j)) = some z := fun j z hz => by
          have hj : j < 6 := (List.getElem?_eq_some_iff.1 hz).1
          have := hat j (by omega)
          rw [ad_add] at this
          rw [this, ← hz]
          rfl
        refine ⟨⟨z0, m1, m2, ps, m4, m5⟩, Ap, cp, ?_, hc, ⟨by have := wf_u8 r1; show m1 ≤ _; omega, by have := wf_u8 r2; show m2 ≤ _; omega, by have := wf_u8 r4; show m4 ≤ _; omega, by have := wf_u8 r5; show m5 ≤ _; omega, hnp⟩, hR⟩
        have := World.block_lt_of_cell? _ _ (hc 0 _ rfl)
        rwa [ad_block] at this)
    refine ⟨some a, len0, _, rows, rfl, ⟨hr1, fun k e hk => ?_⟩, hl, by unfold maxLen at hm; omega⟩
    obtain ⟨Ap, cp, g1, g2, g3, g4⟩ := hr2 k e hk
    exact ⟨a, Ap, cp, rfl, g1, g2, g3, g4⟩
end
end Go.Proofs.YtdjmfapbaoddoaaGreatDoor
