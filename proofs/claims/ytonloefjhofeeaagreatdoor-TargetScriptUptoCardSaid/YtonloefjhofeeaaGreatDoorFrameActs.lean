/-
  A slice of acts that comes in: a Bool, a small number, bytes.
-/
import Derived.Test.YtonloefjhofeeaaGreatDoorRows
import Derived.Test.YtonloefjhofeeaaGreatDoorFrame
import Derived.Test.YtonloefjhofeeaaGreatDoorFrameRows
import Derived.Deep.Strs
import Derived.OpenShut
namespace Go.Proofs.YtonloefjhofeeaaGreatDoor
open Go.RowKit Go.ChangeShapes Go.WideShapes Go.Deep
set_option linter.unusedVariables false

structure Ac where
  sw : Bool
  md : Int
  bs : List UInt8
/-- The slice value '.slice A n _' holds these acts. -/
def ActsD (w : World) (A : Option Addr) (n : Nat) (rows : List Ac) : Prop :=
  rows.length = n ∧ ∀ k r, rows[k]? = some r → ∃ ad Ak ck, A = some ad ∧ ad.block < w.heap.size ∧ w.cell? (ad.add (k * 3)) = some (.bool r.sw) ∧ w.cell? (ad.add (k * 3 + 1)) = some (.int .i8 r.md) ∧ w.cell? (ad.add (k * 3 + 2)) = some (.slice Ak r.bs.length ck) ∧ (-128 ≤ r.md ∧ r.md ≤ 127) ∧
    r.bs.length ≤ ck ∧ ck ≤ 9223372036854775807 ∧ Bys w w.heap.size Ak r.bs.length r.bs
section
variable {H : Type} {enc : TypeId × Value → H} {P : Program} {W : World} {base : Nat} {held : Bool}
theorem open_act3 {b0 : Nat} {t q bt i8 s e : TypeId} {f0 f1 f2 : Field} {v : Value} {d : DataW H} {p : List MemPlace} (ht : P.underlying t = some (.slice q)) (hq : P.underlying q = some (.struct #[f0, f1, f2]))
    (h0 : f0.type = bt ∧ f0.offset = 0) (h1 : f1.type = i8 ∧ f1.offset = 1) (h2 : f2.type = s ∧ f2.offset = 2) (hbt : P.underlying bt = some .bool) (hi8 : P.underlying i8 = some (.int .i8)) (hs : P.underlying s = some (.slice e)) (he : P.underlying e = some (.int .u8))
    (hcb : P.cellsOf bt = 1) (hci : P.cellsOf i8 = 1) (hcs : P.cellsOf s = 1) (hc : P.cellsOf e = 1) (hcq : P.cellsOf q = 3)
    (hv : Value.okWide P W .any b0 t v) (h : DataW.Trod enc P W base (fun _ => true) held t v d p) :
    ∃ A n c rows, v = .slice A n c ∧ ActsD W A n rows ∧ n ≤ c ∧ c ≤ 9223372036854775807 ∧ ((d = .nil ∧ rows = []) ∨ ∃ D sp, d = .slice ((List.range n).map D) sp ∧ ∀ k r, rows[k]? = some r → ∃ y0 y1 y2, D k = .agg [y0, y1, y2] ∧ SizedAs y2 r.bs.length) := by
  obtain ⟨a0, len0, cap0, rfl⟩ := okWide_slice ht hv
  obtain ⟨fuel, hf⟩ := h
  rcases open_slice ht hf with ⟨hcs', hx⟩ | ⟨a, len, cap, m, n, D, Pl, hcs', hb, hl, hm, hmm, hx, hi⟩
  · simp [Value.cells] at hcs'
    obtain ⟨rfl, rfl, rfl⟩ := hcs'
    exact ⟨none, 0, 0, [], rfl, ⟨rfl, fun k bs h => by simp at h⟩, Nat.le_refl _, Nat.zero_le _, .inl ⟨by injection hx, rfl⟩⟩
  · simp [Value.cells] at hcs'
    obtain ⟨rfl, rfl, rfl⟩ := hcs'
    simp only [if_true] at hmm
    subst hmm
    rw [hcq] at hi
    obtain ⟨rows, hr1, hr2⟩ := choose_list (α := Ac) (p := fun k r => (∃ Ak ck, W.cell? (a.add (k * 3)) = some (.bool r.sw) ∧ W.cell? (a.add (k * 3 + 1)) = some (.int .i8 r.md) ∧ W.cell? (a.add (k * 3 + 2)) = some (.slice Ak r.bs.length ck) ∧ (-128 ≤ r.md ∧ r.md ≤ 127) ∧
        r.bs.length ≤ ck ∧ ck ≤ 9223372036854775807 ∧ Bys W W.heap.size Ak r.bs.length r.bs) ∧ ∃ y0 y1 y2, D k = .agg [y0, y1, y2] ∧ SizedAs y2 r.bs.length) len0 (fun k hk => by
      obtain ⟨cs', h3, h4⟩ := hi k (by omega)
      obtain ⟨_, hcl, hat⟩ := World.cells?_some h3
      obtain ⟨y0, y1, y2, n', hD, _, t0, t1, t2⟩ := trod_struct3 hq h4
      rw [h0.1, h0.2, hcb] at t0
      rw [h1.1, h1.2, hci] at t1
      rw [h2.1, h2.2, hcs] at t2
      match cs', hcl with
      | [c0, c1, c2], _ =>
        have p0 := hat 0 (by omega)
        have p1 := hat 1 (by omega)
        have p2 := hat 2 (by omega)
        obtain ⟨b, hb0, _⟩ := DataW.trod_bool hbt t0
        obtain ⟨z, hz, _, hw⟩ := DataW.trod_int hi8 t1
        obtain ⟨A, n2, c2', bs, hv2, hb2, hnc, hcm, hsd⟩ := bys_trod hs he hc t2
        have e0 : c0 = .bool b := by simpa using hb0
        have e1 : c1 = .int .i8 z := by simpa using hz
        have e2 : c2 = .slice A n2 c2' := by simpa using hv2
        subst e0 e1 e2
        have hlen := hb2.len
        rw [ad_add] at p0 p1 p2
        refine ⟨⟨b, z, bs⟩, ⟨A, c2', ?_, ?_, ?_, wf_i8 hw, by simp only [hlen]; exact hnc, hcm, by simp only [hlen]; exact hb2⟩, y0.1, y1.1, y2.1, by injection hD, by simp only [hlen]; exact hsd⟩
        · simpa using p0
        · simpa using p1
        · simp only [hlen]; simpa using p2)
    refine ⟨some a, len0, _, rows, rfl, ⟨hr1, fun k r hk => ?_⟩, hl, by unfold maxLen at hm; omega, .inr ⟨D, _, by injection hx, fun k r hk => (hr2 k r hk).2⟩⟩
    obtain ⟨⟨Ak, ck, h3, h4, h5, h6, h7, h8, h9⟩, _⟩ := hr2 k r hk
    exact ⟨a, Ak, ck, rfl, by have := World.block_lt_of_cell? _ _ h3; rwa [ad_block] at this, h3, h4, h5, h6, h7, h8, h9⟩
theorem bulk_one (d : DataW H) : 1 ≤ Rows.uptoBulk d := by
  cases d with
  | lit l => cases l <;> simp [Rows.uptoBulk]
  | nil => simp [Rows.uptoBulk]
  | ptr d => simp [Rows.uptoBulk]
  | slice elems spare => simp [Rows.uptoBulk]
  | agg parts => simp [Rows.uptoBulk]
  | iface t d => simp [Rows.uptoBulk]
  | map entries => simp [Rows.uptoBulk]
  | held h => simp [Rows.uptoBulk]
theorem bulk_len : ∀ l : List (DataW H), l.length ≤ Rows.uptoBulkAll l
  | [] => by simp [Rows.uptoBulkAll]
  | x :: r => by have := bulk_one x; have := bulk_len r; simp only [Rows.uptoBulkAll, List.length_cons]; omega
theorem bulk_acts : ∀ (y : List Ac) (D : Nat → DataW H) (s : Nat), (∀ k r, y[k]? = some r → ∃ y0 y1 y2, D (s + k) = .agg [y0, y1, y2] ∧ SizedAs y2 r.bs.length) → (y.flatMap Ac.bs).length ≤ Rows.uptoBulkAll ((List.range y.length).map fun k => D (s + k))
  | [], D, s, _ => by simp [Rows.uptoBulkAll]
  | b :: y, D, s, h => by
    have ih := bulk_acts y D (s + 1) (fun k r hk => by have := h (k + 1) r (by simpa using hk); rwa [show s + (k + 1) = s + 1 + k by omega] at this)
    obtain ⟨y0, y1, y2, hD, hs⟩ := h 0 b rfl
    rw [List.length_cons, List.range_succ_eq_map, List.map_cons, List.map_map]
    simp only [Rows.uptoBulkAll, List.flatMap_cons, List.length_append]
    have e : (List.range y.length).map ((fun k => D (s + k)) ∘ Nat.succ) = (List.range y.length).map fun k => D (s + 1 + k) := by
      apply List.map_congr_left
      intro k _
      show D (s + (k + 1)) = _
      rw [show s + (k + 1) = s + 1 + k by omega]
    rw [e]
    have h1 : b.bs.length ≤ Rows.uptoBulk (D (s + 0)) := by
      rw [hD]
      simp only [Rows.uptoBulk, Rows.uptoBulkAll]
      rcases hs with ⟨hd, hk⟩ | ⟨el, sp, hd, hk⟩
      · omega
      · rw [hd, ← hk]
        have := bulk_len el
        simp only [Rows.uptoBulk]
        omega
    omega
end
end Go.Proofs.YtonloefjhofeeaaGreatDoor
