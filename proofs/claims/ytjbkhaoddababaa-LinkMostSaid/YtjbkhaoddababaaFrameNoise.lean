/-
  A slice of noise that comes in.
-/
import Derived.Test.YtjbkhaoddababaaFrame
import Derived.Test.YtjbkhaoddababaaFrameRows
import Derived.Test.YtjbkhaoddababaaLinkPass
import Derived.Deep.Strs
import Derived.OpenShut
namespace Go.Proofs.Ytjbkhaoddababaa
open Go.RowKit Go.ChangeShapes Go.WideShapes Go.Deep
set_option linter.unusedVariables false

section
variable {P : Program} {W : World} {H : Type} {enc : TypeId × Value → H} {base : Nat} {held : Bool}
theorem open_noise {b0 : Nat} {t q bt it ut : TypeId} {f0 f1 f2 : Field} {v : Value} {d : DataW H} {p : List MemPlace} (ht : P.underlying t = some (.slice q)) (hq : P.underlying q = some (.struct #[f0, f1, f2]))
    (h0 : f0.type = bt ∧ f0.offset = 0) (h1 : f1.type = it ∧ f1.offset = 1) (h2 : f2.type = ut ∧ f2.offset = 2) (hbt : P.underlying bt = some .bool) (hit : P.underlying it = some (.int .i64)) (hut : P.underlying ut = some (.int .u8)) (hcb : P.cellsOf bt = 1) (hci : P.cellsOf it = 1) (hcu : P.cellsOf ut = 1) (hcq : P.cellsOf q = 3) (hby : P.bytesOf q = 24)
    (hv : Value.okWide P W .any b0 t v) (h : DataW.Trod enc P W base (fun _ => true) held t v d p) (hsz : ∀ el sp, d = .slice el sp → (el.length + sp.length) * P.bytesOf q ≤ reachBytes) :
    ∃ A n c ns, v = .slice A n c ∧ NzS W A n ns ∧ n ≤ c ∧ c * 24 ≤ 140737488351232 := by
  obtain ⟨a0, len0, cap0, rfl⟩ := okWide_slice ht hv
  obtain ⟨fuel, hf⟩ := h
  rcases open_slice ht hf with ⟨hcs', hx⟩ | ⟨a, len, cap, m, n, D, Pl, hcs', hb, hl, hm, hmm, hx, hi⟩
  · simp [Value.cells] at hcs'
    obtain ⟨rfl, rfl, rfl⟩ := hcs'
    exact ⟨none, 0, 0, [], rfl, NzS.none_ _, Nat.le_refl _, by omega⟩
  · simp [Value.cells] at hcs'
    obtain ⟨rfl, rfl, rfl⟩ := hcs'
    simp only [if_true] at hmm
    subst hmm
    rw [hcq] at hi
    obtain ⟨rows, hr1, hr2⟩ := choose_list (α := Nz) (p := fun k z => W.cell? (a.add (k * 3)) = some (.bool z.lost) ∧ W.cell? (a.add (k * 3 + 1)) = some (.int .i64 z.at_) ∧ W.cell? (a.add (k * 3 + 2)) = some (.int .u8 (z.by_.toNat : Int)) ∧ -9223372036854775808 ≤ z.at_ ∧ z.at_ ≤ 9223372036854775807) len0 (fun k hk => by
      obtain ⟨cs', h3, h4⟩ := hi k (by omega)
      obtain ⟨_, hcl, hat⟩ := World.cells?_some h3
      obtain ⟨y0, y1, y2, n', _, _, t0, t1, t2⟩ := trod_struct3 hq h4
      rw [h0.1, h0.2, hcb] at t0
      rw [h1.1, h1.2, hci] at t1
      rw [h2.1, h2.2, hcu] at t2
      match cs', hcl with
      | [c0, c1, c2], _ =>
        have p0 := hat 0 (by omega)
        have p1 := hat 1 (by omega)
        have p2 := hat 2 (by omega)
        obtain ⟨b, hb0, _⟩ := DataW.trod_bool hbt t0
        obtain ⟨z, hz, _, hw⟩ := DataW.trod_int hit t1
        obtain ⟨u, hu, _, hwu⟩ := DataW.trod_int hut t2
        have e0 : c0 = .bool b := by simpa using hb0
        have e1 : c1 = .int .i64 z := by simpa using hz
        have e2 : c2 = .int .u8 u := by simpa using hu
        subst e0 e1 e2
        have hu2 := wf_u8 hwu
        rw [ad_add] at p0 p1 p2
        refine ⟨⟨b, z, UInt8.ofNat u.toNat⟩, ?_, ?_, ?_, wf_i64 hw⟩
        · simpa using p0
        · simpa using p1
        · have e3 : ((UInt8.ofNat u.toNat).toNat : Int) = u := by
            rw [UInt8.toNat_ofNat', Nat.mod_eq_of_lt (by omega)]; omega
          simp only [e3]
          simpa using p2)
    have hd : d = .slice ((List.range len0).map D) ((List.range (m - len0)).map fun j => D (len0 + j)) := by injection hx
    have h5 := hsz _ _ hd
    rw [hby] at h5
    simp only [List.length_map, List.length_range, reachBytes] at h5
    refine ⟨some a, len0, _, rows, rfl, ⟨hr1, by unfold maxLen at hm; omega, fun k z hk => ?_⟩, hl, by omega⟩
    obtain ⟨h6, h7, h8, h9⟩ := hr2 k z hk
    exact ⟨a, rfl, by have := World.block_lt_of_cell? _ _ h6; rwa [ad_block] at this, h6, h7, h8, h9⟩
end
end Go.Proofs.Ytjbkhaoddababaa
