/-
  Acts that come in: a name's numbers, and four numbers more.
-/
import Derived.Test.YtkhhcclomjfliaaGreatDoorFrameEns
import Derived.Test.YtkhhcclomjfliaaGreatDoorManifestActs
namespace Go.Proofs.YtkhhcclomjfliaaGreatDoor
open Go.RowKit Go.ChangeShapes Go.WideShapes Go.Deep
set_option linter.unusedVariables false

section
variable {H : Type} {enc : TypeId × Value → H} {P : Program} {W : World} {base : Nat} {held : Bool}
theorem open_mac {b0 : Nat} {t q s b h u : TypeId} {f0 f1 f2 f3 f4 : Field} {v : Value} {d : DataW H} {p : List MemPlace} (ht : P.underlying t = some (.slice q)) (hq : P.underlying q = some (.struct #[f0, f1, f2, f3, f4]))
    (h0 : f0.type = s ∧ f0.offset = 0) (h1 : f1.type = h ∧ f1.offset = 1) (h2 : f2.type = h ∧ f2.offset = 2) (h3 : f3.type = u ∧ f3.offset = 3) (h4 : f4.type = b ∧ f4.offset = 4) (hs : P.underlying s = some (.slice b)) (hb : P.underlying b = some (.int .u8)) (hh : P.underlying h = some (.int .u16)) (hu : P.underlying u = some (.int .u32))
    (cs' : P.cellsOf s = 1) (cb : P.cellsOf b = 1) (ch : P.cellsOf h = 1) (cu : P.cellsOf u = 1) (ct : P.cellsOf q = 5)
    (hv : Value.okWide P W .any b0 t v) (hd : DataW.Trod enc P W base (fun _ => true) held t v d p) :
    ∃ A n c ms, v = .slice A n c ∧ MacS W A n ms ∧ n ≤ c ∧ c ≤ 9223372036854775807 := by
  obtain ⟨a0, len0, cap0, rfl⟩ := okWide_slice ht hv
  obtain ⟨fuel, hf⟩ := hd
  rcases open_slice ht hf with ⟨hcs', hx⟩ | ⟨a, len, cap, m, n, D, Pl, hcs', hb', hl, hm, hmm, hx, hi'⟩
  · simp [Value.cells] at hcs'
    obtain ⟨rfl, rfl, rfl⟩ := hcs'
    exact ⟨none, 0, 0, [], rfl, ⟨rfl, fun k e h => by simp at h⟩, Nat.le_refl _, Nat.zero_le _⟩
  · simp [Value.cells] at hcs'
    obtain ⟨rfl, rfl, rfl⟩ := hcs'
    simp only [if_true] at hmm
    subst hmm
    rw [ct] at hi'
    obtain ⟨rows, hr1, hr2⟩ := choose_list (α := Mac) (p := fun k e => ∃ Ak ck, a.block < W.heap.size ∧ W.cell? (a.add (k * 5)) = some (.slice Ak e.nm.length ck) ∧ W.cell? (a.add (k * 5 + 1)) = some (.int .u16 (e.ad : Int)) ∧ W.cell? (a.add (k * 5 + 2)) = some (.int .u16 (e.sz : Int)) ∧
        W.cell? (a.add (k * 5 + 3)) = some (.int .u32 (e.pr : Int)) ∧ W.cell? (a.add (k * 5 + 4)) = some (.int .u8 (e.wy : Int)) ∧ MacF e ∧ Bys W W.heap.size Ak e.nm.length e.nm) len0 (fun k hk => by
      obtain ⟨cs, h3', h4'⟩ := hi' k (by omega)
      obtain ⟨_, hcl, hat⟩ := World.cells?_some h3'
      obtain ⟨y0, y1, y2, y3, y4, n', _, hl', t0, t1, t2, t3, t4⟩ := trod_struct5 hq h4'
      rw [h0.1, h0.2, cs'] at t0
      rw [h1.1, h1.2, ch] at t1
      rw [h2.1, h2.2, ch] at t2
      rw [h3.1, h3.2, cu] at t3
      rw [h4.1, h4.2, cb] at t4
      match cs, hcl with
      | [c0, c1, c2, c3, c4], _ =>
        have p0 := hat 0 (by omega)
        have p1 := hat 1 (by omega)
        have p2 := hat 2 (by omega)
        have p3 := hat 3 (by omega)
        have p4 := hat 4 (by omega)
        obtain ⟨A, n2, c2', bs, hv2, hb2, hnc, hcm, hsd⟩ := bys_trod hs hb cb t0
        obtain ⟨z1, q1, _, r1⟩ := DataW.trod_int hh t1
        obtain ⟨z2, q2, _, r2⟩ := DataW.trod_int hh t2
        obtain ⟨z3, q3, _, r3⟩ := DataW.trod_int hu t3
        obtain ⟨z4, q4, _, r4⟩ := DataW.trod_int hb t4
        have e0 : c0 = .slice A n2 c2' := by simpa using hv2
        have e1 : c1 = .int .u16 z1 := by simpa using q1
        have e2 : c2 = .int .u16 z2 := by simpa using q2
        have e3 : c3 = .int .u32 z3 := by simpa using q3
        have e4 : c4 = .int .u8 z4 := by simpa using q4
        subst e0 e1 e2 e3 e4
        obtain ⟨m1, rfl⟩ : ∃ m : Nat, z1 = (m : Int) := ⟨z1.toNat, by have := wf_u16 r1; omega⟩
        obtain ⟨m2, rfl⟩ : ∃ m : Nat, z2 = (m : Int) := ⟨z2.toNat, by have := wf_u16 r2; omega⟩
        obtain ⟨m3, rfl⟩ : ∃ m : Nat, z3 = (m : Int) := ⟨z3.toNat, by have := wf_u32 r3; omega⟩
        obtain ⟨m4, rfl⟩ : ∃ m : Nat, z4 = (m : Int) := ⟨z4.toNat, by have := wf_u8 r4; omega⟩
        have hlen := hb2.len
        rw [ad_add] at p0 p1 p2 p3 p4
        have hlt : a.block < W.heap.size := by
          have := World.block_lt_of_cell? _ _ (show W.cell? (a.add (k * 5)) = some _ by simpa using p0)
          rwa [ad_block] at this
        refine ⟨⟨bs, m1, m2, m3, m4⟩, A, c2', hlt, ?_, ?_, ?_, ?_, ?_, ⟨by have := wf_u16 r1; show m1 ≤ _; omega, by have := wf_u16 r2; show m2 ≤ _; omega, by have := wf_u32 r3; show m3 ≤ _; omega, by have := wf_u8 r4; show m4 ≤ _; omega⟩, by simp only [hlen]; exact hb2⟩
        · simp only [hlen]; simpa using p0
        · simpa using p1
        · simpa using p2
        · simpa using p3
        · simpa using p4)
    refine ⟨some a, len0, _, rows, rfl, ⟨hr1, fun k e hk => ?_⟩, hl, by unfold maxLen at hm; omega⟩
    obtain ⟨Ak, ck, g1, g2, g3, g4, g5, g6, g7, g8⟩ := hr2 k e hk
    exact ⟨a, Ak, ck, rfl, g1, g2, g3, g4, g5, g6, g7, g8⟩
end
end Go.Proofs.YtkhhcclomjfliaaGreatDoor
