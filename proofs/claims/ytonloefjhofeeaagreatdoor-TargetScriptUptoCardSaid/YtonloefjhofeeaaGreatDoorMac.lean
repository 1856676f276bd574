/-
  Acts that come in: a name's numbers, and four numbers more.
-/
import Derived.Test.YtonloefjhofeeaaGreatDoorFrameRows
import Derived.Test.YtonloefjhofeeaaGreatDoorFrame
namespace Go.Proofs.YtonloefjhofeeaaGreatDoor
open Go.RowKit Go.ChangeShapes Go.WideShapes Go.Deep
set_option linter.unusedVariables false

/-- What makes an entry: a name's numbers, a place, a size, a print, a way. -/
structure Mac where
  nm : List UInt8
  ad : Nat
  sz : Nat
  pr : Nat
  wy : Nat
structure MacF (a : Mac) : Prop where
  ad : a.ad ≤ 65535
  sz : a.sz ≤ 65535
  pr : a.pr ≤ 4294967295
  wy : a.wy ≤ 255
/-- The slice value '.slice A n _' holds these acts. -/
def MacS (w : World) (A : Option Addr) (n : Nat) (ms : List Mac) : Prop :=
  ms.length = n ∧ ∀ k a, ms[k]? = some a → ∃ ad Ak ck, A = some ad ∧ ad.block < w.heap.size ∧ w.cell? (ad.add (k * 5)) = some (.slice Ak a.nm.length ck) ∧ w.cell? (ad.add (k * 5 + 1)) = some (.int .u16 (a.ad : Int)) ∧ w.cell? (ad.add (k * 5 + 2)) = some (.int .u16 (a.sz : Int)) ∧
    w.cell? (ad.add (k * 5 + 3)) = some (.int .u32 (a.pr : Int)) ∧ w.cell? (ad.add (k * 5 + 4)) = some (.int .u8 (a.wy : Int)) ∧ MacF a ∧ Bys w w.heap.size Ak a.nm.length a.nm
theorem MacS.len {w : World} {A : Option Addr} {n : Nat} {ms : List Mac} (h : MacS w A n ms) : ms.length = n := h.1
theorem MacS.below {w w' : World} {A : Option Addr} {n : Nat} {ms : List Mac} (h : MacS w A n ms) (hb : Below w.heap.size w w') : MacS w' A n ms :=
  ⟨h.1, fun k a hk => by
    obtain ⟨ad, Ak, ck, e, hl, h0, h1, h2, h3, h4, hF, hN⟩ := h.2 k a hk
    have hc : ∀ j, w'.cell? (ad.add j) = w.cell? (ad.add j) := fun j => hb.cell (by rw [ad_block]; exact hl)
    exact ⟨ad, Ak, ck, e, Nat.lt_of_lt_of_le hl hb.size, (hc _).trans h0, (hc _).trans h1, (hc _).trans h2, (hc _).trans h3, (hc _).trans h4, hF, (hN.below hb).more hb.size⟩⟩
theorem MacS.at_ {w : World} {A : Option Addr} {n k : Nat} {ms : List Mac} {a : Mac} (h : MacS w A n ms) (hk : ms[k]? = some a) : ∃ ad Ak ck, A = some ad ∧ w.cell? (ad.add (k * 5)) = some (.slice Ak a.nm.length ck) ∧ w.cell? ⟨(ad.add (k * 5)).block, (ad.add (k * 5)).off + 1, none⟩ = some (.int .u16 (a.ad : Int)) ∧
    w.cell? ⟨(ad.add (k * 5)).block, (ad.add (k * 5)).off + 2, none⟩ = some (.int .u16 (a.sz : Int)) ∧ w.cell? ⟨(ad.add (k * 5)).block, (ad.add (k * 5)).off + 3, none⟩ = some (.int .u32 (a.pr : Int)) ∧ w.cell? ⟨(ad.add (k * 5)).block, (ad.add (k * 5)).off + 4, none⟩ = some (.int .u8 (a.wy : Int)) ∧ MacF a ∧ Bys w w.heap.size Ak a.nm.length a.nm := by
  obtain ⟨ad, Ak, ck, e, hl, h0, h1, h2, h3, h4, hF, hN⟩ := h.2 k a hk
  have hs : ∀ j, (⟨(ad.add (k * 5)).block, (ad.add (k * 5)).off + (j + 1), none⟩ : Addr) = ad.add (k * 5 + (j + 1)) := fun j => by rw [← ad_add, Addr.add_succ' (ad.add (k * 5)) j]
  refine ⟨ad, Ak, ck, e, h0, ?_, ?_, ?_, ?_, hF, hN⟩
  · rw [hs 0]; exact h1
  · rw [hs 1]; exact h2
  · rw [hs 2]; exact h3
  · rw [hs 3]; exact h4
def mac0 : Mac := ⟨[], 0, 0, 0, 0⟩
section
variable {H : Type} {enc : TypeId × Value → H} {P : Program} {W : World}
theorem trod_struct5 {base : Nat} {spare : Nat → Bool} {held : Bool} {t : TypeId} {f0 f1 f2 f3 f4 : Field} {fuel : Nat} {cs : List Value} {x : DataW H × List MemPlace} (ht : P.underlying t = some (.struct #[f0, f1, f2, f3, f4])) (h : DataW.trod enc P W base spare held fuel t cs = some x) :
    ∃ y0 y1 y2 y3 y4 n, x.1 = .agg [y0.1, y1.1, y2.1, y3.1, y4.1] ∧ cs.length = P.cellsOf t ∧ DataW.trod enc P W base spare held n f0.type ((cs.drop f0.offset).take (P.cellsOf f0.type)) = some y0 ∧
      DataW.trod enc P W base spare held n f1.type ((cs.drop f1.offset).take (P.cellsOf f1.type)) = some y1 ∧ DataW.trod enc P W base spare held n f2.type ((cs.drop f2.offset).take (P.cellsOf f2.type)) = some y2 ∧
      DataW.trod enc P W base spare held n f3.type ((cs.drop f3.offset).take (P.cellsOf f3.type)) = some y3 ∧ DataW.trod enc P W base spare held n f4.type ((cs.drop f4.offset).take (P.cellsOf f4.type)) = some y4 := by
  obtain ⟨xs, n, _, rfl, hl, hlen, hf⟩ := DataW.trod_struct ht h
  match xs, hlen with
  | [y0, y1, y2, y3, y4], _ => exact ⟨y0, y1, y2, y3, y4, n, by simp, hl, by simpa using hf 0 f0 rfl, by simpa using hf 1 f1 rfl, by simpa using hf 2 f2 rfl, by simpa using hf 3 f3 rfl, by simpa using hf 4 f4 rfl⟩
end

section
variable {H : Type} {enc : TypeId × Value → H} {P : Program} {W : World} {base : Nat} {held : Bool}
theorem open_mac {b0 : Nat} {t q s b h u : TypeId} {f0 f1 f2 f3 f4 : Field} {v : Value} {d : DataW H} {p : List MemPlace} (ht : P.underlying t = some (.slice q)) (hq : P.underlying q = some (.struct #[f0, f1, f2, f3, f4]))
    (h0 : f0.type = s ∧ f0.offset = 0) (h1 : f1.type = h ∧ f1.offset = 1) (h2 : f2.type = h ∧ f2.offset = 2) (h3 : f3.type = u ∧ f3.offset = 3) (h4 : f4.type = b ∧ f4.offset = 4) (hs : P.underlying s = some (.slice b)) (hb : P.underlying b = some (.int .u8)) (hh : P.underlying h = some (.int .u16)) (hu : P.underlying u = some (.int .u32))
    (cs' : P.cellsOf s = 1) (cb : P.cellsOf b = 1) (ch : P.cellsOf h = 1) (cu : P.cellsOf u = 1) (ct : P.cellsOf q = 5)
    (hv : Value.okWide P W .any b0 t v) (hd : DataW.Trod enc P W base (fun _ => true) held t v d p) :
    ∃ A n c ms, v = .slice A n c ∧ MacS W A n ms ∧ n ≤ c ∧ c ≤ 9223372036854775807 := by
  obtain ⟨a0, len0, cap0, rfl⟩ := okWide_slice ht hv
  obtain ⟨fuel, hf⟩ := hd
  rcases open_slice ht hf with ⟨hcs', hx⟩ | ⟨a, len, cap, m, n, D, Pl, hcs', hb', hl, hm, hmm, hx, hi'⟩
  · simp [Value.cells] at hcs'
    obtain ⟨rfl, rfl, rfl⟩ := hcs'
    exact ⟨none, 0, 0, [], rfl, ⟨rfl, fun k e h => by simp at h⟩, Nat.le_refl _, Nat.zero_le _⟩
  · simp [Value.cells] at hcs'
    obtain ⟨rfl, rfl, rfl⟩ := hcs'
    simp only [if_true] at hmm
    subst hmm
    rw [ct] at hi'
    obtain ⟨rows, hr1, hr2⟩ := choose_list (α := Mac) (p := fun k e => ∃ Ak ck, a.block < W.heap.size ∧ W.cell? (a.add (k * 5)) = some (.slice Ak e.nm.length ck) ∧ W.cell? (a.add (k * 5 + 1)) = some (.int .u16 (e.ad : Int)) ∧ W.cell? (a.add (k * 5 + 2)) = some (.int .u16 (e.sz : Int)) ∧
        W.cell? (a.add (k * 5 + 3)) = some (.int .u32 (e.pr : Int)) ∧ W.cell? (a.add (k * 5 + 4)) = some (.int .u8 (e.wy : Int)) ∧ MacF e ∧ Bys W W.heap.size Ak e.nm.length e.nm) len0 (fun k hk => by
      obtain ⟨cs, h3', h4'⟩ := hi' k (by omega)
      obtain ⟨_, hcl, hat⟩ := World.cells?_some h3'
      obtain ⟨y0, y1, y2, y3, y4, n', _, hl', t0, t1, t2, t3, t4⟩ := trod_struct5 hq h4'
      rw [h0.1, h0.2, cs'] at t0
      rw [h1.1, h1.2, ch] at t1
      rw [h2.1, h2.2, ch] at t2
      rw [h3.1, h3.2, cu] at t3
      rw [h4.1, h4.2, cb] at t4
      match cs, hcl with
      | [c0, c1, c2, c3, c4], _ =>
        have p0 := hat 0 (by omega)
        have p1 := hat 1 (by omega)
        have p2 := hat 2 (by omega)
        have p3 := hat 3 (by omega)
        have p4 := hat 4 (by omega)
        obtain ⟨A, n2, c2', bs, hv2, hb2, hnc, hcm, hsd⟩ := bys_trod hs hb cb t0
        obtain ⟨z1, q1, _, r1⟩ := DataW.trod_int hh t1
        obtain ⟨z2, q2, _, r2⟩ := DataW.trod_int hh t2
        obtain ⟨z3, q3, _, r3⟩ := DataW.trod_int hu t3
        obtain ⟨z4, q4, _, r4⟩ := DataW.trod_int hb t4
        have e0 : c0 = .slice A n2 c2' := by simpa using hv2
        have e1 : c1 = .int .u16 z1 := by simpa using q1
        have e2 : c2 = .int .u16 z2 := by simpa using q2
        have e3 : c3 = .int .u32 z3 := by simpa using q3
        have e4 : c4 = .int .u8 z4 := by simpa using q4
        subst e0 e1 e2 e3 e4
        obtain ⟨m1, rfl⟩ : ∃ m : Nat, z1 = (m : Int) := ⟨z1.toNat, by have := wf_u16 r1; omega⟩
        obtain ⟨m2, rfl⟩ : ∃ m : Nat, z2 = (m : Int) := ⟨z2.toNat, by have := wf_u16 r2; omega⟩
        obtain ⟨m3, rfl⟩ : ∃ m : Nat, z3 = (m : Int) := ⟨z3.toNat, by have := wf_u32 r3; omega⟩
        obtain ⟨m4, rfl⟩ : ∃ m : Nat, z4 = (m : Int) := ⟨z4.toNat, by have := wf_u8 r4; omega⟩
        have hlen := hb2.len
        rw [ad_add] at p0 p1 p2 p3 p4
        have hlt : a.block < W.heap.size := by
          have := World.block_lt_of_cell? _ _ (show W.cell? (a.add (k * 5)) = some _ by simpa using p0)
          rwa [ad_block] at this
        refine ⟨⟨bs, m1, m2, m3, m4⟩, A, c2', hlt, ?_, ?_, ?_, ?_, ?_, ⟨by have := wf_u16 r1; show m1 ≤ _; omega, by have := wf_u16 r2; show m2 ≤ _; omega, by have := wf_u32 r3; show m3 ≤ _; omega, by have := wf_u8 r4; show m4 ≤ _; omega⟩, by simp only [hlen]; exact hb2⟩
        · simp only [hlen]; simpa using p0
        · simpa using p1
        · simpa using p2
        · simpa using p3
        · simpa using p4)
    refine ⟨some a, len0, _, rows, rfl, ⟨hr1, fun k e hk => ?_⟩, hl, by unfold maxLen at hm; omega⟩
    obtain ⟨Ak, ck, g1, g2, g3, g4, g5, g6, g7, g8⟩ := hr2 k e hk
    exact ⟨a, Ak, ck, rfl, g1, g2, g3, g4, g5, g6, g7, g8⟩
end
end Go.Proofs.YtonloefjhofeeaaGreatDoor
