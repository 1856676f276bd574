/-
  A Demux that a law made: contracts in the law's words; the law's own 'awake'.
-/
import Derived.Test.YtadfchdcaenglaaDemuxPut
import Derived.Test.YtadfchdcaenglaaDemuxPart
namespace Go.Proofs.Ytadfchdcaenglaa
open Go.RowKit
set_option linter.unusedVariables false

/-- A Demux that was made since w0. -/
structure DAt (w0 : World) (g md : Nat) (ts : List Nat) (w : World) : Prop where
  d : Dmx w w0.heap.size g md ts
  b : Below w0.heap.size w0 w
namespace DAt
variable {w0 w w' : World} {g md : Nat} {ts : List Nat}
theorem below (h : DAt w0 g md ts w) (hb : Below w.heap.size w w') : DAt w0 g md ts w' := ⟨h.d.below hb, h.b.trans (hb.mono h.b.size)⟩
theorem turned (h : DAt w0 g md ts w) {md' : Nat} {ts' : List Nat} (hd : Dmx w' w0.heap.size g md' ts') (ht : DT w0.heap.size w w') : DAt w0 g md' ts' w' := ⟨hd, h.b.trans (ht.below (Nat.le_refl _) h.b.size)⟩
theorem drew (h : DAt w0 g md ts w) : DAt w0 g md ts w.drew := ⟨h.d.drew, h.b.drew⟩
end DAt
theorem of_at (m : Int) {w0 w : World} (hb : Below w0.heap.size w0 w) : Calls Try.prog 11 #[.int .i64 m] w fun e w' => ∃ g, e = .returned (.pointer (some ⟨g, 0, none⟩)) ∧ DAt w0 g (knD m) [] w' :=
  (of_any m w0.heap.size w hb.size).mono fun e w' ⟨g, h1, h2, h3⟩ => ⟨g, h1, h2, hb.trans (h3.mono hb.size)⟩
theorem of_below (m : Int) {w0 w : World} (hb : Below w0.heap.size w0 w) : Calls Try.prog 11 #[.int .i64 m] w fun e w' => ∃ g, e = .returned (.pointer (some ⟨g, 0, none⟩)) ∧ DAt w0 g (knD m) [] w' ∧ Below w.heap.size w w' :=
  (of_any m w0.heap.size w hb.size).mono fun e w' ⟨g, h1, h2, h3⟩ => ⟨g, h1, ⟨h2, hb.trans (h3.mono hb.size)⟩, h3⟩
theorem put_at {w0 w : World} {g md : Nat} {ts : List Nat} (h : DAt w0 g md ts w) (x : Int) (hto : ts.length < 1099511627776) : Calls Try.prog 13 #[.pointer (some ⟨g, 0, none⟩), .int .u8 x] w fun e w' => e = .returned (.int .i64 (md : Int)) ∧ DAt w0 g md (ts ++ [md]) w' ∧ DT w0.heap.size w w' :=
  (put_any h.d x hto).mono fun e w' hh => ⟨hh.1, h.turned hh.2.1 hh.2.2.1, hh.2.2.1⟩
theorem switch_at {w0 w : World} {g md : Nat} {ts : List Nat} (h : DAt w0 g md ts w) (m : Int) : Calls Try.prog 12 #[.pointer (some ⟨g, 0, none⟩), .int .i64 m] w fun e w' => e = .returned (.tuple #[]) ∧ DAt w0 g (knD m) ts w' ∧ DT w0.heap.size w w' :=
  (switch_any h.d m).mono fun e w' hh => ⟨hh.1, h.turned hh.2.1 hh.2.2, hh.2.2⟩
theorem mode_at {w0 w : World} {g md : Nat} {ts : List Nat} (h : DAt w0 g md ts w) : Calls Try.prog 14 #[.pointer (some ⟨g, 0, none⟩)] w fun e w' => e = .returned (.int .i64 (md : Int)) ∧ w = w' := mode_any h.d
theorem len_at {w0 w : World} {g md : Nat} {ts : List Nat} (h : DAt w0 g md ts w) (hto : ts.length ≤ 1099511627776) : Calls Try.prog 15 #[.pointer (some ⟨g, 0, none⟩)] w fun e w' => e = .returned (.int .i64 (ts.length : Nat)) ∧ Below w.heap.size w w' := len_any h.d hto
/-- The segments, as a slice: their cells. -/
structure SegsAt (w0 : World) (ss : List Sg) (A : Option Addr) (c : Nat) (w : World) : Prop where
  own : OwnS w w0.heap.size (.slice A ss.length c) ss.length ss
  b : Below w0.heap.size w0 w
theorem SegsAt.cells {w0 w : World} {ss : List Sg} {A : Option Addr} {c : Nat} (h : SegsAt w0 ss A c w) {k : Nat} {s : Sg} (hs : ss[k]? = some s) : ∃ G, A = some ⟨G, 0, none⟩ ∧ w.cell? ⟨G, k * 3, none⟩ = some (.int .i64 (s.m : Int)) ∧ w.cell? ⟨G, k * 3 + 1, none⟩ = some (.int .i64 (s.f : Int)) ∧ w.cell? ⟨G, k * 3 + 2, none⟩ = some (.int .i64 (s.n : Int)) := by
  have hk := (List.getElem?_eq_some_iff.1 hs).1
  obtain ⟨G, c', e2, hG, hGl, hnc⟩ := h.own.form (by omega)
  obtain ⟨rfl, rfl⟩ : A = some ⟨G, 0, none⟩ ∧ c = c' := by injection e2 with q1 q2 q3; exact ⟨q1, q3⟩
  exact ⟨G, rfl, h.own.cell hs (r := 0) (by omega), h.own.cell hs (r := 1) (by omega), h.own.cell hs (r := 2) (by omega)⟩
theorem SegsAt.below {w0 w w' : World} {ss : List Sg} {A : Option Addr} {c : Nat} (h : SegsAt w0 ss A c w) (hb : Below w.heap.size w w') : SegsAt w0 ss A c w' := ⟨h.own.keep fun i _ hi => hb.block i hi, h.b.trans (hb.mono h.b.size)⟩
theorem segs_at {w0 w : World} {g md : Nat} {ts : List Nat} (h : DAt w0 g md ts w) (hto : ts.length ≤ 1099511627776) : Calls Try.prog 16 #[.pointer (some ⟨g, 0, none⟩)] w fun e w' => ∃ A c, e = .returned (.slice A (segs ts).length c) ∧ SegsAt w0 (segs ts) A c w' ∧ Below w.heap.size w w' :=
  (segments_any h.d hto).mono fun e w' ⟨A, c, h1, h2, h3⟩ => ⟨A, c, h1, ⟨own_low h2 h.b.size, h.b.trans (h3.mono h.b.size)⟩, h3⟩
/-- A part: its bytes. -/
theorem part_at {w0 w : World} {g md : Nat} {ts : List Nat} (h : DAt w0 g md ts w) (hto : ts.length ≤ 1099511627776) (A0 : Option Addr) (n0 c0 : Nat) (b : List UInt8) (hb : Bys w w.heap.size A0 n0 b) (hn0 : n0 ≤ c0) (hc0 : c0 ≤ 9223372036854775807) (m : Nat) :
    Calls Try.prog 17 #[.pointer (some ⟨g, 0, none⟩), .slice A0 n0 c0, .int .i64 (m : Int)] w fun e w' => ∃ A c, e = .returned (.slice A (partD b m (segs ts)).length c) ∧ Bys w' w'.heap.size A (partD b m (segs ts)).length (partD b m (segs ts)) ∧ Below w.heap.size w w' :=
  (part_any h.d hto A0 n0 c0 b hb hn0 hc0 m).mono fun e w' ⟨A, c, h1, h2, h3, h4, h5⟩ => ⟨A, c, h1, h2.bys (by omega), h5⟩
theorem awake_any (w : World) : Calls Try.prog 9 #[] w fun e w' => e = .returned (.bool true) ∧ Below w.heap.size w w' := by
  go_enter Try.func9, Try.ntmps9
  go_wp2_with fail
  refine (of_at 1 (Below.refl _ _)).mono ?_
  rintro e w1 ⟨g, rfl, h1⟩
  have H1 : Hid (DAt w g 1 [] w1) := keepHid h1
  clear h1
  go_wp2_with fail
  refine (put_at H1.out 1 (by simp)).mono ?_
  rintro e w2 ⟨rfl, h2, -⟩
  have H2 : Hid (DAt w g 1 [1] w2) := keepHid h2
  clear h2 H1
  go_wp2_with fail
  refine (switch_at H2.out 2).mono ?_
  rintro e w3 ⟨rfl, h3, -⟩
  have H3 : Hid (DAt w g 2 [1] w3) := keepHid h3
  clear h3 H2
  go_wp2_with fail
  refine (put_at H3.out 2 (by simp)).mono ?_
  rintro e w4 ⟨rfl, h4, -⟩
  have H4 : Hid (DAt w g 2 [1, 2] w4) := keepHid h4
  clear h4 H3
  go_wp2_with fail
  refine (put_at H4.out 3 (by simp)).mono ?_
  rintro e w5 ⟨rfl, h5, -⟩
  have H5 : Hid (DAt w g 2 [1, 2, 2] w5) := keepHid h5
  clear h5 H4
  go_wp2_with fail
  refine (segs_at H5.out (by simp)).mono ?_
  rintro e w6 ⟨A, c, rfl, h6, -⟩
  have hs : segs [1, 2, 2] = [⟨1, 0, 1⟩, ⟨2, 1, 2⟩] := rfl
  rw [hs] at h6 ⊢
  obtain ⟨G, rfl, c0, c1, c2⟩ := h6.cells (k := 0) rfl
  obtain ⟨G', e, c3, c4, c5⟩ := h6.cells (k := 1) rfl
  obtain rfl : G = G' := by injection e with e; injection e
  have HB := keepHid h6.b
  clear h6 hs e H5
  simp only [Nat.zero_mul, Nat.zero_add, Nat.one_mul] at c0 c1 c2 c3 c4 c5
  go_wp2
  go_ret
  exact ⟨rfl, HB.out⟩
end Go.Proofs.Ytadfchdcaenglaa
