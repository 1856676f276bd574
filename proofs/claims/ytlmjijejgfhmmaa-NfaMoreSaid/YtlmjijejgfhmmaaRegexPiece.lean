/-
  The reader of patterns: a piece.
-/
import Derived.Test.YtlmjijejgfhmmaaRegexAtoms
import Derived.WalkKit
import Derived.OwnWalk
import Derived.ProofKit
import Derived.WalkLawsBesides
import Derived.IntWalk
import Derived.RegionTactic
import Derived.BigRegion
import Derived.ChangeAlike
import Derived.Deep.QuietTactic
import Derived.BigQuiet
import Derived.Deep.RegionHeld3
import Derived.Deep.DrawnRows
import Derived.Outline
import Derived.Deep.DeepCutAuto
namespace Go.Proofs.Ytlmjijejgfhmmaa
open Go.RowKit
set_option linter.unusedVariables false





section
variable {d : Nat} {grp : List UInt8 → R Re}
theorem ReadPost.of_eq {g d : Nat} {bs : List UInt8} {x y : R Re} {w w' : World} {e : Ending} (h : x = y) (p : ReadPost g bs d y w e w') : ReadPost g bs d x w e w' := by rw [h]; exact p
set_option maxHeartbeats 800000 in
theorem piece_no (HA : Spec1 55 d (atomF grp)) : ∀ (g : Nat) (bs : List UInt8) (i : Nat) (w : World), Ps w g bs i d → i < bs.length → (atomF grp (bs.drop i)).1 = none → 
    Calls Try.prog 50 #[.pointer (some ⟨g, 0, none⟩)] w (ReadPost g bs d (pieceF grp (bs.drop i)) w) := by
  intro g bs i w h hlt hnone
  obtain ⟨w1, hw1⟩ : ∃ w1, w.alloc (.cells #[.int .i64 0, .int .u64 0, .int .u64 0, .int .u64 0, .int .u64 0, .slice none 0 0] 30) = w1 := ⟨_, rfl⟩
  have HG := keepHid h.lt
  have HP1 : Hid (Ps w1 g bs i d) := keepHid (by rw [← hw1]; exact h.alloc _)
  have HZ1 := keepHid (node_new hw1)
  have HO1 : Hid (Only g w w1) := keepHid (by rw [← hw1]; exact (Only.refl w g).alloc _)
  have HL1 : Hid (w.heap.size < w1.heap.size) := keepHid (by rw [← hw1]; simp)
  have HLT := keepHid hlt
  have HAT := keepHid HA
  clear h hlt HA
  generalize hl : bs.drop i = l at *
  go_enter Try.func50, Try.ntmps50
  go_wp2_with fail
  refine (HAT.out g bs i w1 HP1.out HLT.out).mono ?_
  rintro e w2 ⟨n, ok, rfl, hok, hno, hw2⟩
  rw [hl] at hok hno hw2
  obtain ⟨w3, hw3⟩ : ∃ w3, w2.alloc (.cells #[.int .i64 n.k, .int .u64 (n.s.a.toNat : Int), .int .u64 (n.s.b.toNat : Int), .int .u64 (n.s.c.toNat : Int), .int .u64 (n.s.d.toNat : Int), .slice n.A n.n n.c] 30) = w3 := ⟨_, rfl⟩
  have HZ3 : Hid (Blk w3 w.heap.size 30 nd0) := keepHid (by rw [← hw3]; exact (HZ1.out.only hw2.only (by have := HG.out; intro e; injection e; omega)).alloc _)
  have HN3 : Hid (Blk w3 w2.heap.size 30 (hdC n)) := keepHid (by rw [← hw3]; exact Blk.new _ _ _)
  have HW3 : Hid (Went g bs d (atomF grp l).2 w1 w3) := keepHid (by
    rw [← hw3]
    obtain ⟨⟨j, hj, hp⟩, ho⟩ := hw2
    exact ⟨⟨j, hj, hp.alloc _⟩, ho.alloc _⟩)
  have hb23 : Below w2.heap.size w2 w3 := by rw [← hw3]; exact (Below.refl _ _).alloc (Nat.le_refl _) _
  have HOK : Hid (ok = true → ∃ r, (atomF grp l).1 = some r ∧ IsRe w3 w1.heap.size n r) := keepHid (fun h => by obtain ⟨r, e1, e2⟩ := hok h; exact ⟨r, e1, e2.below hb23⟩)
  have HNO := keepHid hno
  have HGL : Hid (g < w2.heap.size) := keepHid (by have := HG.out; have := HL1.out; have := hw2.only.size; omega)
  have HZL : Hid (w.heap.size < w2.heap.size) := keepHid (by have := HL1.out; have := hw2.only.size; omega)
  clear hok hno hw2 hb23 hl hw1 HAT HP1 HZ1 HLT
  unfold hdV
  cases ok
  · have HF : Hid (pieceF grp l = (none, (atomF grp l).2)) := keepHid (by
      have := HNO.out rfl
      unfold pieceF
      generalize atomF grp l = x at *
      obtain ⟨o, r⟩ := x
      simp only at this
      subst this; rfl)
    have K := keepHid (read_six (x := (none, (atomF grp l).2)) (h := hd0) (ok := false) HG.out HL1.out HO1.out (fun h => by cases h) (fun _ => rfl) HW3.out)
    clear HOK HNO hnone
    obtain ⟨z0, z1, z2, z3, z4, z5, zf⟩ := blk6 HZ3.out
    go_wp2
    exact ⟨by rfl, .tuple #[hdV hd0, .bool false], by rw [results_cell_tmp rfl]; go_simp; rfl, by rw [HF.out]; exact K.out _ _ _ _ _ _⟩
  · exfalso
    obtain ⟨r, h1, _⟩ := HOK.out rfl
    rw [hnone] at h1
    cases h1
set_option maxHeartbeats 800000 in
theorem piece_star (HA : Spec1 55 d (atomF grp)) : ∀ (g : Nat) (bs : List UInt8) (i : Nat) (w : World), Ps w g bs i d → i < bs.length → nx 42 (atomF grp (bs.drop i)).2 = true → (atomF grp (bs.drop i)).1 ≠ none → 
    Calls Try.prog 50 #[.pointer (some ⟨g, 0, none⟩)] w (ReadPost g bs d (pieceF grp (bs.drop i)) w) := by
  intro g bs i w h hlt b42 hsome
  obtain ⟨w1, hw1⟩ : ∃ w1, w.alloc (.cells #[.int .i64 0, .int .u64 0, .int .u64 0, .int .u64 0, .int .u64 0, .slice none 0 0] 30) = w1 := ⟨_, rfl⟩
  have HG := keepHid h.lt
  have HP1 : Hid (Ps w1 g bs i d) := keepHid (by rw [← hw1]; exact h.alloc _)
  have HZ1 := keepHid (node_new hw1)
  have HO1 : Hid (Only g w w1) := keepHid (by rw [← hw1]; exact (Only.refl w g).alloc _)
  have HL1 : Hid (w.heap.size < w1.heap.size) := keepHid (by rw [← hw1]; simp)
  have HLT := keepHid hlt
  have HAT := keepHid HA
  clear h hlt HA
  generalize hl : bs.drop i = l at *
  go_enter Try.func50, Try.ntmps50
  go_wp2_with fail
  refine (HAT.out g bs i w1 HP1.out HLT.out).mono ?_
  rintro e w2 ⟨n, ok, rfl, hok, hno, hw2⟩
  rw [hl] at hok hno hw2
  obtain ⟨w3, hw3⟩ : ∃ w3, w2.alloc (.cells #[.int .i64 n.k, .int .u64 (n.s.a.toNat : Int), .int .u64 (n.s.b.toNat : Int), .int .u64 (n.s.c.toNat : Int), .int .u64 (n.s.d.toNat : Int), .slice n.A n.n n.c] 30) = w3 := ⟨_, rfl⟩
  have HZ3 : Hid (Blk w3 w.heap.size 30 nd0) := keepHid (by rw [← hw3]; exact (HZ1.out.only hw2.only (by have := HG.out; intro e; injection e; omega)).alloc _)
  have HN3 : Hid (Blk w3 w2.heap.size 30 (hdC n)) := keepHid (by rw [← hw3]; exact Blk.new _ _ _)
  have HW3 : Hid (Went g bs d (atomF grp l).2 w1 w3) := keepHid (by
    rw [← hw3]
    obtain ⟨⟨j, hj, hp⟩, ho⟩ := hw2
    exact ⟨⟨j, hj, hp.alloc _⟩, ho.alloc _⟩)
  have hb23 : Below w2.heap.size w2 w3 := by rw [← hw3]; exact (Below.refl _ _).alloc (Nat.le_refl _) _
  have HOK : Hid (ok = true → ∃ r, (atomF grp l).1 = some r ∧ IsRe w3 w1.heap.size n r) := keepHid (fun h => by obtain ⟨r, e1, e2⟩ := hok h; exact ⟨r, e1, e2.below hb23⟩)
  have HNO := keepHid hno
  have HGL : Hid (g < w2.heap.size) := keepHid (by have := HG.out; have := HL1.out; have := hw2.only.size; omega)
  have HZL : Hid (w.heap.size < w2.heap.size) := keepHid (by have := HL1.out; have := hw2.only.size; omega)
  clear hok hno hw2 hb23 hl hw1 HAT HP1 HZ1 HLT
  unfold hdV
  cases ok
  · exact (hsome (HNO.out rfl)).elim
  · clear hsome
    obtain ⟨a, ha, hia⟩ := HOK.out rfl
    have HI3 := keepHid hia
    have HA := keepHid ha
    obtain ⟨r, hr⟩ : ∃ r, (atomF grp l).2 = r := ⟨_, rfl⟩
    have HAE : Hid (atomF grp l = (some a, r)) := keepHid (by rw [← ha, ← hr])
    rw [hr] at HW3 b42
    clear ha hia hr HOK HNO
    have HF : Hid (pieceF grp l = (some (.star a), r.tail)) := keepHid (by unfold pieceF; rw [HAE.out]; simp [b42])
    obtain ⟨⟨j3, hj3, hp3⟩, ho3⟩ := HW3.out
    have HT := keepHid (take_any hp3 42 42 rfl)
    unfold TakePost at HT
    rw [hj3, b42] at HT
    simp only [if_true] at HT
    have HO3 := keepHid ho3
    clear hj3 hp3 ho3
    go_wp2_with fail
    refine HT.out.mono ?_
    rintro e w4 ⟨rfl, hw4⟩
    have HW4 := keepHid (Went.far HO3.out hw4)
    have HZ4 := keepHid (HZ3.out.only hw4.only (by have := HG.out; intro e; injection e; omega))
    have HN4 := keepHid (HN3.out.only hw4.only (by have := HGL.out; intro e; injection e; omega))
    have HI4 := keepHid (HI3.out.only hw4.only (by have := HG.out; have := HL1.out; omega))
    clear hw4 HT
    obtain ⟨n0, n1, n2, n3, n4, n5, nf⟩ := blk6 HN4.out
    go_wp2_with fail
    refine (star_any n w4).mono ?_
    rintro e w5 ⟨gS, rfl, hgS, hat, hb5⟩
    have HZ5 := keepHid (HZ4.out.below hb5 HZ4.out.lt)
    have hwent : Went g bs d r.tail w1 w5 := by
      obtain ⟨⟨j, hj, hp⟩, ho⟩ := HW4.out
      exact ⟨⟨j, hj, hp.below hb5 hp.lt⟩, ho.trans (Only.of_below hb5)⟩
    have hsz : w1.heap.size ≤ w4.heap.size := HW4.out.only.size
    have K := keepHid (read_six (x := (some (.star a), r.tail)) (h := ⟨4, st0, some ⟨gS, 0, none⟩, 1, 1⟩) (ok := true) HG.out HL1.out HO1.out
      (fun _ => ⟨_, rfl, gS, 1, n, rfl, Nat.le_refl _, by unfold maxLen; omega, by omega, hat, HI4.out.below hb5⟩) (fun h => by cases h) hwent)
    clear hgS hat hb5 hwent hsz n0 n1 n2 n3 n4 n5 nf
    obtain ⟨z0, z1, z2, z3, z4, z5, zf⟩ := blk6 HZ5.out
    unfold hdV
    go_wp2
    exact ⟨by rfl, .tuple #[hdV ⟨4, st0, some ⟨gS, 0, none⟩, 1, 1⟩, .bool true], by rw [results_cell_tmp rfl]; go_simp; rfl, by rw [HF.out]; exact K.out _ _ _ _ _ _⟩
set_option maxHeartbeats 800000 in
theorem piece_bare (HA : Spec1 55 d (atomF grp)) : ∀ (g : Nat) (bs : List UInt8) (i : Nat) (w : World), Ps w g bs i d → i < bs.length → nx 42 (atomF grp (bs.drop i)).2 = false → nx 43 (atomF grp (bs.drop i)).2 = false → nx 63 (atomF grp (bs.drop i)).2 = false → (atomF grp (bs.drop i)).1 ≠ none → 
    Calls Try.prog 50 #[.pointer (some ⟨g, 0, none⟩)] w (ReadPost g bs d (pieceF grp (bs.drop i)) w) := by
  intro g bs i w h hlt b42 b43 b63 hsome
  obtain ⟨w1, hw1⟩ : ∃ w1, w.alloc (.cells #[.int .i64 0, .int .u64 0, .int .u64 0, .int .u64 0, .int .u64 0, .slice none 0 0] 30) = w1 := ⟨_, rfl⟩
  have HG := keepHid h.lt
  have HP1 : Hid (Ps w1 g bs i d) := keepHid (by rw [← hw1]; exact h.alloc _)
  have HZ1 := keepHid (node_new hw1)
  have HO1 : Hid (Only g w w1) := keepHid (by rw [← hw1]; exact (Only.refl w g).alloc _)
  have HL1 : Hid (w.heap.size < w1.heap.size) := keepHid (by rw [← hw1]; simp)
  have HLT := keepHid hlt
  have HAT := keepHid HA
  clear h hlt HA
  generalize hl : bs.drop i = l at *
  go_enter Try.func50, Try.ntmps50
  go_wp2_with fail
  refine (HAT.out g bs i w1 HP1.out HLT.out).mono ?_
  rintro e w2 ⟨n, ok, rfl, hok, hno, hw2⟩
  rw [hl] at hok hno hw2
  obtain ⟨w3, hw3⟩ : ∃ w3, w2.alloc (.cells #[.int .i64 n.k, .int .u64 (n.s.a.toNat : Int), .int .u64 (n.s.b.toNat : Int), .int .u64 (n.s.c.toNat : Int), .int .u64 (n.s.d.toNat : Int), .slice n.A n.n n.c] 30) = w3 := ⟨_, rfl⟩
  have HZ3 : Hid (Blk w3 w.heap.size 30 nd0) := keepHid (by rw [← hw3]; exact (HZ1.out.only hw2.only (by have := HG.out; intro e; injection e; omega)).alloc _)
  have HN3 : Hid (Blk w3 w2.heap.size 30 (hdC n)) := keepHid (by rw [← hw3]; exact Blk.new _ _ _)
  have HW3 : Hid (Went g bs d (atomF grp l).2 w1 w3) := keepHid (by
    rw [← hw3]
    obtain ⟨⟨j, hj, hp⟩, ho⟩ := hw2
    exact ⟨⟨j, hj, hp.alloc _⟩, ho.alloc _⟩)
  have hb23 : Below w2.heap.size w2 w3 := by rw [← hw3]; exact (Below.refl _ _).alloc (Nat.le_refl _) _
  have HOK : Hid (ok = true → ∃ r, (atomF grp l).1 = some r ∧ IsRe w3 w1.heap.size n r) := keepHid (fun h => by obtain ⟨r, e1, e2⟩ := hok h; exact ⟨r, e1, e2.below hb23⟩)
  have HNO := keepHid hno
  have HGL : Hid (g < w2.heap.size) := keepHid (by have := HG.out; have := HL1.out; have := hw2.only.size; omega)
  have HZL : Hid (w.heap.size < w2.heap.size) := keepHid (by have := HL1.out; have := hw2.only.size; omega)
  clear hok hno hw2 hb23 hl hw1 HAT HP1 HZ1 HLT
  unfold hdV
  cases ok
  · exact (hsome (HNO.out rfl)).elim
  · clear hsome
    obtain ⟨a, ha, hia⟩ := HOK.out rfl
    have HI3 := keepHid hia
    have HA := keepHid ha
    obtain ⟨r, hr⟩ : ∃ r, (atomF grp l).2 = r := ⟨_, rfl⟩
    have HAE : Hid (atomF grp l = (some a, r)) := keepHid (by rw [← ha, ← hr])
    rw [hr] at HW3 b42 b43 b63
    clear ha hia hr HOK HNO
    have HF : Hid (pieceF grp l = (some a, r)) := keepHid (by unfold pieceF; rw [HAE.out]; simp [b42, b43, b63])
    obtain ⟨⟨j3, hj3, hp3⟩, ho3⟩ := HW3.out
    have HT := keepHid (take_any hp3 42 42 rfl)
    unfold TakePost at HT
    rw [hj3, b42] at HT
    simp only [Bool.false_eq_true, if_false] at HT
    have HO3 := keepHid ho3
    clear hj3 hp3 ho3
    go_wp2_with fail
    refine HT.out.mono ?_
    rintro e w4 ⟨rfl, hw4⟩
    have HW4 := keepHid (Went.far HO3.out hw4)
    have HZ4 := keepHid (HZ3.out.only hw4.only (by have := HG.out; intro e; injection e; omega))
    have HN4 := keepHid (HN3.out.only hw4.only (by have := HGL.out; intro e; injection e; omega))
    have HI4 := keepHid (HI3.out.only hw4.only (by have := HG.out; have := HL1.out; omega))
    clear hw4 HT
    obtain ⟨⟨j4, hj4, hp4⟩, ho4⟩ := HW4.out
    have HT := keepHid (take_any hp4 43 43 rfl)
    unfold TakePost at HT
    rw [hj4, b43] at HT
    simp only [Bool.false_eq_true, if_false] at HT
    have HO4 := keepHid ho4
    clear hj4 hp4 ho4
    go_wp2_with fail
    refine HT.out.mono ?_
    rintro e w5 ⟨rfl, hw5⟩
    have HW5 := keepHid (Went.far HO4.out hw5)
    have HZ5 := keepHid (HZ4.out.only hw5.only (by have := HG.out; intro e; injection e; omega))
    have HN5 := keepHid (HN4.out.only hw5.only (by have := HGL.out; intro e; injection e; omega))
    have HI5 := keepHid (HI4.out.only hw5.only (by have := HG.out; have := HL1.out; omega))
    clear hw5 HT
    obtain ⟨⟨j5, hj5, hp5⟩, ho5⟩ := HW5.out
    have HT := keepHid (take_any hp5 63 63 rfl)
    unfold TakePost at HT
    rw [hj5, b63] at HT
    simp only [Bool.false_eq_true, if_false] at HT
    have HO5 := keepHid ho5
    clear hj5 hp5 ho5
    go_wp2_with fail
    refine HT.out.mono ?_
    rintro e w6 ⟨rfl, hw6⟩
    have HW6 := keepHid (Went.far HO5.out hw6)
    have HZ6 := keepHid (HZ5.out.only hw6.only (by have := HG.out; intro e; injection e; omega))
    have HN6 := keepHid (HN5.out.only hw6.only (by have := HGL.out; intro e; injection e; omega))
    have HI6 := keepHid (HI5.out.only hw6.only (by have := HG.out; have := HL1.out; omega))
    clear hw6 HT
    obtain ⟨n0, n1, n2, n3, n4, n5, nf⟩ := blk6 HN6.out
    have K := keepHid (read_six (x := (some a, r)) (h := n) (ok := true) HG.out HL1.out HO1.out (fun _ => ⟨a, rfl, HI6.out⟩) (fun h => by cases h) HW6.out)
    obtain ⟨z0, z1, z2, z3, z4, z5, zf⟩ := blk6 HZ6.out
    go_wp2
    exact ⟨by rfl, .tuple #[hdV n, .bool true], by rw [results_cell_tmp rfl]; go_simp; rfl, by rw [HF.out]; exact K.out _ _ _ _ _ _⟩
set_option maxHeartbeats 800000 in
theorem piece_may (HA : Spec1 55 d (atomF grp)) : ∀ (g : Nat) (bs : List UInt8) (i : Nat) (w : World), Ps w g bs i d → i < bs.length → nx 42 (atomF grp (bs.drop i)).2 = false → nx 43 (atomF grp (bs.drop i)).2 = false → nx 63 (atomF grp (bs.drop i)).2 = true → (atomF grp (bs.drop i)).1 ≠ none → 
    Calls Try.prog 50 #[.pointer (some ⟨g, 0, none⟩)] w (ReadPost g bs d (pieceF grp (bs.drop i)) w) := by
  intro g bs i w h hlt b42 b43 b63 hsome
  obtain ⟨w1, hw1⟩ : ∃ w1, w.alloc (.cells #[.int .i64 0, .int .u64 0, .int .u64 0, .int .u64 0, .int .u64 0, .slice none 0 0] 30) = w1 := ⟨_, rfl⟩
  have HG := keepHid h.lt
  have HP1 : Hid (Ps w1 g bs i d) := keepHid (by rw [← hw1]; exact h.alloc _)
  have HZ1 := keepHid (node_new hw1)
  have HO1 : Hid (Only g w w1) := keepHid (by rw [← hw1]; exact (Only.refl w g).alloc _)
  have HL1 : Hid (w.heap.size < w1.heap.size) := keepHid (by rw [← hw1]; simp)
  have HLT := keepHid hlt
  have HAT := keepHid HA
  clear h hlt HA
  generalize hl : bs.drop i = l at *
  go_enter Try.func50, Try.ntmps50
  go_wp2_with fail
  refine (HAT.out g bs i w1 HP1.out HLT.out).mono ?_
  rintro e w2 ⟨n, ok, rfl, hok, hno, hw2⟩
  rw [hl] at hok hno hw2
  obtain ⟨w3, hw3⟩ : ∃ w3, w2.alloc (.cells #[.int .i64 n.k, .int .u64 (n.s.a.toNat : Int), .int .u64 (n.s.b.toNat : Int), .int .u64 (n.s.c.toNat : Int), .int .u64 (n.s.d.toNat : Int), .slice n.A n.n n.c] 30) = w3 := ⟨_, rfl⟩
  have HZ3 : Hid (Blk w3 w.heap.size 30 nd0) := keepHid (by rw [← hw3]; exact (HZ1.out.only hw2.only (by have := HG.out; intro e; injection e; omega)).alloc _)
  have HN3 : Hid (Blk w3 w2.heap.size 30 (hdC n)) := keepHid (by rw [← hw3]; exact Blk.new _ _ _)
  have HW3 : Hid (Went g bs d (atomF grp l).2 w1 w3) := keepHid (by
    rw [← hw3]
    obtain ⟨⟨j, hj, hp⟩, ho⟩ := hw2
    exact ⟨⟨j, hj, hp.alloc _⟩, ho.alloc _⟩)
  have hb23 : Below w2.heap.size w2 w3 := by rw [← hw3]; exact (Below.refl _ _).alloc (Nat.le_refl _) _
  have HOK : Hid (ok = true → ∃ r, (atomF grp l).1 = some r ∧ IsRe w3 w1.heap.size n r) := keepHid (fun h => by obtain ⟨r, e1, e2⟩ := hok h; exact ⟨r, e1, e2.below hb23⟩)
  have HNO := keepHid hno
  have HGL : Hid (g < w2.heap.size) := keepHid (by have := HG.out; have := HL1.out; have := hw2.only.size; omega)
  have HZL : Hid (w.heap.size < w2.heap.size) := keepHid (by have := HL1.out; have := hw2.only.size; omega)
  clear hok hno hw2 hb23 hl hw1 HAT HP1 HZ1 HLT
  unfold hdV
  cases ok
  · exact (hsome (HNO.out rfl)).elim
  · clear hsome
    obtain ⟨a, ha, hia⟩ := HOK.out rfl
    have HI3 := keepHid hia
    have HA := keepHid ha
    obtain ⟨r, hr⟩ : ∃ r, (atomF grp l).2 = r := ⟨_, rfl⟩
    have HAE : Hid (atomF grp l = (some a, r)) := keepHid (by rw [← ha, ← hr])
    rw [hr] at HW3 b42 b43 b63
    clear ha hia hr HOK HNO
    have HF : Hid (pieceF grp l = (some (.alt a .nil), r.tail)) := keepHid (by unfold pieceF; rw [HAE.out]; simp [b42, b43, b63])
    obtain ⟨⟨j3, hj3, hp3⟩, ho3⟩ := HW3.out
    have HT := keepHid (take_any hp3 42 42 rfl)
    unfold TakePost at HT
    rw [hj3, b42] at HT
    simp only [Bool.false_eq_true, if_false] at HT
    have HO3 := keepHid ho3
    clear hj3 hp3 ho3
    go_wp2_with fail
    refine HT.out.mono ?_
    rintro e w4 ⟨rfl, hw4⟩
    have HW4 := keepHid (Went.far HO3.out hw4)
    have HZ4 := keepHid (HZ3.out.only hw4.only (by have := HG.out; intro e; injection e; omega))
    have HN4 := keepHid (HN3.out.only hw4.only (by have := HGL.out; intro e; injection e; omega))
    have HI4 := keepHid (HI3.out.only hw4.only (by have := HG.out; have := HL1.out; omega))
    clear hw4 HT
    obtain ⟨⟨j4, hj4, hp4⟩, ho4⟩ := HW4.out
    have HT := keepHid (take_any hp4 43 43 rfl)
    unfold TakePost at HT
    rw [hj4, b43] at HT
    simp only [Bool.false_eq_true, if_false] at HT
    have HO4 := keepHid ho4
    clear hj4 hp4 ho4
    go_wp2_with fail
    refine HT.out.mono ?_
    rintro e w5 ⟨rfl, hw5⟩
    have HW5 := keepHid (Went.far HO4.out hw5)
    have HZ5 := keepHid (HZ4.out.only hw5.only (by have := HG.out; intro e; injection e; omega))
    have HN5 := keepHid (HN4.out.only hw5.only (by have := HGL.out; intro e; injection e; omega))
    have HI5 := keepHid (HI4.out.only hw5.only (by have := HG.out; have := HL1.out; omega))
    clear hw5 HT
    obtain ⟨⟨j5, hj5, hp5⟩, ho5⟩ := HW5.out
    have HT := keepHid (take_any hp5 63 63 rfl)
    unfold TakePost at HT
    rw [hj5, b63] at HT
    simp only [if_true] at HT
    have HO5 := keepHid ho5
    clear hj5 hp5 ho5
    go_wp2_with fail
    refine HT.out.mono ?_
    rintro e w6 ⟨rfl, hw6⟩
    have HW6 := keepHid (Went.far HO5.out hw6)
    have HZ6 := keepHid (HZ5.out.only hw6.only (by have := HG.out; intro e; injection e; omega))
    have HN6 := keepHid (HN5.out.only hw6.only (by have := HGL.out; intro e; injection e; omega))
    have HI6 := keepHid (HI5.out.only hw6.only (by have := HG.out; have := HL1.out; omega))
    clear hw6 HT
    obtain ⟨n0, n1, n2, n3, n4, n5, nf⟩ := blk6 HN6.out
    go_wp2_with fail
    refine (pair_any 3 n hd0 w6).mono ?_
    rintro e w7 ⟨gP, rfl, hgP, hat, hat6, hb7⟩
    have HZ7 := keepHid (HZ6.out.below hb7 HZ6.out.lt)
    have hwent : Went g bs d r.tail w1 w7 := by
      obtain ⟨⟨j, hj, hp⟩, ho⟩ := HW6.out
      exact ⟨⟨j, hj, hp.below hb7 hp.lt⟩, ho.trans (Only.of_below hb7)⟩
    have hsz : w1.heap.size ≤ w6.heap.size := HW6.out.only.size
    have K := keepHid (read_six (x := (some (.alt a .nil), r.tail)) (h := ⟨3, st0, some ⟨gP, 0, none⟩, 2, 2⟩) (ok := true) HG.out HL1.out HO1.out
      (fun _ => ⟨_, rfl, gP, 2, n, hd0, rfl, Nat.le_refl _, by unfold maxLen; omega, by omega, hat, hat6, HI6.out.below hb7, rfl⟩) (fun h => by cases h) hwent)
    clear hgP hat hat6 hb7 hwent hsz n0 n1 n2 n3 n4 n5 nf
    obtain ⟨z0, z1, z2, z3, z4, z5, zf⟩ := blk6 HZ7.out
    unfold hdV
    go_wp2
    exact ⟨by rfl, .tuple #[hdV ⟨3, st0, some ⟨gP, 0, none⟩, 2, 2⟩, .bool true], by rw [results_cell_tmp rfl]; go_simp; rfl, by rw [HF.out]; exact K.out _ _ _ _ _ _⟩
end
end Go.Proofs.Ytlmjijejgfhmmaa
