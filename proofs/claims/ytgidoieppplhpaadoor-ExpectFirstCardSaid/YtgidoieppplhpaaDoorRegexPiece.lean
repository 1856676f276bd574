/-
  The reader of patterns: a piece.
-/
import Derived.Test.YtgidoieppplhpaaDoorRegexAtom
import Derived.WalkKit
import Derived.OwnWalk
import Derived.ProofKit
import Derived.WalkLawsBesides
import Derived.IntWalk
import Derived.RegionTactic
import Derived.BigRegion
import Derived.ChangeAlike
import Derived.Deep.QuietTactic
import Derived.BigQuiet
import Derived.Deep.RegionHeld3
import Derived.Deep.DrawnRows
import Derived.Outline
import Derived.Deep.DeepCutAuto
namespace Go.Proofs.YtgidoieppplhpaaDoor
open Go.RowKit
set_option linter.unusedVariables false





section
variable {d : Nat} {grp : List UInt8 → R Re}
theorem ReadPost.of_eq {g d : Nat} {bs : List UInt8} {x y : R Re} {w w' : World} {e : Ending} (h : x = y) (p : ReadPost g bs d y w e w') : ReadPost g bs d x w e w' := by rw [h]; exact p
set_option maxHeartbeats 800000 in
theorem piece_no (HA : Spec1 62 d (atomF grp)) : ∀ (g : Nat) (bs : List UInt8) (i : Nat) (w : World), Ps w g bs i d → i < bs.length → (atomF grp (bs.drop i)).1 = none → 
    Calls Tryd.prog 59 #[.pointer (some ⟨g, 0, none⟩)] w (ReadPost g bs d (pieceF grp (bs.drop i)) w) := by
  intro g bs i w h hlt hnone
  obtain ⟨w1, hw1⟩ : ∃ w1, w.alloc (.cells #[.int .i64 0, .int .u64 0, .int .u64 0, .int .u64 0, .int .u64 0, .slice none 0 0] 32) = w1 := ⟨_, rfl⟩
  have HG := keepHid h.lt
  have HP1 : Hid (Ps w1 g bs i d) := keepHid (by rw [← hw1]; exact h.alloc _)
  have HZ1 := keepHid (node_new hw1)
  have HO1 : Hid (Only g w w1) := keepHid (by rw [← hw1]; exact (Only.refl w g).alloc _)
  have HL1 : Hid (w.heap.size < w1.heap.size) := keepHid (by rw [← hw1]; simp)
  have HLT := keepHid hlt
  have HAT := keepHid HA
  clear h hlt HA
  generalize hl : bs.drop i = l at *
  go_enter Tryd.func59, Tryd.ntmps59
  go_wp2_with fail
  refine (HAT.out g bs i w1 HP1.out HLT.out).mono ?_
  rintro e w2 ⟨n, ok, rfl, hok, hno, hw2⟩
  rw [hl] at hok hno hw2
  obtain ⟨w3, hw3⟩ : ∃ w3, w2.alloc (.cells #[.int .i64 n.k, .int .u64 (n.s.a.toNat : Int), .int .u64 (n.s.b.toNat : Int), .int .u64 (n.s.c.toNat : Int), .int .u64 (n.s.d.toNat : Int), .slice n.A n.n n.c] 32) = w3 := ⟨_, rfl⟩
  have HZ3 : Hid (Blk w3 w.heap.size 32 nd0) := keepHid (by rw [← hw3]; exact (HZ1.out.only hw2.only (by have := HG.out; intro e; injection e; omega)).alloc _)
  have HN3 : Hid (Blk w3 w2.heap.size 32 (hdC n)) := keepHid (by rw [← hw3]; exact Blk.new _ _ _)
  have HW3 : Hid (Went g bs d (atomF grp l).2 w1 w3) := keepHid (by
    rw [← hw3]
    obtain ⟨⟨j, hj, hp⟩, ho⟩ := hw2
    exact ⟨⟨j, hj, hp.alloc _⟩, ho.alloc _⟩)
  have hb23 : Below w2.heap.size w2 w3 := by rw [← hw3]; exact (Below.refl _ _).alloc (Nat.le_refl _) _
  have HOK : Hid (ok = true → ∃ r, (atomF grp l).1 = some r ∧ IsRe w3 w1.heap.size n r) := keepHid (fun h => by obtain ⟨r, e1, e2⟩ := hok h; exact ⟨r, e1, e2.below hb23⟩)
  have HNO := keepHid hno
  have HGL : Hid (g < w2.heap.size) := keepHid (by have := HG.out; have := HL1.out; have := hw2.only.size; omega)
  have HZL : Hid (w.heap.size < w2.heap.size) := keepHid (by have := HL1.out; have := hw2.only.size; omega)
  clear hok hno hw2 hb23 hl hw1 HAT HP1 HZ1 HLT
  unfold hdV
  cases ok
  · have HF : Hid (pieceF grp l = (none, (atomF grp l).2)) := keepHid (by
      have := HNO.out rfl
      unfold pieceF
      generalize atomF grp l = x at *
      obtain ⟨o, r⟩ := x
      simp only at this
      subst this; rfl)
    have K := keepHid (read_six (x := (none, (atomF grp l).2)) (h := hd0) (ok := false) HG.out HL1.out HO1.out (fun h => by cases h) (fun _ => rfl) HW3.out)
    clear HOK HNO hnone
    obtain ⟨z0, z1, z2, z3, z4, z5, zf⟩ := blk6 HZ3.out
    go_wp2
    exact ⟨by rfl, .tuple #[hdV hd0, .bool false], by rw [results_cell_tmp rfl]; go_simp; rfl, by rw [HF.out]; exact K.out _ _ _ _ _ _⟩
  · exfalso
    obtain ⟨r, h1, _⟩ := HOK.out rfl
    rw [hnone] at h1
    cases h1
set_option maxHeartbeats 800000 in
theorem piece_star (HA : Spec1 62 d (atomF grp)) : ∀ (g : Nat) (bs : List UInt8) (i : Nat) (w : World), Ps w g bs i d → i < bs.length → nx 42 (atomF grp (bs.drop i)).2 = true → (atomF grp (bs.drop i)).1 ≠ none → 
    Calls Tryd.prog 59 #[.pointer (some ⟨g, 0, none⟩)] w (ReadPost g bs d (pieceF grp (bs.drop i)) w) := by
  intro g bs i w h hlt b42 hsome
  obtain ⟨w1, hw1⟩ : ∃ w1, w.alloc (.cells #[.int .i64 0, .int .u64 0, .int .u64 0, .int .u64 0, .int .u64 0, .slice none 0 0] 32) = w1 := ⟨_, rfl⟩
  have HG := keepHid h.lt
  have HP1 : Hid (Ps w1 g bs i d) := keepHid (by rw [← hw1]; exact h.alloc _)
  have HZ1 := keepHid (node_new hw1)
  have HO1 : Hid (Only g w w1) := keepHid (by rw [← hw1]; exact (Only.refl w g).alloc _)
  have HL1 : Hid (w.heap.size < w1.heap.size) := keepHid (by rw [← hw1]; simp)
  have HLT := keepHid hlt
  have HAT := keepHid HA
  clear h hlt HA
  generalize hl : bs.drop i = l at *
  go_enter Tryd.func59, Tryd.ntmps59
  go_wp2_with fail
  refine (HAT.out g bs i w1 HP1.out HLT.out).mono ?_
  rintro e w2 ⟨n, ok, rfl, hok, hno, hw2⟩
  rw [hl] at hok hno hw2
  obtain ⟨w3, hw3⟩ : ∃ w3, w2.alloc (.cells #[.int .i64 n.k, .int .u64 (n.s.a.toNat : Int), .int .u64 (n.s.b.toNat : Int), .int .u64 (n.s.c.toNat : Int), .int .u64 (n.s.d.toNat : Int), .slice n.A n.n n.c] 32) = w3 := ⟨_, rfl⟩
  have HZ3 : Hid (Blk w3 w.heap.size 32 nd0) := keepHid (by rw [← hw3]; exact (HZ1.out.only hw2.only (by have := HG.out; intro e; injection e; omega)).alloc _)
  have HN3 : Hid (Blk w3 w2.heap.size 32 (hdC n)) := keepHid (by rw [← hw3]; exact Blk.new _ _ _)
  have HW3 : Hid (Went g bs d (atomF grp l).2 w1 w3) := keepHid (by
    rw [← hw3]
    obtain ⟨⟨j, hj, hp⟩, ho⟩ := hw2
    exact ⟨⟨j, hj, hp.alloc _⟩, ho.alloc _⟩)
  have hb23 : Below w2.heap.size w2 w3 := by rw [← hw3]; exact (Below.refl _ _).alloc (Nat.le_refl _) _
  have HOK : Hid (ok = true → ∃ r, (atomF grp l).1 = some r ∧ IsRe w3 w1.heap.size n r) := keepHid (fun h => by obtain ⟨r, e1, e2⟩ := hok h; exact ⟨r, e1, e2.below hb23⟩)
  have HNO := keepHid hno
  have HGL : Hid (g < w2.heap.size) := keepHid (by have := HG.out; have := HL1.out; have := hw2.only.size; omega)
  have HZL : Hid (w.heap.size < w2.heap.size) := keepHid (by have := HL1.out; have := hw2.only.size; omega)
  clear hok hno hw2 hb23 hl hw1 HAT HP1 HZ1 HLT
  unfold hdV
  cases ok
  · exact (hsome (HNO.out rfl)).elim
  · clear hsome
    obtain ⟨a, ha, hia⟩ := HOK.out rfl
    have HI3 := keepHid hia
    have HA := keepHid ha
    obtain ⟨r, hr⟩ : ∃ r, (atomF grp l).2 = r := ⟨_, rfl⟩
    have HAE : Hid (atomF grp l = (some a, r)) := keepHid (by rw [← ha, ← hr])
    rw [hr] at HW3 b42
    clear ha hia hr HOK HNO
    have HF : Hid (pieceF grp l = (some (.star a), r.tail)) := keepHid (by unfold pieceF; rw [HAE.out]; simp [b42])
    obtain ⟨⟨j3, hj3, hp3⟩, ho3⟩ := HW3.out
    have HT := keepHid (take_any hp3 42 42 rfl)
    unfold TakePost at HT
    rw [hj3, b42] at HT
    simp only [if_true] at HT
    have HO3 := keepHid ho3
    clear hj3 hp3 ho3
    go_wp2_with fail
    refine HT.out.mono ?_
    rintro e w4 ⟨rfl, hw4⟩
    have HW4 := keepHid (Went.far HO3.out hw4)
    have HZ4 := keepHid (HZ3.out.only hw4.only (by have := HG.out; intro e; injection e; omega))
    have HN4 := keepHid (HN3.out.only hw4.only (by have := HGL.out; intro e; injection e; omega))
    have HI4 := keepHid (HI3.out.only hw4.only (by have := HG.out; have := HL1.out; omega))
    clear hw4 HT
    obtain ⟨n0, n1, n2, n3, n4, n5, nf⟩ := blk6 HN4.out
    go_wp2_with fail
    refine (star_any n w4).mono ?_
    rintro e w5 ⟨gS, rfl, hgS, hat, hb5⟩
    have HZ5 := keepHid (HZ4.out.below hb5 HZ4.out.lt)
    have hwent : Went g bs d r.tail w1 w5 := by
      obtain ⟨⟨j, hj, hp⟩, ho⟩ := HW4.out
      exact ⟨⟨j, hj, hp.below hb5 hp.lt⟩, ho.trans (Only.of_below hb5)⟩
    have hsz : w1.heap.size ≤ w4.heap.size := HW4.out.only.size
    have K := keepHid (read_six (x := (some (.star a), r.tail)) (h := ⟨4, st0, some ⟨gS, 0, none⟩, 1, 1⟩) (ok := true) HG.out HL1.out HO1.out
      (fun _ => ⟨_, rfl, gS, 1, n, rfl, Nat.le_refl _, by unfold maxLen; omega, by omega, hat, HI4.out.below hb5⟩) (fun h => by cases h) hwent)
    clear hgS hat hb5 hwent hsz n0 n1 n2 n3 n4 n5 nf
    obtain ⟨z0, z1, z2, z3, z4, z5, zf⟩ := blk6 HZ5.out
    unfold hdV
    go_wp2
    exact ⟨by rfl, .tuple #[hdV ⟨4, st0, some ⟨gS, 0, none⟩, 1, 1⟩, .bool true], by rw [results_cell_tmp rfl]; go_simp; rfl, by rw [HF.out]; exact K.out _ _ _ _ _ _⟩
set_option maxHeartbeats 800000 in
theorem piece_bare (HA : Spec1 62 d (atomF grp)) : ∀ (g : Nat) (bs : List UInt8) (i : Nat) (w : World), Ps w g bs i d → i < bs.length → nx 42 (atomF grp (bs.drop i)).2 = false → nx 43 (atomF grp (bs.drop i)).2 = false → nx 63 (atomF grp (bs.drop i)).2 = false → (atomF grp (bs.drop i)).1 ≠ none → 
    Calls Tryd.prog 59 #[.pointer (some ⟨g, 0, none⟩)] w (ReadPost g bs d (pieceF grp (bs.drop i)) w) := by
  intro g bs i w h hlt b42 b43 b63 hsome
  obtain ⟨w1, hw1⟩ : ∃ w1, w.alloc (.cells #[.int .i64 0, .int .u64 0, .int .u64 0, .int .u64 0, .int .u64 0, .slice none 0 0] 32) = w1 := ⟨_, rfl⟩
  have HG := keepHid h.lt
  have HP1 : Hid (Ps w1 g bs i d) := keepHid (by rw [← hw1]; exact h.alloc _)
  have HZ1 := keepHid (node_new hw1)
  have HO1 : Hid (Only g w w1) := keepHid (by rw [← hw1]; exact (Only.refl w g).alloc _)
  have HL1 : Hid (w.heap.size < w1.heap.size) := keepHid (by rw [← hw1]; simp)
  have HLT := keepHid hlt
  have HAT := keepHid HA
  clear h hlt HA
  generalize hl : bs.drop i = l at *
  go_enter Tryd.func59, Tryd.ntmps59
  go_wp2_with fail
  refine (HAT.out g bs i w1 HP1.out HLT.out).mono ?_
  rintro e w2 ⟨n, ok, rfl, hok, hno, hw2⟩
  rw [hl] at hok hno hw2
  obtain ⟨w3, hw3⟩ : ∃ w3, w2.alloc (.cells #[.int .i64 n.k, .int .u64 (n.s.a.toNat : Int), .int .u64 (n.s.b.toNat : Int), .int .u64 (n.s.c.toNat : Int), .int .u64 (n.s.d.toNat : Int), .slice n.A n.n n.c] 32) = w3 := ⟨_, rfl⟩
  have HZ3 : Hid (Blk w3 w.heap.size 32 nd0) := keepHid (by rw [← hw3]; exact (HZ1.out.only hw2.only (by have := HG.out; intro e; injection e; omega)).alloc _)
  have HN3 : Hid (Blk w3 w2.heap.size 32 (hdC n)) := keepHid (by rw [← hw3]; exact Blk.new _ _ _)
  have HW3 : Hid (Went g bs d (atomF grp l).2 w1 w3) := keepHid (by
    rw [← hw3]
    obtain ⟨⟨j, hj, hp⟩, ho⟩ := hw2
    exact ⟨⟨j, hj, hp.alloc _⟩, ho.alloc _⟩)
  have hb23 : Below w2.heap.size w2 w3 := by rw [← hw3]; exact (Below.refl _ _).alloc (Nat.le_refl _) _
  have HOK : Hid (ok = true → ∃ r, (atomF grp l).1 = some r ∧ IsRe w3 w1.heap.size n r) := keepHid (fun h => by obtain ⟨r, e1, e2⟩ := hok h; exact ⟨r, e1, e2.below hb23⟩)
  have HNO := keepHid hno
  have HGL : Hid (g < w2.heap.size) := keepHid (by have := HG.out; have := HL1.out; have := hw2.only.size; omega)
  have HZL : Hid (w.heap.size < w2.heap.size) := keepHid (by have := HL1.out; have := hw2.only.size; omega)
  clear hok hno hw2 hb23 hl hw1 HAT HP1 HZ1 HLT
  unfold hdV
  cases ok
  · exact (hsome (HNO.out rfl)).elim
  · clear hsome
    obtain ⟨a, ha, hia⟩ := HOK.out rfl
    have HI3 := keepHid hia
    have HA := keepHid ha
    obtain ⟨r, hr⟩ : ∃ r, (atomF grp l).2 = r := ⟨_, rfl⟩
    have HAE : Hid (atomF grp l = (some a, r)) := keepHid (by rw [← ha, ← hr])
    rw [hr] at HW3 b42 b43 b63
    clear ha hia hr HOK HNO
    have HF : Hid (pieceF grp l = (some a, r)) := keepHid (by unfold pieceF; rw [HAE.out]; simp [b42, b43, b63])
    obtain ⟨⟨j3, hj3, hp3⟩, ho3⟩ := HW3.out
    have HT := keepHid (take_any hp3 42 42 rfl)
    unfold TakePost at HT
    rw [hj3, b42] at HT
    simp only [Bool.false_eq_true, if_false] at HT
    have HO3 := keepHid ho3
    clear hj3 hp3 ho3
    go_wp2_with fail
    refine HT.out.mono ?_
    rintro e w4 ⟨rfl, hw4⟩
    have HW4 := keepHid (Went.far HO3.out hw4)
    have HZ4 := keepHid (HZ3.out.only hw4.only (by have := HG.out; intro e; injection e; omega))
    have HN4 := keepHid (HN3.out.only hw4.only (by have := HGL.out; intro e; injection e; omega))
    have HI4 := keepHid (HI3.out.only hw4.only (by have := HG.out; have := HL1.out; omega))
    clear hw4 HT
    obtain ⟨⟨j4, hj4, hp4⟩, ho4⟩ := HW4.out
    have HT := keepHid (take_any hp4 43 43 rfl)
    unfold TakePost at HT
    rw [hj4, b43] at HT
    simp only [Bool.false_eq_true, if_false] at HT
    have HO4 := keepHid ho4
    clear hj4 hp4 ho4
    go_wp2_with fail
    refine HT.out.mono ?_
    rintro e w5 ⟨rfl, hw5⟩
    have HW5 := keepHid (Went.far HO4.out hw5)
    have HZ5 := keepHid (HZ4.out.only hw5.only (by have := HG.out; intro e; injection e; omega))
    have HN5 := keepHid (HN4.out.only hw5.only (by have := HGL.out; intro e; injection e; omega))
    have HI5 := keepHid (HI4.out.only hw5.only (by have := HG.out; have := HL1.out; omega))
    clear hw5 HT
    obtain ⟨⟨j5, hj5, hp5⟩, ho5⟩ := HW5.out
    have HT := keepHid (take_any hp5 63 63 rfl)
    unfold TakePost at HT
    rw [hj5, b63] at HT
    simp only [Bool.false_eq_true, if_false] at HT
    have HO5 := keepHid ho5
    clear hj5 hp5 ho5
    go_wp2_with fail
    refine HT.out.mono ?_
    rintro e w6 ⟨rfl, hw6⟩
    have HW6 := keepHid (Went.far HO5.out hw6)
    have HZ6 := keepHid (HZ5.out.only hw6.only (by have := HG.out; intro e; injection e; omega))
    have HN6 := keepHid (HN5.out.only hw6.only (by have := HGL.out; intro e; injection e; omega))
    have HI6 := keepHid (HI5.out.only hw6.only (by have := HG.out; have := HL1.out; omega))
    clear hw6 HT
    obtain ⟨n0, n1, n2, n3, n4, n5, nf⟩ := blk6 HN6.out
    have K := keepHid (read_six (x := (some a, r)) (h := n) (ok := true) HG.out HL1.out HO1.out (fun _ => ⟨a, rfl, HI6.out⟩) (fun h => by cases h) HW6.out)
    obtain ⟨z0, z1, z2, z3, z4, z5, zf⟩ := blk6 HZ6.out
    go_wp2
    exact ⟨by rfl, .tuple #[hdV n, .bool true], by rw [results_cell_tmp rfl]; go_simp; rfl, by rw [HF.out]; exact K.out _ _ _ _ _ _⟩
set_option maxHeartbeats 800000 in
theorem piece_may (HA : Spec1 62 d (atomF grp)) : ∀ (g : Nat) (bs : List UInt8) (i : Nat) (w : World), Ps w g bs i d → i < bs.length → nx 42 (atomF grp (bs.drop i)).2 = false → nx 43 (atomF grp (bs.drop i)).2 = false → nx 63 (atomF grp (bs.drop i)).2 = true → (atomF grp (bs.drop i)).1 ≠ none → 
    Calls Tryd.prog 59 #[.pointer (some ⟨g, 0, none⟩)] w (ReadPost g bs d (pieceF grp (bs.drop i)) w) := by
  intro g bs i w h hlt b42 b43 b63 hsome
  obtain ⟨w1, hw1⟩ : ∃ w1, w.alloc (.cells #[.int .i64 0, .int .u64 0, .int .u64 0, .int .u64 0, .int .u64 0, .slice none 0 0] 32) = w1 := ⟨_, rfl⟩
  have HG := keepHid h.lt
  have HP1 : Hid (Ps w1 g bs i d) := keepHid (by rw [← hw1]; exact h.alloc _)
  have HZ1 := keepHid (node_new hw1)
  have HO1 : Hid (Only g w w1) := keepHid (by rw [← hw1]; exact (Only.refl w g).alloc _)
  have HL1 : Hid (w.heap.size < w1.heap.size) := keepHid (by rw [← hw1]; simp)
  have HLT := keepHid hlt
  have HAT := keepHid HA
  clear h hlt HA
  generalize hl : bs.drop i = l at *
  go_enter Tryd.func59, Tryd.ntmps59
  go_wp2_with fail
  refine (HAT.out g bs i w1 HP1.out HLT.out).mono ?_
  rintro e w2 ⟨n, ok, rfl, hok, hno, hw2⟩
  rw [hl] at hok hno hw2
  obtain ⟨w3, hw3⟩ : ∃ w3, w2.alloc (.cells #[.int .i64 n.k, .int .u64 (n.s.a.toNat : Int), .int .u64 (n.s.b.toNat : Int), .int .u64 (n.s.c.toNat : Int), .int .u64 (n.s.d.toNat : Int), .slice n.A n.n n.c] 32) = w3 := ⟨_, rfl⟩
  have HZ3 : Hid (Blk w3 w.heap.size 32 nd0) := keepHid (by rw [← hw3]; exact (HZ1.out.only hw2.only (by have := HG.out; intro e; injection e; omega)).alloc _)
  have HN3 : Hid (Blk w3 w2.heap.size 32 (hdC n)) := keepHid (by rw [← hw3]; exact Blk.new _ _ _)
  have HW3 : Hid (Went g bs d (atomF grp l).2 w1 w3) := keepHid (by
    rw [← hw3]
    obtain ⟨⟨j, hj, hp⟩, ho⟩ := hw2
    exact ⟨⟨j, hj, hp.alloc _⟩, ho.alloc _⟩)
  have hb23 : Below w2.heap.size w2 w3 := by rw [← hw3]; exact (Below.refl _ _).alloc (Nat.le_refl _) _
  have HOK : Hid (ok = true → ∃ r, (atomF grp l).1 = some r ∧ IsRe w3 w1.heap.size n r) := keepHid (fun h => by obtain ⟨r, e1, e2⟩ := hok h; exact ⟨r, e1, e2.below hb23⟩)
  have HNO := keepHid hno
  have HGL : Hid (g < w2.heap.size) := keepHid (by have := HG.out; have := HL1.out; have := hw2.only.size; omega)
  have HZL : Hid (w.heap.size < w2.heap.size) := keepHid (by have := HL1.out; have := hw2.only.size; omega)
  clear hok hno hw2 hb23 hl hw1 HAT HP1 HZ1 HLT
  unfold hdV
  cases ok
  · exact (hsome (HNO.out rfl)).elim
  · clear hsome
    obtain ⟨a, ha, hia⟩ := HOK.out rfl
    have HI3 := keepHid hia
    have HA := keepHid ha
    obtain ⟨r, hr⟩ : ∃ r, (atomF grp l).2 = r := ⟨_, rfl⟩
    have HAE : Hid (atomF grp l = (some a, r)) := keepHid (by rw [← ha, ← hr])
    rw [hr] at HW3 b42 b43 b63
    clear ha hia hr HOK HNO
    have HF : Hid (pieceF grp l = (some (.alt a .nil), r.tail)) := keepHid (by unfold pieceF; rw [HAE.out]; simp [b42, b43, b63])
    obtain ⟨⟨j3, hj3, hp3⟩, ho3⟩ := HW3.out
    have HT := keepHid (take_any hp3 42 42 rfl)
    unfold TakePost at HT
    rw [hj3, b42] at HT
    simp only [Bool.false_eq_true, if_false] at HT
    have HO3 := keepHid ho3
    clear hj3 hp3 ho3
    go_wp2_with fail
    refine HT.out.mono ?_
    rintro e w4 ⟨rfl, hw4⟩
    have HW4 := keepHid (Went.far HO3.out hw4)
    have HZ4 := keepHid (HZ3.out.only hw4.only (by have := HG.out; intro e; injection e; omega))
    have HN4 := keepHid (HN3.out.only hw4.only (by have := HGL.out; intro e; injection e; omega))
    have HI4 := keepHid (HI3.out.only hw4.only (by have := HG.out; have := HL1.out; omega))
    clear hw4 HT
    obtain ⟨⟨j4, hj4, hp4⟩, ho4⟩ := HW4.out
    have HT := keepHid (take_any hp4 43 43 rfl)
    unfold TakePost at HT
    rw [hj4, b43] at HT
    simp only [Bool.false_eq_true, if_false] at HT
    have HO4 := keepHid ho4
    clear hj4 hp4 ho4
    go_wp2_with fail
    refine HT.out.mono ?_
    rintro e w5 ⟨rfl, hw5⟩
    have HW5 := keepHid (Went.far HO4.out hw5)
    have HZ5 := keepHid (HZ4.out.only hw5.only (by have := HG.out; intro e; injection e; omega))
    have HN5 := keepHid (HN4.out.only hw5.only (by have := HGL.out; intro e; injection e; omega))
    have HI5 := keepHid (HI4.out.only hw5.only (by have := HG.out; have := HL1.out; omega))
    clear hw5 HT
    obtain ⟨⟨j5, hj5, hp5⟩, ho5⟩ := HW5.out
    have HT := keepHid (take_any hp5 63 63 rfl)
    unfold TakePost at HT
    rw [hj5, b63] at HT
    simp only [if_true] at HT
    have HO5 := keepHid ho5
    clear hj5 hp5 ho5
    go_wp2_with fail
    refine HT.out.mono ?_
    rintro e w6 ⟨rfl, hw6⟩
    have HW6 := keepHid (Went.far HO5.out hw6)
    have HZ6 := keepHid (HZ5.out.only hw6.only (by have := HG.out; intro e; injection e; omega))
    have HN6 := keepHid (HN5.out.only hw6.only (by have := HGL.out; intro e; injection e; omega))
    have HI6 := keepHid (HI5.out.only hw6.only (by have := HG.out; have := HL1.out; omega))
    clear hw6 HT
    obtain ⟨n0, n1, n2, n3, n4, n5, nf⟩ := blk6 HN6.out
    go_wp2_with fail
    refine (pair_any 3 n hd0 w6).mono ?_
    rintro e w7 ⟨gP, rfl, hgP, hat, hat6, hb7⟩
    have HZ7 := keepHid (HZ6.out.below hb7 HZ6.out.lt)
    have hwent : Went g bs d r.tail w1 w7 := by
      obtain ⟨⟨j, hj, hp⟩, ho⟩ := HW6.out
      exact ⟨⟨j, hj, hp.below hb7 hp.lt⟩, ho.trans (Only.of_below hb7)⟩
    have hsz : w1.heap.size ≤ w6.heap.size := HW6.out.only.size
    have K := keepHid (read_six (x := (some (.alt a .nil), r.tail)) (h := ⟨3, st0, some ⟨gP, 0, none⟩, 2, 2⟩) (ok := true) HG.out HL1.out HO1.out
      (fun _ => ⟨_, rfl, gP, 2, n, hd0, rfl, Nat.le_refl _, by unfold maxLen; omega, by omega, hat, hat6, HI6.out.below hb7, rfl⟩) (fun h => by cases h) hwent)
    clear hgP hat hat6 hb7 hwent hsz n0 n1 n2 n3 n4 n5 nf
    obtain ⟨z0, z1, z2, z3, z4, z5, zf⟩ := blk6 HZ7.out
    unfold hdV
    go_wp2
    exact ⟨by rfl, .tuple #[hdV ⟨3, st0, some ⟨gP, 0, none⟩, 2, 2⟩, .bool true], by rw [results_cell_tmp rfl]; go_simp; rfl, by rw [HF.out]; exact K.out _ _ _ _ _ _⟩
end






section
variable {d : Nat} {grp : List UInt8 → R Re}
set_option maxHeartbeats 800000 in
theorem piece_plus (HA : Spec1 62 d (atomF grp)) : ∀ (g : Nat) (bs : List UInt8) (i : Nat) (w : World), Ps w g bs i d → i < bs.length → nx 42 (atomF grp (bs.drop i)).2 = false → nx 43 (atomF grp (bs.drop i)).2 = true → (atomF grp (bs.drop i)).1 ≠ none → 
    Calls Tryd.prog 59 #[.pointer (some ⟨g, 0, none⟩)] w (ReadPost g bs d (pieceF grp (bs.drop i)) w) := by
  intro g bs i w h hlt b42 b43 hsome
  obtain ⟨w1, hw1⟩ : ∃ w1, w.alloc (.cells #[.int .i64 0, .int .u64 0, .int .u64 0, .int .u64 0, .int .u64 0, .slice none 0 0] 32) = w1 := ⟨_, rfl⟩
  have HG := keepHid h.lt
  have HP1 : Hid (Ps w1 g bs i d) := keepHid (by rw [← hw1]; exact h.alloc _)
  have HZ1 := keepHid (node_new hw1)
  have HO1 : Hid (Only g w w1) := keepHid (by rw [← hw1]; exact (Only.refl w g).alloc _)
  have HL1 : Hid (w.heap.size < w1.heap.size) := keepHid (by rw [← hw1]; simp)
  have HLT := keepHid hlt
  have HAT := keepHid HA
  clear h hlt HA
  generalize hl : bs.drop i = l at *
  go_enter Tryd.func59, Tryd.ntmps59
  go_wp2_with fail
  refine (HAT.out g bs i w1 HP1.out HLT.out).mono ?_
  rintro e w2 ⟨n, ok, rfl, hok, hno, hw2⟩
  rw [hl] at hok hno hw2
  obtain ⟨w3, hw3⟩ : ∃ w3, w2.alloc (.cells #[.int .i64 n.k, .int .u64 (n.s.a.toNat : Int), .int .u64 (n.s.b.toNat : Int), .int .u64 (n.s.c.toNat : Int), .int .u64 (n.s.d.toNat : Int), .slice n.A n.n n.c] 32) = w3 := ⟨_, rfl⟩
  have HZ3 : Hid (Blk w3 w.heap.size 32 nd0) := keepHid (by rw [← hw3]; exact (HZ1.out.only hw2.only (by have := HG.out; intro e; injection e; omega)).alloc _)
  have HN3 : Hid (Blk w3 w2.heap.size 32 (hdC n)) := keepHid (by rw [← hw3]; exact Blk.new _ _ _)
  have HW3 : Hid (Went g bs d (atomF grp l).2 w1 w3) := keepHid (by
    rw [← hw3]
    obtain ⟨⟨j, hj, hp⟩, ho⟩ := hw2
    exact ⟨⟨j, hj, hp.alloc _⟩, ho.alloc _⟩)
  have hb23 : Below w2.heap.size w2 w3 := by rw [← hw3]; exact (Below.refl _ _).alloc (Nat.le_refl _) _
  have HOK : Hid (ok = true → ∃ r, (atomF grp l).1 = some r ∧ IsRe w3 w1.heap.size n r) := keepHid (fun h => by obtain ⟨r, e1, e2⟩ := hok h; exact ⟨r, e1, e2.below hb23⟩)
  have HNO := keepHid hno
  have HGL : Hid (g < w2.heap.size) := keepHid (by have := HG.out; have := HL1.out; have := hw2.only.size; omega)
  have HZL : Hid (w.heap.size < w2.heap.size) := keepHid (by have := HL1.out; have := hw2.only.size; omega)
  clear hok hno hw2 hb23 hl hw1 HAT HP1 HZ1 HLT
  unfold hdV
  cases ok
  · exact (hsome (HNO.out rfl)).elim
  · clear hsome
    obtain ⟨a, ha, hia⟩ := HOK.out rfl
    have HI3 := keepHid hia
    have HA := keepHid ha
    obtain ⟨r, hr⟩ : ∃ r, (atomF grp l).2 = r := ⟨_, rfl⟩
    have HAE : Hid (atomF grp l = (some a, r)) := keepHid (by rw [← ha, ← hr])
    rw [hr] at HW3 b42 b43
    clear ha hia hr HOK HNO
    have HF : Hid (pieceF grp l = (some (.thn a (.star a)), r.tail)) := keepHid (by unfold pieceF; rw [HAE.out]; simp [b42, b43])
    obtain ⟨⟨j3, hj3, hp3⟩, ho3⟩ := HW3.out
    have HT := keepHid (take_any hp3 42 42 rfl)
    unfold TakePost at HT
    rw [hj3, b42] at HT
    simp only [Bool.false_eq_true, if_false] at HT
    have HO3 := keepHid ho3
    clear hj3 hp3 ho3
    go_wp2_with fail
    refine HT.out.mono ?_
    rintro e w4 ⟨rfl, hw4⟩
    have HW4 := keepHid (Went.far HO3.out hw4)
    have HZ4 := keepHid (HZ3.out.only hw4.only (by have := HG.out; intro e; injection e; omega))
    have HN4 := keepHid (HN3.out.only hw4.only (by have := HGL.out; intro e; injection e; omega))
    have HI4 := keepHid (HI3.out.only hw4.only (by have := HG.out; have := HL1.out; omega))
    clear hw4 HT
    obtain ⟨⟨j4, hj4, hp4⟩, ho4⟩ := HW4.out
    have HT := keepHid (take_any hp4 43 43 rfl)
    unfold TakePost at HT
    rw [hj4, b43] at HT
    simp only [if_true] at HT
    have HO4 := keepHid ho4
    clear hj4 hp4 ho4
    go_wp2_with fail
    refine HT.out.mono ?_
    rintro e w5 ⟨rfl, hw5⟩
    have HW5 := keepHid (Went.far HO4.out hw5)
    have HZ5 := keepHid (HZ4.out.only hw5.only (by have := HG.out; intro e; injection e; omega))
    have HN5 := keepHid (HN4.out.only hw5.only (by have := HGL.out; intro e; injection e; omega))
    have HI5 := keepHid (HI4.out.only hw5.only (by have := HG.out; have := HL1.out; omega))
    clear hw5 HT
    obtain ⟨n0, n1, n2, n3, n4, n5, nf⟩ := blk6 HN5.out
    go_wp2_with fail
    clear b42 b43 HW3 HW4 HO3 HO4 HZ3 HZ4 HN3 HN4 HI3 HI4 HA HAE hw3
    have hsz5 : w1.heap.size ≤ w5.heap.size := HW5.out.only.size
    have HID : Hid (IsRe (w5.drewN 1) w1.heap.size n a) := keepHid (HI5.out.below (below_drewN (Below.refl _ _) 1))
    go_region_with
      (first
        | (go_at_call 64
           refine (clone_any a n w1.heap.size (w5.drewN 1) HID.out).mono ?_
           rintro e wC ⟨n', rfl, hin', hbC⟩
           have HBC := keepHid hbC
           have HIC := keepHid hin'
           have HNC := keepHid ((HN5.out.drewN 1).below hbC (HN5.out.drewN 1).lt)
           clear hbC hin'
           obtain ⟨m0, m1, m2, m3, m4, m5, mf⟩ := blk6 HNC.out)
        | (go_at_call 63
           refine (star_any n' wC).mono ?_
           rintro e wS ⟨gS, rfl, hgS, hatS, hbS⟩
           have HBS := keepHid hbS
           have HAS := keepHid hatS
           have HGS := keepHid hgS
           have HNS := keepHid (HNC.out.below hbS HNC.out.lt)
           clear hbS hatS hgS
           obtain ⟨p0, p1, p2, p3, p4, p5, pf⟩ := blk6 HNS.out)
        | (go_at_call 51
           refine (pair_any 2 n ⟨4, st0, some ⟨gS, 0, none⟩, 1, 1⟩ wS).mono ?_
           rintro e wP ⟨gP, rfl, hgP, hat0, hat6, hbP⟩
           have HBP := keepHid (HBC.out.trans ((HBS.out.mono HBC.out.size).trans (hbP.mono (Nat.le_trans HBC.out.size HBS.out.size))))
           have HA0 := keepHid hat0
           have HA6 := keepHid hat6
           have HGP := keepHid hgP
           have HASP := keepHid (HAS.out.keep (hbP.block gS HAS.out.lt))
           have HISP := keepHid ((HIC.out.below HBS.out).below hbP)
           have HZP := keepHid ((HZ5.out.drewN 1).below HBP.out (HZ5.out.drewN 1).lt)
           clear hbP hat0 hat6 hgP
           obtain ⟨z0, z1, z2, z3, z4, z5, zf⟩ := blk6 HZP.out
           unfold hdV))
    all_goals
      have hwent : Went g bs d r.tail w1 wP := by
        obtain ⟨⟨j, hj, hp⟩, ho⟩ := HW5.out
        exact ⟨⟨j, hj, (hp.drewN 1).below HBP.out (hp.drewN 1).lt⟩, (ho.drewN 1).trans (Only.of_below HBP.out)⟩
      have hs1 : (w5.drewN 1).heap.size = w5.heap.size := rfl
      have hs2 := HBC.out.size
      have hs3 := HBS.out.size
      have h1 := HGS.out
      have h2 := HGP.out
      have K := keepHid (read_six (x := (some (.thn a (.star a)), r.tail)) (h := ⟨2, st0, some ⟨gP, 0, none⟩, 2, 2⟩) (ok := true) HG.out HL1.out HO1.out
        (fun _ => ⟨_, rfl, gP, 2, n, ⟨4, st0, some ⟨gS, 0, none⟩, 1, 1⟩, rfl, Nat.le_refl _, by unfold maxLen; omega, by omega, HA0.out, HA6.out, HID.out.below HBP.out,
          gS, 1, n', rfl, Nat.le_refl _, by unfold maxLen; omega, by omega, HASP.out, HISP.out.low (by omega)⟩) (fun h => by cases h) hwent)
      clear hwent hs1 hs2 hs3 h1 h2
      try unfold hdV
      go_wp2
      exact ⟨by rfl, .tuple #[hdV ⟨2, st0, some ⟨gP, 0, none⟩, 2, 2⟩, .bool true], by rw [results_cell_tmp rfl]; go_simp; rfl, by rw [HF.out]; exact K.out _ _ _ _ _ _⟩

theorem piece_any (HA : Spec1 62 d (atomF grp)) : Spec1 59 d (pieceF grp) := by
  intro g bs i w h hlt
  by_cases hs : (atomF grp (bs.drop i)).1 = none
  · exact piece_no HA g bs i w h hlt hs
  · cases b42 : nx 42 (atomF grp (bs.drop i)).2
    · cases b43 : nx 43 (atomF grp (bs.drop i)).2
      · cases b63 : nx 63 (atomF grp (bs.drop i)).2
        · exact piece_bare HA g bs i w h hlt b42 b43 b63 hs
        · exact piece_may HA g bs i w h hlt b42 b43 b63 hs
      · exact piece_plus HA g bs i w h hlt b42 b43 hs
    · exact piece_star HA g bs i w h hlt b42 hs
end






theorem Blk.far6 {w : World} {b x : Nat} {t : TypeId} {cs : Array Value} (h : Blk w x t cs) (hb : x ≠ b) (u0 u1 u2 u3 u4 u5 : Value) :
    Blk ((((((w.setCell ⟨b, 0, none⟩ u0).setCell ⟨b, 1, none⟩ u1).setCell ⟨b, 2, none⟩ u2).setCell ⟨b, 3, none⟩ u3).setCell ⟨b, 4, none⟩ u4).setCell ⟨b, 5, none⟩ u5) x t cs :=
  (((((h.far hb _).far hb _).far hb _).far hb _).far hb _).far hb _
theorem Blk.six {w : World} {b : Nat} {t : TypeId} {a0 a1 a2 a3 a4 a5 : Value} (h : Blk w b t #[a0, a1, a2, a3, a4, a5]) (u0 u1 u2 u3 u4 u5 : Value) :
    Blk ((((((w.setCell ⟨b, 0, none⟩ u0).setCell ⟨b, 1, none⟩ u1).setCell ⟨b, 2, none⟩ u2).setCell ⟨b, 3, none⟩ u3).setCell ⟨b, 4, none⟩ u4).setCell ⟨b, 5, none⟩ u5) b t #[u0, u1, u2, u3, u4, u5] :=
  (((((h.put 0 u0).put 1 u1).put 2 u2).put 3 u3).put 4 u4).put 5 u5
/-- A node's variable in the loop: what has been read so far is the tree r. -/
def SoFar (g : Nat) (bs : List UInt8) (d : Nat) (F : R Re) (go : Nat → Re → List UInt8 → R Re) (w : World) (v : Nat) (okv : Value) (wr : World) : Prop :=
  ∃ (j : Nat) (n : Hd) (ok : Bool), okv = .bool ok ∧ Ps wr g bs j d ∧ Blk wr v 32 (hdC n) ∧ Blk wr w.heap.size 32 nd0 ∧ Only g w wr ∧
    (ok = true → ∃ f r, F = go f r (bs.drop j) ∧ (bs.drop j).length < f ∧ IsS wr (fun b => w.heap.size + 1 ≤ b ∧ b ≠ v) n r) ∧ (ok = false → F = (none, bs.drop j))
section
variable {d : Nat} {grp : List UInt8 → R Re}
theorem seqL_end {f : Nat} {r : Re} {l : List UInt8} (hf : l.length < f) (he : endsF l = true) : seqL grp f r l = (some r, l) := by
  obtain ⟨k, rfl⟩ : ∃ k, f = k + 1 := ⟨f - 1, by omega⟩
  unfold seqL; rw [if_pos he]
theorem seqL_go {f : Nat} {r : Re} {l : List UInt8} (hf : l.length < f) (he : endsF l = false) : seqL grp f r l = match pieceF grp l with | (none, q) => (none, q) | (some m, q) => seqL grp (f - 1) (.thn r m) q := by
  obtain ⟨k, rfl⟩ : ∃ k, f = k + 1 := ⟨f - 1, by omega⟩
  rw [seqL, if_neg (by simp [he])]
  generalize pieceF grp l = z
  obtain ⟨o, q⟩ := z
  cases o <;> rfl
def seqM (w : World) (g n : Nat) (v : Value) : Nat := match v with | .bool true => leftN g n w + 1 | _ => 0
set_option maxHeartbeats 2000000 in
theorem seq_any (HL : Less grp) (HP : Spec1 59 d (pieceF grp)) : Spec 49 d (seqF grp) := by
  intro g bs i w h
  obtain ⟨w1, hw1⟩ : ∃ w1, w.alloc (.cells #[.int .i64 0, .int .u64 0, .int .u64 0, .int .u64 0, .int .u64 0, .slice none 0 0] 32) = w1 := ⟨_, rfl⟩
  have HG := keepHid h.lt
  have HP1 : Hid (Ps w1 g bs i d) := keepHid (by rw [← hw1]; exact h.alloc _)
  have HZ1 := keepHid (node_new hw1)
  have HO1 : Hid (Only g w w1) := keepHid (by rw [← hw1]; exact (Only.refl w g).alloc _)
  have HL1 : Hid (w1.heap.size = w.heap.size + 1) := keepHid (by rw [← hw1]; simp)
  have HPC := keepHid HP
  have HE1 := keepHid (ends_any HP1.out)
  have HLE := keepHid h.le
  have HMX := keepHid h.max
  clear h HP
  cases he : endsF (bs.drop i)
  · have HNE : Hid (i < bs.length) := keepHid (by
      rcases Nat.lt_or_ge i bs.length with h1 | h1
      · exact h1
      · rw [List.drop_eq_nil_of_le h1] at he; cases he)
    have HS : Hid (seqF grp (bs.drop i) = match pieceF grp (bs.drop i) with | (none, r) => (none, r) | (some n, r) => seqL grp 65 n r) := keepHid (by
      unfold seqF
      rw [if_neg (by simp [he])]
      generalize pieceF grp (bs.drop i) = z
      obtain ⟨o, q⟩ := z
      cases o <;> rfl)
    rw [he] at HE1
    clear he
    go_enter Tryd.func49, Tryd.ntmps49
    go_wp2_with fail
    refine HE1.out.mono ?_
    rintro e w' ⟨rfl, m, rfl⟩
    have HP2 := keepHid (HP1.out.drewN m)
    have HZ2 := keepHid (HZ1.out.drewN m)
    have HO2 := keepHid (HO1.out.drewN m)
    have HL2 : Hid ((w1.drewN m).heap.size = w.heap.size + 1) := keepHid HL1.out
    generalize w1.drewN m = w2 at *
    clear HP1 HZ1 HO1 HL1 HE1 hw1
    go_wp2_with fail
    refine (HPC.out g bs i w2 HP2.out HNE.out).mono ?_
    rintro e w3 ⟨n, ok, rfl, hok, hno, ⟨j3, hj3, hp3⟩, ho3⟩
    have hzl : w.heap.size < w2.heap.size := HZ2.out.lt
    obtain ⟨w4, hw4⟩ : ∃ w4, w3.alloc (.cells #[.int .i64 n.k, .int .u64 (n.s.a.toNat : Int), .int .u64 (n.s.b.toNat : Int), .int .u64 (n.s.c.toNat : Int), .int .u64 (n.s.d.toNat : Int), .slice n.A n.n n.c] 32) = w4 := ⟨_, rfl⟩
    have hsz3 : w2.heap.size ≤ w3.heap.size := ho3.size
    have hb34 : Below w3.heap.size w3 w4 := by rw [← hw4]; exact (Below.refl _ _).alloc (Nat.le_refl _) _
    have HR : Hid (SoFar g bs d (seqF grp (bs.drop i)) (seqL grp) w w3.heap.size (.bool ok) w4) := keepHid (by
      refine ⟨j3, n, ok, rfl, by rw [← hw4]; exact hp3.alloc _, by rw [← hw4]; exact Blk.new _ _ _, ?_, by rw [← hw4]; exact (HO2.out.trans ho3).alloc _, ?_, ?_⟩
      · rw [← hw4]; exact (HZ2.out.only ho3 (by have := HG.out; intro e; injection e; omega)).alloc _
      · intro hk
        obtain ⟨r, e1, e2⟩ := hok hk
        refine ⟨65, r, ?_, ?_, (e2.mono fun b hb hl => ⟨by have := HL2.out; omega, by omega⟩).below hb34⟩
        · rw [HS.out, hj3]
          generalize pieceF grp (bs.drop i) = z at *
          obtain ⟨o, q⟩ := z
          simp only at e1
          subst e1; rfl
        · have := HMX.out; simp; omega
      · intro hk
        have e1 := hno hk
        rw [HS.out, hj3]
        generalize pieceF grp (bs.drop i) = z at *
        obtain ⟨o, q⟩ := z
        simp only at e1
        subst e1; rfl)
    have HV : Hid (w.heap.size < w3.heap.size) := keepHid (by omega)
    clear hok hno hj3 hp3 ho3 hzl hsz3 hb34
    unfold hdV
    go_wp2_with fail
    try rw [hw4]
    clear hw4
    generalize w3.heap.size = v at *
    go_loopw [5] (fun okv wr => SoFar g bs d (seqF grp (bs.drop i)) (seqL grp) w v okv wr) (fun okv wr => seqM wr g bs.length okv)
    case atStart => exact HR.out
    case round =>
      obtain ⟨j, n', ok', rfl, hp, hn, hz, ho, hok, hno⟩ := hrel
      have HPR := keepHid hp
      have HNR := keepHid hn
      have HZR := keepHid hz
      have HOR := keepHid ho
      have HOKR := keepHid hok
      have HNOR := keepHid hno
      clear hp hn hz ho hok hno HR
      cases ok'
      · have HF := keepHid (HNOR.out rfl)
        obtain ⟨n0, n1, n2, n3, n4, n5, nf⟩ := blk6 HNR.out
        obtain ⟨z0, z1, z2, z3, z4, z5, zf⟩ := blk6 HZR.out
        have hw : Went g bs d (bs.drop j) w wr := ⟨⟨j, rfl, HPR.out⟩, HOR.out⟩
        have K := keepHid (hw.six (b := w.heap.size) (by have := HG.out; omega) (Nat.le_refl _))
        clear HOKR HNOR hw
        go_wp2
        exact ⟨by rfl, .tuple #[hdV n', .bool false], by rw [results_cell_tmp rfl]; go_simp; rfl, n', false, rfl, (fun h => by cases h), (fun _ => by rw [HF.out]), by rw [HF.out]; exact K.out _ _ _ _ _ _⟩
      · obtain ⟨f, r, hf, hlf, hir⟩ := HOKR.out rfl
        have HF := keepHid hf
        have HLF := keepHid hlf
        have HIR := keepHid hir
        have HER := keepHid (ends_any HPR.out)
        clear HOKR HNOR hf hlf hir
        cases he : endsF (bs.drop j)
        · have HNJ : Hid (j < bs.length) := keepHid (by
            rcases Nat.lt_or_ge j bs.length with h1 | h1
            · exact h1
            · rw [List.drop_eq_nil_of_le h1] at he; cases he)
          have HGO := keepHid (seqL_go (grp := grp) (r := r) HLF.out he)
          have HNE := keepHid (ends_ne he)
          rw [he] at HER
          clear he
          go_wp2_with fail
          refine HER.out.mono ?_
          rintro e w' ⟨rfl, m5, rfl⟩
          obtain ⟨wd, hwd⟩ : ∃ wd, wr.drewN m5 = wd := ⟨_, rfl⟩
          have hpd : Ps wd g bs j d := by rw [← hwd]; exact HPR.out.drewN m5
          have hnd : Blk wd v 32 (hdC n') := by rw [← hwd]; exact HNR.out.drewN m5
          have hzd : Blk wd w.heap.size 32 nd0 := by rw [← hwd]; exact HZR.out.drewN m5
          have hod : Only g w wd := by rw [← hwd]; exact HOR.out.drewN m5
          have hid : IsS wd (fun b => w.heap.size + 1 ≤ b ∧ b ≠ v) n' r := by rw [← hwd]; exact HIR.out.below (below_drewN (Below.refl _ _) m5)
          rw [hwd]
          obtain ⟨w5, hw5⟩ : ∃ w5, wd.alloc (.cells #[.int .i64 0, .int .u64 0, .int .u64 0, .int .u64 0, .int .u64 0, .slice none 0 0] 32) = w5 := ⟨_, rfl⟩
          have HP5 : Hid (Ps w5 g bs j d) := keepHid (by rw [← hw5]; exact hpd.alloc _)
          have HN5 : Hid (Blk w5 v 32 (hdC n')) := keepHid (by rw [← hw5]; exact hnd.alloc _)
          have HZ5 : Hid (Blk w5 w.heap.size 32 nd0) := keepHid (by rw [← hw5]; exact hzd.alloc _)
          have HO5 : Hid (Only g w w5) := keepHid (by rw [← hw5]; exact hod.alloc _)
          have HI5 : Hid (IsS w5 (fun b => w.heap.size + 1 ≤ b ∧ b ≠ v ∧ b ≠ wd.heap.size) n' r) := keepHid (by rw [← hw5]; exact (hid.mono fun b hb hl => ⟨hb.1, hb.2, by omega⟩).below ((Below.refl _ _).alloc (Nat.le_refl _) _))
          have HM5 : Hid (Blk w5 wd.heap.size 32 nd0) := keepHid (by rw [← hw5]; exact Blk.new _ _ _)
          have HVD : Hid (v < wd.heap.size) := keepHid hnd.lt
          have HS5 : Hid (w5.heap.size = wd.heap.size + 1) := keepHid (by rw [← hw5]; simp)
          obtain ⟨q, hq⟩ : ∃ q, wd.heap.size = q := ⟨_, rfl⟩
          rw [hq] at HM5 HVD HS5 HI5
          clear hpd hnd hzd hod hid HER hwd
          go_wp2_with (go_at_call 59; fail)
          try rw [hq]
          clear hq hw5
          refine (HPC.out g bs j w5 HP5.out HNJ.out).mono ?_
          rintro e w6 ⟨mm, ok2, rfl, hok2, hno2, ⟨j6, hj6, hp6⟩, ho6⟩
          have hgg := HG.out
          have hvd := HVD.out
          have hv := HV.out
          have hs5 := HS5.out
          have HN6 := keepHid (HN5.out.only ho6 (by intro e; injection e; omega))
          have HZ6 := keepHid (HZ5.out.only ho6 (by intro e; injection e; omega))
          have HM6 := keepHid (HM5.out.only ho6 (by intro e; injection e; omega))
          have HO6 := keepHid (HO5.out.trans ho6)
          have HP6 := keepHid hp6
          have HJ6 := keepHid hj6
          have HI6 : Hid (IsS w6 (fun b => w.heap.size + 1 ≤ b ∧ b ≠ v ∧ b ≠ q) n' r) := keepHid (HI5.out.keep fun b hb hl => ho6.block b hl (by intro e; injection e; omega))
          have HOK2 : Hid (ok2 = true → ∃ rm, (pieceF grp (bs.drop j)).1 = some rm ∧ IsS w6 (fun b => w.heap.size + 1 ≤ b ∧ b ≠ v ∧ b ≠ q) mm rm) := keepHid (fun h => by
            obtain ⟨rm, e1, e2⟩ := hok2 h
            exact ⟨rm, e1, e2.mono fun b hb _ => by omega⟩)
          have HNO2 := keepHid hno2
          have HS6 : Hid (w5.heap.size ≤ w6.heap.size) := keepHid ho6.size
          clear hp6 ho6 hj6 hok2 hno2
          obtain ⟨n0, n1, n2, n3, n4, n5, nf⟩ := blk6 HN6.out
          obtain ⟨m0, m1, m2, m3, m4, m5', mf⟩ := blk6 HM6.out
          unfold hdV
          go_wp2_with (go_at_call 51; fail)
          obtain ⟨w7, hw7⟩ : ∃ w7, (((((w6.setCell ⟨q, 0, none⟩ (.int .i64 mm.k)).setCell ⟨q, 1, none⟩ (.int .u64 (mm.s.a.toNat : Int))).setCell ⟨q, 2, none⟩ (.int .u64 (mm.s.b.toNat : Int))).setCell ⟨q, 3, none⟩ (.int .u64 (mm.s.c.toNat : Int))).setCell ⟨q, 4, none⟩ (.int .u64 (mm.s.d.toNat : Int))).setCell ⟨q, 5, none⟩ (.slice mm.A mm.n mm.c) = w7 := ⟨_, rfl⟩
          have HP7 : Hid (Ps w7 g bs j6 d) := keepHid (by rw [← hw7]; exact HP6.out.far6 (by omega) _ _ _ _ _ _)
          have HO7 : Hid (Only g w w7) := keepHid (by rw [← hw7]; exact HO6.out.six (by omega) _ _ _ _ _ _)
          have HN7 : Hid (Blk w7 v 32 (hdC n')) := keepHid (by rw [← hw7]; exact HN6.out.far6 (by omega) _ _ _ _ _ _)
          have HZ7 : Hid (Blk w7 w.heap.size 32 nd0) := keepHid (by rw [← hw7]; exact HZ6.out.far6 (by omega) _ _ _ _ _ _)
          have HI7 : Hid (IsS w7 (fun b => w.heap.size + 1 ≤ b ∧ b ≠ v ∧ b ≠ q) n' r) := keepHid (by rw [← hw7]; exact HI6.out.keep fun b hb _ => six_far hb.2.2)
          have HOK7 : Hid (ok2 = true → ∃ rm, (pieceF grp (bs.drop j)).1 = some rm ∧ IsS w7 (fun b => w.heap.size + 1 ≤ b ∧ b ≠ v ∧ b ≠ q) mm rm) := keepHid (fun h => by
            obtain ⟨rm, e1, e2⟩ := HOK2.out h
            rw [← hw7]
            exact ⟨rm, e1, e2.keep fun b hb _ => six_far hb.2.2⟩)
          have HS7 : Hid (w5.heap.size ≤ w7.heap.size) := keepHid (by rw [← hw7]; have := HS6.out; simpa using this)
          rw [hw7]
          clear hw7 n0 n1 n2 n3 n4 n5 nf m0 m1 m2 m3 m4 m5' mf
          refine (pair_any 2 n' mm w7).mono ?_
          rintro e w8 ⟨gP, rfl, hgP, hat0, hat6, hb8⟩
          have HP8 := keepHid (HP7.out.below hb8 HP7.out.lt)
          have HO8 := keepHid (HO7.out.trans (Only.of_below (g := g) hb8))
          have HN8 := keepHid (HN7.out.below hb8 HN7.out.lt)
          have HZ8 := keepHid (HZ7.out.below hb8 HZ7.out.lt)
          have HI8 := keepHid (HI7.out.below hb8)
          have HOK8 : Hid (ok2 = true → ∃ rm, (pieceF grp (bs.drop j)).1 = some rm ∧ IsS w8 (fun b => w.heap.size + 1 ≤ b ∧ b ≠ v) (⟨2, st0, some ⟨gP, 0, none⟩, 2, 2⟩ : Hd) (.thn r rm)) := keepHid (fun h => by
            obtain ⟨rm, e1, e2⟩ := HOK7.out h
            have hs7 := HS7.out
            exact ⟨rm, e1, gP, 2, n', mm, rfl, Nat.le_refl _, by unfold maxLen; omega, ⟨by omega, by omega⟩, hat0, hat6, HI8.out.mono fun b hb _ => ⟨hb.1, hb.2.1⟩, (e2.below hb8).mono fun b hb _ => ⟨hb.1, hb.2.1⟩⟩)
          clear hgP hat0 hat6 hb8
          obtain ⟨n0, n1, n2, n3, n4, n5, nf⟩ := blk6 HN8.out
          unfold hdV
          go_wp2
          go_roundw
          case rel =>
            refine ⟨j6, ⟨2, st0, some ⟨gP, 0, none⟩, 2, 2⟩, ok2, rfl, HP8.out.far6 (by omega) _ _ _ _ _ _, HN8.out.six _ _ _ _ _ _, HZ8.out.far6 (by omega) _ _ _ _ _ _, HO8.out.six (by omega) _ _ _ _ _ _, ?_, ?_⟩
            · intro hk
              obtain ⟨rm, e1, e2⟩ := HOK8.out hk
              refine ⟨f - 1, .thn r rm, ?_, ?_, e2.keep fun b hb _ => six_far hb.2⟩
              · rw [HF.out, HGO.out, HJ6.out]
                generalize pieceF grp (bs.drop j) = z at *
                obtain ⟨o, y⟩ := z
                simp only at e1
                subst e1; rfl
              · have h1 := HLF.out
                have h2 := pieceF_lt HL HNE.out (show pieceF grp (bs.drop j) = (some rm, (pieceF grp (bs.drop j)).2) by rw [← e1])
                rw [HJ6.out]
                omega
            · intro hk
              have e1 := HNO2.out hk
              rw [HF.out, HGO.out, HJ6.out]
              generalize pieceF grp (bs.drop j) = z at *
              obtain ⟨o, y⟩ := z
              simp only at e1
              subst e1; rfl
          case measure =>
            cases ok2
            · show 0 < leftN g bs.length wr + 1
              omega
            · obtain ⟨rm, e1, e2⟩ := HOK8.out rfl
              have h2 := pieceF_lt HL HNE.out (show pieceF grp (bs.drop j) = (some rm, (pieceF grp (bs.drop j)).2) by rw [← e1])
              show leftN g bs.length _ + 1 < leftN g bs.length wr + 1
              rw [leftN_of (HP8.out.far6 (b := v) (by omega) _ _ _ _ _ _), leftN_of HPR.out, HJ6.out]
              omega
        · have HEND := keepHid (seqL_end (grp := grp) (r := r) HLF.out he)
          rw [he] at HER
          clear he
          go_wp2_with fail
          refine HER.out.mono ?_
          rintro e w' ⟨rfl, m5, rfl⟩
          have HPE := keepHid (HPR.out.drewN m5)
          have HOE := keepHid (HOR.out.drewN m5)
          have HNE := keepHid (HNR.out.drewN m5)
          have HZE := keepHid (HZR.out.drewN m5)
          have HIE : Hid (IsS (wr.drewN m5) (fun b => w.heap.size + 1 ≤ b ∧ b ≠ v) n' r) := keepHid (HIR.out.below (below_drewN (Below.refl _ _) m5))
          generalize wr.drewN m5 = we at *
          obtain ⟨n0, n1, n2, n3, n4, n5, nf⟩ := blk6 HNE.out
          obtain ⟨z0, z1, z2, z3, z4, z5, zf⟩ := blk6 HZE.out
          have hw : Went g bs d (bs.drop j) w we := ⟨⟨j, rfl, HPE.out⟩, HOE.out⟩
          have K := keepHid (hw.six (b := w.heap.size) (by have := HG.out; omega) (Nat.le_refl _))
          clear hw HER
          go_wp2
          exact ⟨by rfl, .tuple #[hdV n', .bool true], by rw [results_cell_tmp rfl]; go_simp; rfl, n', true, rfl, (fun _ => ⟨r, by rw [HF.out, HEND.out], (HIE.out.keep fun b hb _ => six_far (by omega)).mono fun b hb _ => by omega⟩), (fun h => by cases h), by rw [HF.out, HEND.out]; exact K.out _ _ _ _ _ _⟩
  · have HF : Hid (seqF grp (bs.drop i) = (some .nil, bs.drop i)) := keepHid (by unfold seqF; rw [if_pos he])
    rw [he] at HE1
    clear he
    go_enter Tryd.func49, Tryd.ntmps49
    go_wp2_with fail
    refine HE1.out.mono ?_
    rintro e w' ⟨rfl, m, rfl⟩
    have HP2 := keepHid (HP1.out.drewN m)
    have HZ2 := keepHid (HZ1.out.drewN m)
    have HO2 := keepHid (HO1.out.drewN m)
    generalize w1.drewN m = w2 at *
    obtain ⟨z0, z1, z2, z3, z4, z5, zf⟩ := blk6 HZ2.out
    have hw : Went g bs d (bs.drop i) w w2 := ⟨⟨i, rfl, HP2.out⟩, HO2.out⟩
    have K := keepHid (hw.six (b := w.heap.size) (by have := HG.out; omega) (Nat.le_refl _))
    clear hw HE1 hw1
    go_wp2
    exact ⟨by rfl, .tuple #[hdV hd0, .bool true], by rw [results_cell_tmp rfl]; go_simp; rfl, hd0, true, rfl, (fun _ => ⟨.nil, by rw [HF.out], rfl⟩), (fun h => by cases h), by rw [HF.out]; exact K.out _ _ _ _ _ _⟩
end







section
variable {d : Nat} {grp : List UInt8 → R Re}
theorem altL_end {f : Nat} {r : Re} {l : List UInt8} (hf : l.length < f) (he : nx 124 l = false) : altL grp f r l = (some r, l) := by
  obtain ⟨k, rfl⟩ : ∃ k, f = k + 1 := ⟨f - 1, by omega⟩
  unfold altL; rw [if_neg (by simp [he])]
theorem altL_go {f : Nat} {r : Re} {l : List UInt8} (hf : l.length < f) (he : nx 124 l = true) : altL grp f r l = match seqF grp l.tail with | (none, q) => (none, q) | (some m, q) => altL grp (f - 1) (.alt r m) q := by
  obtain ⟨k, rfl⟩ : ∃ k, f = k + 1 := ⟨f - 1, by omega⟩
  rw [altL, if_pos he]
  generalize seqF grp l.tail = z
  obtain ⟨o, q⟩ := z
  cases o <;> rfl
set_option maxHeartbeats 2000000 in
theorem alt_any (HL : Less grp) (HP : Spec 49 d (seqF grp)) : Spec 27 d (altG grp) := by
  intro g bs i w h
  obtain ⟨w2, hw2⟩ : ∃ w2, w.alloc (.cells #[.int .i64 0, .int .u64 0, .int .u64 0, .int .u64 0, .int .u64 0, .slice none 0 0] 32) = w2 := ⟨_, rfl⟩
  have HG := keepHid h.lt
  have HP2 : Hid (Ps w2 g bs i d) := keepHid (by rw [← hw2]; exact h.alloc _)
  have HZ2 := keepHid (node_new hw2)
  have HO2 : Hid (Only g w w2) := keepHid (by rw [← hw2]; exact (Only.refl w g).alloc _)
  have HL2 : Hid (w2.heap.size = w.heap.size + 1) := keepHid (by rw [← hw2]; simp)
  have HPC := keepHid HP
  have HMX := keepHid h.max
  clear h HP
  have HS : Hid (altG grp (bs.drop i) = match seqF grp (bs.drop i) with | (none, r) => (none, r) | (some n, r) => altL grp 65 n r) := keepHid (by
    unfold altG
    generalize seqF grp (bs.drop i) = z
    obtain ⟨o, q⟩ := z
    cases o <;> rfl)
  go_enter Tryd.func27, Tryd.ntmps27
  go_wp2_with fail
  clear hw2
  refine (HPC.out g bs i w2 HP2.out).mono ?_
  rintro e w3 ⟨n, ok, rfl, hok, hno, ⟨j3, hj3, hp3⟩, ho3⟩
  have hzl : w.heap.size < w2.heap.size := HZ2.out.lt
  obtain ⟨w4, hw4⟩ : ∃ w4, w3.alloc (.cells #[.int .i64 n.k, .int .u64 (n.s.a.toNat : Int), .int .u64 (n.s.b.toNat : Int), .int .u64 (n.s.c.toNat : Int), .int .u64 (n.s.d.toNat : Int), .slice n.A n.n n.c] 32) = w4 := ⟨_, rfl⟩
  have hsz3 : w2.heap.size ≤ w3.heap.size := ho3.size
  have hb34 : Below w3.heap.size w3 w4 := by rw [← hw4]; exact (Below.refl _ _).alloc (Nat.le_refl _) _
  have HR : Hid (SoFar g bs d (altG grp (bs.drop i)) (altL grp) w w3.heap.size (.bool ok) w4) := keepHid (by
    refine ⟨j3, n, ok, rfl, by rw [← hw4]; exact hp3.alloc _, by rw [← hw4]; exact Blk.new _ _ _, ?_, by rw [← hw4]; exact (HO2.out.trans ho3).alloc _, ?_, ?_⟩
    · rw [← hw4]; exact (HZ2.out.only ho3 (by have := HG.out; intro e; injection e; omega)).alloc _
    · intro hk
      obtain ⟨r, e1, e2⟩ := hok hk
      refine ⟨65, r, ?_, ?_, (e2.mono fun b hb hl => ⟨by have := HL2.out; omega, by omega⟩).below hb34⟩
      · rw [HS.out, hj3]
        generalize seqF grp (bs.drop i) = z at *
        obtain ⟨o, q⟩ := z
        simp only at e1
        subst e1; rfl
      · have := HMX.out; simp; omega
    · intro hk
      have e1 := hno hk
      rw [HS.out, hj3]
      generalize seqF grp (bs.drop i) = z at *
      obtain ⟨o, q⟩ := z
      simp only at e1
      subst e1; rfl)
  have HV : Hid (w.heap.size < w3.heap.size) := keepHid (by omega)
  clear hok hno hj3 hp3 ho3 hzl hsz3 hb34
  unfold hdV
  go_wp2_with fail
  try rw [hw4]
  clear hw4
  generalize w3.heap.size = v at *
  go_loopw [5] (fun okv wr => SoFar g bs d (altG grp (bs.drop i)) (altL grp) w v okv wr) (fun okv wr => seqM wr g bs.length okv)
  case atStart => exact HR.out
  case round =>
    obtain ⟨j, n', ok', rfl, hp, hn, hz, ho, hok, hno⟩ := hrel
    have HPR := keepHid hp
    have HNR := keepHid hn
    have HZR := keepHid hz
    have HOR := keepHid ho
    have HOKR := keepHid hok
    have HNOR := keepHid hno
    clear hp hn hz ho hok hno HR
    cases ok'
    · have HF := keepHid (HNOR.out rfl)
      obtain ⟨n0, n1, n2, n3, n4, n5, nf⟩ := blk6 HNR.out
      obtain ⟨z0, z1, z2, z3, z4, z5, zf⟩ := blk6 HZR.out
      have hw : Went g bs d (bs.drop j) w wr := ⟨⟨j, rfl, HPR.out⟩, HOR.out⟩
      have K := keepHid (hw.six (b := w.heap.size) (by have := HG.out; omega) (Nat.le_refl _))
      clear HOKR HNOR hw
      go_wp2
      exact ⟨by rfl, .tuple #[hdV n', .bool false], by rw [results_cell_tmp rfl]; go_simp; rfl, n', false, rfl, (fun h => by cases h), (fun _ => by rw [HF.out]), by rw [HF.out]; exact K.out _ _ _ _ _ _⟩
    · obtain ⟨f, r, hf, hlf, hir⟩ := HOKR.out rfl
      have HF := keepHid hf
      have HLF := keepHid hlf
      have HIR := keepHid hir
      have HER := keepHid (take_any HPR.out 124 124 rfl)
      unfold TakePost at HER
      clear HOKR HNOR hf hlf hir
      cases he : nx 124 (bs.drop j)
      case true =>
        have HGO := keepHid (altL_go (grp := grp) (r := r) HLF.out he)
        have HNT := keepHid (nx_tail he)
        rw [he] at HER
        simp only [if_true] at HER
        clear he
        go_wp2_with fail
        refine HER.out.mono ?_
        rintro e wd ⟨rfl, ⟨jd, hjd, hpd⟩, hot⟩
        have hgg := HG.out
        have hv := HV.out
        have HJD := keepHid hjd
        have hnd := HNR.out.only hot (by intro e; injection e; omega)
        have hzd := HZR.out.only hot (by intro e; injection e; omega)
        have hod := HOR.out.trans hot
        have hid : IsS wd (fun b => w.heap.size + 1 ≤ b ∧ b ≠ v) n' r := HIR.out.keep fun b hb hl => hot.block b hl (by intro e; injection e; omega)
        obtain ⟨w5, hw5⟩ : ∃ w5, wd.alloc (.cells #[.int .i64 0, .int .u64 0, .int .u64 0, .int .u64 0, .int .u64 0, .slice none 0 0] 32) = w5 := ⟨_, rfl⟩
        have HP5 : Hid (Ps w5 g bs jd d) := keepHid (by rw [← hw5]; exact hpd.alloc _)
        have HN5 : Hid (Blk w5 v 32 (hdC n')) := keepHid (by rw [← hw5]; exact hnd.alloc _)
        have HZ5 : Hid (Blk w5 w.heap.size 32 nd0) := keepHid (by rw [← hw5]; exact hzd.alloc _)
        have HO5 : Hid (Only g w w5) := keepHid (by rw [← hw5]; exact hod.alloc _)
        have HI5 : Hid (IsS w5 (fun b => w.heap.size + 1 ≤ b ∧ b ≠ v ∧ b ≠ wd.heap.size) n' r) := keepHid (by rw [← hw5]; exact (hid.mono fun b hb hl => ⟨hb.1, hb.2, by omega⟩).below ((Below.refl _ _).alloc (Nat.le_refl _) _))
        have HM5 : Hid (Blk w5 wd.heap.size 32 nd0) := keepHid (by rw [← hw5]; exact Blk.new _ _ _)
        have HVD : Hid (v < wd.heap.size) := keepHid hnd.lt
        have HS5 : Hid (w5.heap.size = wd.heap.size + 1) := keepHid (by rw [← hw5]; simp)
        obtain ⟨q, hq⟩ : ∃ q, wd.heap.size = q := ⟨_, rfl⟩
        rw [hq] at HM5 HVD HS5 HI5
        clear hpd hnd hzd hod hid HER hot hjd
        go_wp2_with (go_at_call 49; fail)
        try rw [hq]
        clear hq hw5
        refine (HPC.out g bs jd w5 HP5.out).mono ?_
        rintro e w6 ⟨mm, ok2, rfl, hok2, hno2, ⟨j6, hj6, hp6⟩, ho6⟩
        rw [HJD.out] at hok2 hno2 hj6
        have hvd := HVD.out
        have hs5 := HS5.out
        have HN6 := keepHid (HN5.out.only ho6 (by intro e; injection e; omega))
        have HZ6 := keepHid (HZ5.out.only ho6 (by intro e; injection e; omega))
        have HM6 := keepHid (HM5.out.only ho6 (by intro e; injection e; omega))
        have HO6 := keepHid (HO5.out.trans ho6)
        have HP6 := keepHid hp6
        have HJ6 := keepHid hj6
        have HI6 : Hid (IsS w6 (fun b => w.heap.size + 1 ≤ b ∧ b ≠ v ∧ b ≠ q) n' r) := keepHid (HI5.out.keep fun b hb hl => ho6.block b hl (by intro e; injection e; omega))
        have HOK2 : Hid (ok2 = true → ∃ rm, (seqF grp (bs.drop j).tail).1 = some rm ∧ IsS w6 (fun b => w.heap.size + 1 ≤ b ∧ b ≠ v ∧ b ≠ q) mm rm) := keepHid (fun h => by
          obtain ⟨rm, e1, e2⟩ := hok2 h
          exact ⟨rm, e1, e2.mono fun b hb _ => by omega⟩)
        have HNO2 := keepHid hno2
        have HS6 : Hid (w5.heap.size ≤ w6.heap.size) := keepHid ho6.size
        clear hp6 ho6 hj6 hok2 hno2
        obtain ⟨n0, n1, n2, n3, n4, n5, nf⟩ := blk6 HN6.out
        obtain ⟨m0, m1, m2, m3, m4, m5', mf⟩ := blk6 HM6.out
        unfold hdV
        go_wp2_with (go_at_call 51; fail)
        obtain ⟨w7, hw7⟩ : ∃ w7, (((((w6.setCell ⟨q, 0, none⟩ (.int .i64 mm.k)).setCell ⟨q, 1, none⟩ (.int .u64 (mm.s.a.toNat : Int))).setCell ⟨q, 2, none⟩ (.int .u64 (mm.s.b.toNat : Int))).setCell ⟨q, 3, none⟩ (.int .u64 (mm.s.c.toNat : Int))).setCell ⟨q, 4, none⟩ (.int .u64 (mm.s.d.toNat : Int))).setCell ⟨q, 5, none⟩ (.slice mm.A mm.n mm.c) = w7 := ⟨_, rfl⟩
        have HP7 : Hid (Ps w7 g bs j6 d) := keepHid (by rw [← hw7]; exact HP6.out.far6 (by omega) _ _ _ _ _ _)
        have HO7 : Hid (Only g w w7) := keepHid (by rw [← hw7]; exact HO6.out.six (by omega) _ _ _ _ _ _)
        have HN7 : Hid (Blk w7 v 32 (hdC n')) := keepHid (by rw [← hw7]; exact HN6.out.far6 (by omega) _ _ _ _ _ _)
        have HZ7 : Hid (Blk w7 w.heap.size 32 nd0) := keepHid (by rw [← hw7]; exact HZ6.out.far6 (by omega) _ _ _ _ _ _)
        have HI7 : Hid (IsS w7 (fun b => w.heap.size + 1 ≤ b ∧ b ≠ v ∧ b ≠ q) n' r) := keepHid (by rw [← hw7]; exact HI6.out.keep fun b hb _ => six_far hb.2.2)
        have HOK7 : Hid (ok2 = true → ∃ rm, (seqF grp (bs.drop j).tail).1 = some rm ∧ IsS w7 (fun b => w.heap.size + 1 ≤ b ∧ b ≠ v ∧ b ≠ q) mm rm) := keepHid (fun h => by
          obtain ⟨rm, e1, e2⟩ := HOK2.out h
          rw [← hw7]
          exact ⟨rm, e1, e2.keep fun b hb _ => six_far hb.2.2⟩)
        have HS7 : Hid (w5.heap.size ≤ w7.heap.size) := keepHid (by rw [← hw7]; have := HS6.out; simpa using this)
        rw [hw7]
        clear hw7 n0 n1 n2 n3 n4 n5 nf m0 m1 m2 m3 m4 m5' mf
        refine (pair_any 3 n' mm w7).mono ?_
        rintro e w8 ⟨gP, rfl, hgP, hat0, hat6, hb8⟩
        have HP8 := keepHid (HP7.out.below hb8 HP7.out.lt)
        have HO8 := keepHid (HO7.out.trans (Only.of_below (g := g) hb8))
        have HN8 := keepHid (HN7.out.below hb8 HN7.out.lt)
        have HZ8 := keepHid (HZ7.out.below hb8 HZ7.out.lt)
        have HI8 := keepHid (HI7.out.below hb8)
        have HOK8 : Hid (ok2 = true → ∃ rm, (seqF grp (bs.drop j).tail).1 = some rm ∧ IsS w8 (fun b => w.heap.size + 1 ≤ b ∧ b ≠ v) (⟨3, st0, some ⟨gP, 0, none⟩, 2, 2⟩ : Hd) (.alt r rm)) := keepHid (fun h => by
          obtain ⟨rm, e1, e2⟩ := HOK7.out h
          have hs7 := HS7.out
          exact ⟨rm, e1, gP, 2, n', mm, rfl, Nat.le_refl _, by unfold maxLen; omega, ⟨by omega, by omega⟩, hat0, hat6, HI8.out.mono fun b hb _ => ⟨hb.1, hb.2.1⟩, (e2.below hb8).mono fun b hb _ => ⟨hb.1, hb.2.1⟩⟩)
        clear hgP hat0 hat6 hb8
        obtain ⟨n0, n1, n2, n3, n4, n5, nf⟩ := blk6 HN8.out
        unfold hdV
        go_wp2
        go_roundw
        case rel =>
          refine ⟨j6, ⟨3, st0, some ⟨gP, 0, none⟩, 2, 2⟩, ok2, rfl, HP8.out.far6 (by omega) _ _ _ _ _ _, HN8.out.six _ _ _ _ _ _, HZ8.out.far6 (by omega) _ _ _ _ _ _, HO8.out.six (by omega) _ _ _ _ _ _, ?_, ?_⟩
          · intro hk
            obtain ⟨rm, e1, e2⟩ := HOK8.out hk
            refine ⟨f - 1, .alt r rm, ?_, ?_, e2.keep fun b hb _ => six_far hb.2⟩
            · rw [HF.out, HGO.out, HJ6.out]
              generalize seqF grp (bs.drop j).tail = z at *
              obtain ⟨o, y⟩ := z
              simp only at e1
              subst e1; rfl
            · have h1 := HLF.out
              have h2 := seqF_le HL _ _ _ (show seqF grp (bs.drop j).tail = (some rm, (seqF grp (bs.drop j).tail).2) by rw [← e1])
              have h3 := HNT.out
              rw [HJ6.out]
              omega
          · intro hk
            have e1 := HNO2.out hk
            rw [HF.out, HGO.out, HJ6.out]
            generalize seqF grp (bs.drop j).tail = z at *
            obtain ⟨o, y⟩ := z
            simp only at e1
            subst e1; rfl
        case measure =>
          cases ok2
          · show 0 < leftN g bs.length wr + 1
            omega
          · obtain ⟨rm, e1, e2⟩ := HOK8.out rfl
            have h2 := seqF_le HL _ _ _ (show seqF grp (bs.drop j).tail = (some rm, (seqF grp (bs.drop j).tail).2) by rw [← e1])
            show leftN g bs.length _ + 1 < leftN g bs.length wr + 1
            have h3 := HNT.out
            rw [leftN_of (HP8.out.far6 (b := v) (by omega) _ _ _ _ _ _), leftN_of HPR.out, HJ6.out]
            omega
      case false =>
        have HEND := keepHid (altL_end (grp := grp) (r := r) HLF.out he)
        rw [he] at HER
        simp only [Bool.false_eq_true, if_false] at HER
        clear he
        go_wp2_with fail
        refine HER.out.mono ?_
        rintro e we ⟨rfl, ⟨jd, hjd, hpd⟩, hot⟩
        have hgg := HG.out
        have hv := HV.out
        have HOE := keepHid (HOR.out.trans hot)
        have HPE := keepHid hpd
        have HJD := keepHid hjd
        have HNE := keepHid (HNR.out.only hot (by intro e; injection e; omega))
        have HZE := keepHid (HZR.out.only hot (by intro e; injection e; omega))
        have HIE : Hid (IsS we (fun b => w.heap.size + 1 ≤ b ∧ b ≠ v) n' r) := keepHid (HIR.out.keep fun b hb hl => hot.block b hl (by intro e; injection e; omega))
        clear hjd hpd hot
        obtain ⟨n0, n1, n2, n3, n4, n5, nf⟩ := blk6 HNE.out
        obtain ⟨z0, z1, z2, z3, z4, z5, zf⟩ := blk6 HZE.out
        have hw : Went g bs d (bs.drop j) w we := ⟨⟨jd, HJD.out, HPE.out⟩, HOE.out⟩
        have K := keepHid (hw.six (b := w.heap.size) (by have := HG.out; omega) (Nat.le_refl _))
        clear hw HER
        go_wp2
        exact ⟨by rfl, .tuple #[hdV n', .bool true], by rw [results_cell_tmp rfl]; go_simp; rfl, n', true, rfl, (fun _ => ⟨r, by rw [HF.out, HEND.out], (HIE.out.keep fun b hb _ => six_far (by omega)).mono fun b hb _ => by omega⟩), (fun h => by cases h), by rw [HF.out, HEND.out]; exact K.out _ _ _ _ _ _⟩
end
end Go.Proofs.YtgidoieppplhpaaDoor
