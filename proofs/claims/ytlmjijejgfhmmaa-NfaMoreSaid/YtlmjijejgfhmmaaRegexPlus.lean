/-
  The reader of patterns: a piece that comes once or more.
-/
import Derived.Test.YtlmjijejgfhmmaaRegexPiece
import Derived.WalkKit
import Derived.OwnWalk
import Derived.ProofKit
import Derived.WalkLawsBesides
import Derived.IntWalk
import Derived.RegionTactic
import Derived.BigRegion
import Derived.ChangeAlike
import Derived.Deep.QuietTactic
import Derived.BigQuiet
import Derived.Deep.RegionHeld3
import Derived.Deep.DrawnRows
import Derived.Outline
import Derived.Deep.DeepCutAuto
namespace Go.Proofs.Ytlmjijejgfhmmaa
open Go.RowKit
set_option linter.unusedVariables false





section
variable {d : Nat} {grp : List UInt8 → R Re}
set_option maxHeartbeats 800000 in
theorem piece_plus (HA : Spec1 55 d (atomF grp)) : ∀ (g : Nat) (bs : List UInt8) (i : Nat) (w : World), Ps w g bs i d → i < bs.length → nx 42 (atomF grp (bs.drop i)).2 = false → nx 43 (atomF grp (bs.drop i)).2 = true → (atomF grp (bs.drop i)).1 ≠ none → 
    Calls Try.prog 50 #[.pointer (some ⟨g, 0, none⟩)] w (ReadPost g bs d (pieceF grp (bs.drop i)) w) := by
  intro g bs i w h hlt b42 b43 hsome
  obtain ⟨w1, hw1⟩ : ∃ w1, w.alloc (.cells #[.int .i64 0, .int .u64 0, .int .u64 0, .int .u64 0, .int .u64 0, .slice none 0 0] 30) = w1 := ⟨_, rfl⟩
  have HG := keepHid h.lt
  have HP1 : Hid (Ps w1 g bs i d) := keepHid (by rw [← hw1]; exact h.alloc _)
  have HZ1 := keepHid (node_new hw1)
  have HO1 : Hid (Only g w w1) := keepHid (by rw [← hw1]; exact (Only.refl w g).alloc _)
  have HL1 : Hid (w.heap.size < w1.heap.size) := keepHid (by rw [← hw1]; simp)
  have HLT := keepHid hlt
  have HAT := keepHid HA
  clear h hlt HA
  generalize hl : bs.drop i = l at *
  go_enter Try.func50, Try.ntmps50
  go_wp2_with fail
  refine (HAT.out g bs i w1 HP1.out HLT.out).mono ?_
  rintro e w2 ⟨n, ok, rfl, hok, hno, hw2⟩
  rw [hl] at hok hno hw2
  obtain ⟨w3, hw3⟩ : ∃ w3, w2.alloc (.cells #[.int .i64 n.k, .int .u64 (n.s.a.toNat : Int), .int .u64 (n.s.b.toNat : Int), .int .u64 (n.s.c.toNat : Int), .int .u64 (n.s.d.toNat : Int), .slice n.A n.n n.c] 30) = w3 := ⟨_, rfl⟩
  have HZ3 : Hid (Blk w3 w.heap.size 30 nd0) := keepHid (by rw [← hw3]; exact (HZ1.out.only hw2.only (by have := HG.out; intro e; injection e; omega)).alloc _)
  have HN3 : Hid (Blk w3 w2.heap.size 30 (hdC n)) := keepHid (by rw [← hw3]; exact Blk.new _ _ _)
  have HW3 : Hid (Went g bs d (atomF grp l).2 w1 w3) := keepHid (by
    rw [← hw3]
    obtain ⟨⟨j, hj, hp⟩, ho⟩ := hw2
    exact ⟨⟨j, hj, hp.alloc _⟩, ho.alloc _⟩)
  have hb23 : Below w2.heap.size w2 w3 := by rw [← hw3]; exact (Below.refl _ _).alloc (Nat.le_refl _) _
  have HOK : Hid (ok = true → ∃ r, (atomF grp l).1 = some r ∧ IsRe w3 w1.heap.size n r) := keepHid (fun h => by obtain ⟨r, e1, e2⟩ := hok h; exact ⟨r, e1, e2.below hb23⟩)
  have HNO := keepHid hno
  have HGL : Hid (g < w2.heap.size) := keepHid (by have := HG.out; have := HL1.out; have := hw2.only.size; omega)
  have HZL : Hid (w.heap.size < w2.heap.size) := keepHid (by have := HL1.out; have := hw2.only.size; omega)
  clear hok hno hw2 hb23 hl hw1 HAT HP1 HZ1 HLT
  unfold hdV
  cases ok
  · exact (hsome (HNO.out rfl)).elim
  · clear hsome
    obtain ⟨a, ha, hia⟩ := HOK.out rfl
    have HI3 := keepHid hia
    have HA := keepHid ha
    obtain ⟨r, hr⟩ : ∃ r, (atomF grp l).2 = r := ⟨_, rfl⟩
    have HAE : Hid (atomF grp l = (some a, r)) := keepHid (by rw [← ha, ← hr])
    rw [hr] at HW3 b42 b43
    clear ha hia hr HOK HNO
    have HF : Hid (pieceF grp l = (some (.thn a (.star a)), r.tail)) := keepHid (by unfold pieceF; rw [HAE.out]; simp [b42, b43])
    obtain ⟨⟨j3, hj3, hp3⟩, ho3⟩ := HW3.out
    have HT := keepHid (take_any hp3 42 42 rfl)
    unfold TakePost at HT
    rw [hj3, b42] at HT
    simp only [Bool.false_eq_true, if_false] at HT
    have HO3 := keepHid ho3
    clear hj3 hp3 ho3
    go_wp2_with fail
    refine HT.out.mono ?_
    rintro e w4 ⟨rfl, hw4⟩
    have HW4 := keepHid (Went.far HO3.out hw4)
    have HZ4 := keepHid (HZ3.out.only hw4.only (by have := HG.out; intro e; injection e; omega))
    have HN4 := keepHid (HN3.out.only hw4.only (by have := HGL.out; intro e; injection e; omega))
    have HI4 := keepHid (HI3.out.only hw4.only (by have := HG.out; have := HL1.out; omega))
    clear hw4 HT
    obtain ⟨⟨j4, hj4, hp4⟩, ho4⟩ := HW4.out
    have HT := keepHid (take_any hp4 43 43 rfl)
    unfold TakePost at HT
    rw [hj4, b43] at HT
    simp only [if_true] at HT
    have HO4 := keepHid ho4
    clear hj4 hp4 ho4
    go_wp2_with fail
    refine HT.out.mono ?_
    rintro e w5 ⟨rfl, hw5⟩
    have HW5 := keepHid (Went.far HO4.out hw5)
    have HZ5 := keepHid (HZ4.out.only hw5.only (by have := HG.out; intro e; injection e; omega))
    have HN5 := keepHid (HN4.out.only hw5.only (by have := HGL.out; intro e; injection e; omega))
    have HI5 := keepHid (HI4.out.only hw5.only (by have := HG.out; have := HL1.out; omega))
    clear hw5 HT
    obtain ⟨n0, n1, n2, n3, n4, n5, nf⟩ := blk6 HN5.out
    go_wp2_with fail
    clear b42 b43 HW3 HW4 HO3 HO4 HZ3 HZ4 HN3 HN4 HI3 HI4 HA HAE hw3
    have hsz5 : w1.heap.size ≤ w5.heap.size := HW5.out.only.size
    have HID : Hid (IsRe (w5.drewN 1) w1.heap.size n a) := keepHid (HI5.out.below (below_drewN (Below.refl _ _) 1))
    go_region_with
      (first
        | (go_at_call 57
           refine (clone_any a n w1.heap.size (w5.drewN 1) HID.out).mono ?_
           rintro e wC ⟨n', rfl, hin', hbC⟩
           have HBC := keepHid hbC
           have HIC := keepHid hin'
           have HNC := keepHid ((HN5.out.drewN 1).below hbC (HN5.out.drewN 1).lt)
           clear hbC hin'
           obtain ⟨m0, m1, m2, m3, m4, m5, mf⟩ := blk6 HNC.out)
        | (go_at_call 56
           refine (star_any n' wC).mono ?_
           rintro e wS ⟨gS, rfl, hgS, hatS, hbS⟩
           have HBS := keepHid hbS
           have HAS := keepHid hatS
           have HGS := keepHid hgS
           have HNS := keepHid (HNC.out.below hbS HNC.out.lt)
           clear hbS hatS hgS
           obtain ⟨p0, p1, p2, p3, p4, p5, pf⟩ := blk6 HNS.out)
        | (go_at_call 43
           refine (pair_any 2 n ⟨4, st0, some ⟨gS, 0, none⟩, 1, 1⟩ wS).mono ?_
           rintro e wP ⟨gP, rfl, hgP, hat0, hat6, hbP⟩
           have HBP := keepHid (HBC.out.trans ((HBS.out.mono HBC.out.size).trans (hbP.mono (Nat.le_trans HBC.out.size HBS.out.size))))
           have HA0 := keepHid hat0
           have HA6 := keepHid hat6
           have HGP := keepHid hgP
           have HASP := keepHid (HAS.out.keep (hbP.block gS HAS.out.lt))
           have HISP := keepHid ((HIC.out.below HBS.out).below hbP)
           have HZP := keepHid ((HZ5.out.drewN 1).below HBP.out (HZ5.out.drewN 1).lt)
           clear hbP hat0 hat6 hgP
           obtain ⟨z0, z1, z2, z3, z4, z5, zf⟩ := blk6 HZP.out
           unfold hdV))
    all_goals
      have hwent : Went g bs d r.tail w1 wP := by
        obtain ⟨⟨j, hj, hp⟩, ho⟩ := HW5.out
        exact ⟨⟨j, hj, (hp.drewN 1).below HBP.out (hp.drewN 1).lt⟩, (ho.drewN 1).trans (Only.of_below HBP.out)⟩
      have hs1 : (w5.drewN 1).heap.size = w5.heap.size := rfl
      have hs2 := HBC.out.size
      have hs3 := HBS.out.size
      have h1 := HGS.out
      have h2 := HGP.out
      have K := keepHid (read_six (x := (some (.thn a (.star a)), r.tail)) (h := ⟨2, st0, some ⟨gP, 0, none⟩, 2, 2⟩) (ok := true) HG.out HL1.out HO1.out
        (fun _ => ⟨_, rfl, gP, 2, n, ⟨4, st0, some ⟨gS, 0, none⟩, 1, 1⟩, rfl, Nat.le_refl _, by unfold maxLen; omega, by omega, HA0.out, HA6.out, HID.out.below HBP.out,
          gS, 1, n', rfl, Nat.le_refl _, by unfold maxLen; omega, by omega, HASP.out, HISP.out.low (by omega)⟩) (fun h => by cases h) hwent)
      clear hwent hs1 hs2 hs3 h1 h2
      try unfold hdV
      go_wp2
      exact ⟨by rfl, .tuple #[hdV ⟨2, st0, some ⟨gP, 0, none⟩, 2, 2⟩, .bool true], by rw [results_cell_tmp rfl]; go_simp; rfl, by rw [HF.out]; exact K.out _ _ _ _ _ _⟩

theorem piece_any (HA : Spec1 55 d (atomF grp)) : Spec1 50 d (pieceF grp) := by
  intro g bs i w h hlt
  by_cases hs : (atomF grp (bs.drop i)).1 = none
  · exact piece_no HA g bs i w h hlt hs
  · cases b42 : nx 42 (atomF grp (bs.drop i)).2
    · cases b43 : nx 43 (atomF grp (bs.drop i)).2
      · cases b63 : nx 63 (atomF grp (bs.drop i)).2
        · exact piece_bare HA g bs i w h hlt b42 b43 b63 hs
        · exact piece_may HA g bs i w h hlt b42 b43 b63 hs
      · exact piece_plus HA g bs i w h hlt b42 b43 hs
    · exact piece_star HA g bs i w h hlt b42 hs
end
end Go.Proofs.Ytlmjijejgfhmmaa
