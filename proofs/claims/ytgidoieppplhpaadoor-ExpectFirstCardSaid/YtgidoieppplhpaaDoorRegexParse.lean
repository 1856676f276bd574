/-
  The reader of patterns: a text is read.
-/
import Derived.Test.YtgidoieppplhpaaDoorRegexPiece
import Derived.Test.YtgidoieppplhpaaDoorErrWrap
import Derived.WalkKit
import Derived.OwnWalk
import Derived.ProofKit
import Derived.WalkLawsBesides
import Derived.IntWalk
import Derived.RegionTactic
import Derived.BigRegion
import Derived.ChangeAlike
import Derived.Deep.QuietTactic
import Derived.BigQuiet
import Derived.Deep.RegionHeld3
import Derived.Deep.DrawnRows
import Derived.Outline
import Derived.Deep.DeepCutAuto
namespace Go.Proofs.YtgidoieppplhpaaDoor
open Go.RowKit
set_option linter.unusedVariables false






theorem group_spec : ∀ (k d : Nat), d + k = 6 → Spec1 66 d (grpN k) ∧ Spec 27 d (altN k)
  | 0, d, h => by
    obtain rfl : d = 6 := by omega
    have h1 : Spec1 66 6 (grpN 0) := fun g bs i w hp _ => group_full g bs i w hp
    refine ⟨h1, ?_⟩
    rw [altN_eq]
    exact alt_any (grpN_lt 0) (seq_any (grpN_lt 0) (piece_any (atom_any h1)))
  | k + 1, d, h => by
    have h1 : Spec1 66 d (grpN (k + 1)) := group_less d (altN k) (by omega) (group_spec k (d + 1) (by omega)).2
    refine ⟨h1, ?_⟩
    rw [altN_eq]
    exact alt_any (grpN_lt (k + 1)) (seq_any (grpN_lt (k + 1)) (piece_any (atom_any h1)))
theorem alt_spec : Spec 27 0 (altN 6) := (group_spec 6 0 rfl).2
theorem parseF_some {bs : List UInt8} {r : Re} (h : altN 6 bs = (some r, [])) : parseF bs = (some r, bs.length) := by unfold parseF; rw [h]
theorem parseF_rest {bs l : List UInt8} {o : Option Re} (h : altN 6 bs = (o, l)) (hn : o = none ∨ l ≠ []) : parseF bs = (none, bs.length - l.length) := by
  unfold parseF
  rw [h]
  rcases o with _ | r
  · rfl
  · rcases l with _ | ⟨a, q⟩
    · rcases hn with hn | hn
      · cases hn
      · exact absurd rfl hn
    · rfl
/-- What 'Parse' answers. -/
def ParsePost (bs : List UInt8) (w : World) (e : Ending) (w' : World) : Prop :=
  Below w.heap.size w w' ∧
  ((64 < bs.length ∧ e = .returned (.tuple #[hdV hd0, faultV 7 64])) ∨
   (bs.length ≤ 64 ∧ ((∃ r h, parseF bs = (some r, bs.length) ∧ e = .returned (.tuple #[hdV h, .nilIface]) ∧ IsRe w' w.heap.size h r) ∨
     (∃ p : Nat, parseF bs = (none, p) ∧ e = .returned (.tuple #[hdV hd0, faultV 8 (p : Int)])))))
theorem below_six {B b : Nat} {a w : World} (h : Below B a w) (hb : B ≤ b) (u0 u1 u2 u3 u4 u5 : Value) :
    Below B a ((((((w.setCell ⟨b, 0, none⟩ u0).setCell ⟨b, 1, none⟩ u1).setCell ⟨b, 2, none⟩ u2).setCell ⟨b, 3, none⟩ u3).setCell ⟨b, 4, none⟩ u4).setCell ⟨b, 5, none⟩ u5) :=
  (((((h.setCell hb _).setCell hb _).setCell hb _).setCell hb _).setCell hb _).setCell hb _
set_option maxHeartbeats 1000000 in
theorem parse_long (bs : List UInt8) (hl : 64 < bs.length) (w : World) : Calls Tryd.prog 16 #[.string (strB bs)] w (ParsePost bs w) := by
  obtain ⟨w1, hw1⟩ : ∃ w1, w.alloc (.cells #[.int .i64 0, .int .u64 0, .int .u64 0, .int .u64 0, .int .u64 0, .slice none 0 0] 32) = w1 := ⟨_, rfl⟩
  have hz := node_new hw1
  have HB1 : Hid (Below w.heap.size w w1) := keepHid (by rw [← hw1]; exact (Below.refl _ _).alloc (Nat.le_refl _) _)
  have HL := keepHid hl
  have hsz : (strB bs).size = bs.length := strB_size bs
  obtain ⟨z0, z1, z2, z3, z4, z5, zf⟩ := blk6 hz
  have hlt : (64 : Int) < (bs.length : Int) := by omega
  generalize strB bs = S at *
  clear hl hz
  go_enter Tryd.func16, Tryd.ntmps16
  go_wp2_with fail
  refine (wrap_any 7 64 _).mono ?_
  rintro e w' ⟨rfl, rfl⟩
  unfold faultV
  go_wp2
  exact ⟨by rfl, .tuple #[hdV hd0, faultV 7 64], by rw [results_cell_tmp rfl]; go_simp; first | rfl | exact ⟨rfl, rfl⟩, below_six HB1.out (Nat.le_refl _) _ _ _ _ _ _, .inl ⟨HL.out, rfl⟩⟩
set_option maxHeartbeats 2000000 in
theorem parse_short (bs : List UInt8) (hl : bs.length ≤ 64) (w : World) : Calls Tryd.prog 16 #[.string (strB bs)] w (ParsePost bs w) := by
  obtain ⟨w1, hw1⟩ : ∃ w1, w.alloc (.cells #[.int .i64 0, .int .u64 0, .int .u64 0, .int .u64 0, .int .u64 0, .slice none 0 0] 32) = w1 := ⟨_, rfl⟩
  obtain ⟨w2, hw2⟩ : ∃ w2, w1.alloc (.cells #[.string (strB bs), .int .i64 0, .int .i64 0] 83) = w2 := ⟨_, rfl⟩
  have hs1 : w1.heap.size = w.heap.size + 1 := by rw [← hw1]; simp
  have HP2 : Hid (Ps w2 (w.heap.size + 1) bs 0 0) := keepHid (by rw [← hw2]; exact ⟨Blk.new_at _ _ _ _ hs1.symm, Nat.zero_le _, hl⟩)
  have HZ2 : Hid (Blk w2 w.heap.size 32 nd0) := keepHid (by rw [← hw2]; exact (node_new hw1).alloc _)
  have HB2 : Hid (Below w.heap.size w w2) := keepHid (by rw [← hw2, ← hw1]; exact ((Below.refl _ _).alloc (Nat.le_refl _) _).alloc (by simp) _)
  have HS2 : Hid (w2.heap.size = w.heap.size + 2) := keepHid (by rw [← hw2]; simp [hs1])
  have HL := keepHid hl
  have HW2 := keepHid hw2
  have hsz : (strB bs).size = bs.length := strB_size bs
  have hle : (bs.length : Int) ≤ 64 := by omega
  have HA := keepHid (alt_spec (w.heap.size + 1) bs 0 w2 HP2.out)
  clear hl hw2
  rw [List.drop_zero] at HA
  go_enter Tryd.func16, Tryd.ntmps16
  go_wp2_with fail
  rw [HW2.out]
  refine HA.out.mono ?_
  rintro e w3 ⟨n, ok, rfl, hok, hno, ⟨j3, hj3, hp3⟩, ho3⟩
  have hz2l : w.heap.size < w2.heap.size := HZ2.out.lt
  have hb23 : Below (w.heap.size + 1) w2 w3 := ho3.below (Nat.le_refl _) (by omega)
  have HB3 := keepHid (HB2.out.trans (hb23.mono (by omega)))
  have HZ3 := keepHid (HZ2.out.below hb23 (by omega))
  obtain ⟨w4, hw4⟩ : ∃ w4, w3.alloc (.cells #[.int .i64 n.k, .int .u64 (n.s.a.toNat : Int), .int .u64 (n.s.b.toNat : Int), .int .u64 (n.s.c.toNat : Int), .int .u64 (n.s.d.toNat : Int), .slice n.A n.n n.c] 32) = w4 := ⟨_, rfl⟩
  have hs3 := ho3.size
  have hb34 : Below w3.heap.size w3 w4 := by rw [← hw4]; exact (Below.refl _ _).alloc (Nat.le_refl _) _
  have HB4 := keepHid (HB3.out.trans (hb34.mono HB3.out.size))
  have HZ4 := keepHid (HZ3.out.below hb34 HZ3.out.lt)
  have HP4 := keepHid (hp3.below hb34 hp3.lt)
  have HN4 : Hid (Blk w4 w3.heap.size 32 (hdC n)) := keepHid (by rw [← hw4]; exact Blk.new _ _ _)
  have HJ4 := keepHid hj3
  have HOK4 : Hid (ok = true → ∃ r, (altN 6 bs).1 = some r ∧ IsRe w4 (w.heap.size + 1) n r) := keepHid (fun h => by obtain ⟨r, e1, e2⟩ := hok h; exact ⟨r, e1, (e2.below hb34).low (by have := HS2.out; omega)⟩)
  have HNO4 := keepHid hno
  have HD4 := keepHid (done_any HP4.out)
  have HJL := keepHid hp3.le
  clear hok hno hj3 hp3 ho3 hz2l hb23 hs3 hb34 HA HW2 hw1
  unfold hdV
  cases ok
  · have HF : Hid (parseF bs = (none, j3)) := keepHid (by
      have h1 := HNO4.out rfl
      have h2 := parseF_rest (bs := bs) (o := (altN 6 bs).1) (l := (altN 6 bs).2) rfl (.inl h1)
      rw [h2, ← HJ4.out, List.length_drop]
      have := HJL.out
      congr 1; omega)
    obtain ⟨c0, c1, c2, cf⟩ := HP4.out.cells
    obtain ⟨z0, z1, z2, z3, z4, z5, zf⟩ := blk6 HZ4.out
    go_wp2_with fail
    refine (wrap_any 8 (j3 : Int) _).mono ?_
    rintro e w' ⟨rfl, rfl⟩
    unfold faultV
    go_wp2
    exact ⟨by rfl, .tuple #[hdV hd0, faultV 8 (j3 : Int)], by rw [results_cell_tmp rfl]; go_simp; first | rfl | exact ⟨rfl, rfl⟩, below_six HB4.out (Nat.le_refl _) _ _ _ _ _ _, .inr ⟨HL.out, .inr ⟨j3, HF.out, rfl⟩⟩⟩
  · obtain ⟨r, hr, hir⟩ := HOK4.out rfl
    have HIR := keepHid hir
    rcases Nat.lt_or_ge j3 bs.length with hlt | hge
    · have he : (bs.drop j3).isEmpty = false := by obtain ⟨x, _, hdr⟩ := head_of hlt; rw [hdr]; rfl
      have HF : Hid (parseF bs = (none, j3)) := keepHid (by
        have hne : (altN 6 bs).2 ≠ [] := by
          rw [← HJ4.out]
          obtain ⟨x, _, hdr⟩ := head_of hlt
          rw [hdr]; simp
        have h2 := parseF_rest (bs := bs) (o := (altN 6 bs).1) (l := (altN 6 bs).2) rfl (.inr hne)
        rw [h2, ← HJ4.out, List.length_drop]
        have := HJL.out
        congr 1; omega)
      rw [he] at HD4
      clear he hr hir
      go_wp2_with fail
      refine HD4.out.mono ?_
      rintro e w' ⟨rfl, m, rfl⟩
      have HP5 := keepHid (HP4.out.drewN m)
      have HZ5 := keepHid (HZ4.out.drewN m)
      have HB5 := keepHid (below_drewN HB4.out m)
      generalize w4.drewN m = w5 at *
      obtain ⟨c0, c1, c2, cf⟩ := HP5.out.cells
      obtain ⟨z0, z1, z2, z3, z4, z5, zf⟩ := blk6 HZ5.out
      go_wp2_with fail
      refine (wrap_any 8 (j3 : Int) _).mono ?_
      rintro e w' ⟨rfl, rfl⟩
      unfold faultV
      go_wp2
      exact ⟨by rfl, .tuple #[hdV hd0, faultV 8 (j3 : Int)], by rw [results_cell_tmp rfl]; go_simp; first | rfl | exact ⟨rfl, rfl⟩, below_six HB5.out (Nat.le_refl _) _ _ _ _ _ _, .inr ⟨HL.out, .inr ⟨j3, HF.out, rfl⟩⟩⟩
    · have he : (bs.drop j3).isEmpty = true := by rw [List.drop_eq_nil_of_le hge]; rfl
      have HF : Hid (parseF bs = (some r, bs.length)) := keepHid (parseF_some (by
        have h2 : (altN 6 bs).2 = [] := by rw [← HJ4.out, List.drop_eq_nil_of_le hge]
        rw [← hr, ← h2]))
      rw [he] at HD4
      clear he hr hir
      go_wp2_with fail
      refine HD4.out.mono ?_
      rintro e w' ⟨rfl, m, rfl⟩
      have HN5 := keepHid (HN4.out.drewN m)
      have HZ5 := keepHid (HZ4.out.drewN m)
      have HB5 := keepHid (below_drewN HB4.out m)
      have HI5 : Hid (IsRe (w4.drewN m) (w.heap.size + 1) n r) := keepHid (HIR.out.below (below_drewN (Below.refl _ _) m))
      generalize w4.drewN m = w5 at *
      obtain ⟨n0, n1, n2, n3, n4, n5, nf⟩ := blk6 HN5.out
      obtain ⟨z0, z1, z2, z3, z4, z5, zf⟩ := blk6 HZ5.out
      go_wp2
      exact ⟨by rfl, .tuple #[hdV n, .nilIface], by rw [results_cell_tmp rfl]; go_simp; first | rfl | exact ⟨rfl, rfl⟩, below_six HB5.out (Nat.le_refl _) _ _ _ _ _ _, .inr ⟨HL.out, .inl ⟨r, n, HF.out, rfl, (HI5.out.keep fun b hb _ => six_far (by have : w.heap.size + 1 ≤ b := hb; omega)).low (Nat.le_succ _)⟩⟩⟩
theorem parse_any (bs : List UInt8) (w : World) : Calls Tryd.prog 16 #[.string (strB bs)] w (ParsePost bs w) := by
  rcases Nat.lt_or_ge 64 bs.length with h | h
  · exact parse_long bs h w
  · exact parse_short bs h w
theorem hdV_st0 (k : Int) (A : Option Addr) (n c : Nat) : hdV ⟨k, st0, A, n, c⟩ = .agg #[.int .i64 k, .int .u64 0, .int .u64 0, .int .u64 0, .int .u64 0, .slice A n c] := rfl
theorem hdV_hd0 : hdV hd0 = .agg #[.int .i64 0, .int .u64 0, .int .u64 0, .int .u64 0, .int .u64 0, .slice none 0 0] := rfl
theorem parse_pat {bs : List UInt8} {r : Re} {w w' : World} {e : Ending} (hf : parseF bs = (some r, bs.length)) (p : ParsePost bs w e w') (hl : bs.length ≤ 64) :
    ∃ h, e = .returned (.tuple #[hdV h, .nilIface]) ∧ IsRe w' w.heap.size h r ∧ Below w.heap.size w w' := by
  obtain ⟨hb, ⟨h1, _⟩ | ⟨_, ⟨r', h, h2, h3, h4⟩ | ⟨q, h2, _⟩⟩⟩ := p
  · omega
  · rw [hf] at h2
    injection h2 with h2
    injection h2 with h2
    subst h2
    exact ⟨h, h3, h4, hb⟩
  · rw [hf] at h2
    injection h2 with h2
    cases h2
theorem parse_bad {bs : List UInt8} {q : Nat} {w w' : World} {e : Ending} (hf : parseF bs = (none, q)) (p : ParsePost bs w e w') (hl : bs.length ≤ 64) :
    e = .returned (.tuple #[hdV hd0, faultV 8 (q : Int)]) ∧ Below w.heap.size w w' := by
  obtain ⟨hb, ⟨h1, _⟩ | ⟨_, ⟨r', h, h2, h3, h4⟩ | ⟨q', h2, h3⟩⟩⟩ := p
  · omega
  · rw [hf] at h2
    injection h2 with h2
    cases h2
  · rw [hf] at h2
    injection h2 with _ h2
    subst h2
    exact ⟨h3, hb⟩
end Go.Proofs.YtgidoieppplhpaaDoor
