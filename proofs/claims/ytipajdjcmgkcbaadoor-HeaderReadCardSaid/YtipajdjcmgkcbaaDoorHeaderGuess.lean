/-
  A text cut at a byte; the file that 128 bytes may tell.
-/
import Derived.Test.YtipajdjcmgkcbaaDoorHeaderInt
import Derived.Test.YtipajdjcmgkcbaaDoorHeaderMake
import Derived.Test.YtipajdjcmgkcbaaDoorFrameDoor
import Derived.WalkKit
import Derived.ProofKit
import Derived.WalkLawsBesides
import Derived.IntWalk
import Derived.RegionTactic
import Derived.BigRegion
import Derived.ChangeAlike
import Derived.Deep.QuietTactic
import Derived.BigQuiet
import Derived.Deep.RegionHeld3
import Derived.Deep.DrawnRows
import Derived.Outline
namespace Go.Proofs.YtipajdjcmgkcbaaDoor
open Go.RowKit
set_option linter.unusedVariables false

def CutPost (c : UInt8) (l : List UInt8) (w : World) (e : Ending) (w' : World) : Prop :=
  ∃ b, e = .returned (.tuple #[.string (strB (cutL c l).1), .string (strB (cutL c l).2), .bool b]) ∧ ∃ n, w' = w.drewN n
theorem run_take (l : List UInt8) (i : Nat) (hi : i ≤ l.length) (W : World) : (Instr.slice 9 (.string (strB l)) none (some (.int .i64 (i : Int))) none).run Tryd.prog W = .ok (.string (strB (l.take i))) W := by
  rw [run_slice_string_h W 9 (strB l) Tryd.underlying9 .i64 (i : Int) (by omega) (by rw [strB_size]; omega)]
  rw [Int.toNat_natCast, strB_take]
theorem run_drop (l : List UInt8) (i : Nat) (hi : i ≤ l.length) (W : World) : (Instr.slice 9 (.string (strB l)) (some (.int .i64 (i : Int))) none none).run Tryd.prog W = .ok (.string (strB (l.drop i))) W := by
  rw [run_slice_string_l W 9 (strB l) Tryd.underlying9 .i64 (i : Int) (by omega) (by rw [strB_size]; omega)]
  rw [Int.toNat_natCast, strB_size, strB_drop]

theorem cut0_in (l : List UInt8) (hl : l.length ≤ 65536) (w : World) :
    Calls Tryd.prog 31 #[.string (strB l), .string ⟨#[0]⟩] w (CutPost 0 l w) := by
  have H0 := keepHid (Tryd.stringslite_Index_one (strB l) 0)
  have hd : (strB l).data.toList = l := by simp [strB]
  rw [hd] at H0
  clear hd
  by_cases hm : Lib.indexByte l 0 = -1
  · have HC : Hid (cutL 0 l = (l, [])) := keepHid (cutL_miss l hm)
    rw [hm] at H0
    clear hm
    go_enter Tryd.func31, Tryd.ntmps31
    go_wp2_with (refine (H0.out _).mono ?_; rintro e w' ⟨rfl, rfl⟩)
    go_ret3
    exact ⟨false, by rw [HC.out]; rfl, 0, rfl⟩
  · have hge := Lib.indexByte_ge l 0
    obtain ⟨i, hi⟩ : ∃ i : Nat, Lib.indexByte l 0 = (i : Int) := ⟨(Lib.indexByte l 0).toNat, by omega⟩
    obtain ⟨hil, hc⟩ := cutL_hit l i hi
    have HC := keepHid hc
    rw [hi] at H0
    have hs1 := run_take l i (by omega)
    have hs2 := run_drop l (i + 1) (by omega)
    have e1 : ((i + 1 : Nat) : Int) = (i : Int) + 1 := by omega
    rw [e1] at hs2
    have hw : IntKind.i64.wrap ((i : Int) + 1) = (i : Int) + 1 := by rw [IntKind.wrap_i64]; omega
    have hp : ¬ (i : Int) < 0 := by omega
    clear hm hge hi hc e1
    generalize l.take i = x1 at *
    generalize l.drop (i + 1) = x2 at *
    go_enter Tryd.func31, Tryd.ntmps31
    go_wp2_with (refine (H0.out _).mono ?_; rintro e w' ⟨rfl, rfl⟩)
    go_quiet (fail)
    go_wp2
    go_ret3
    exact ⟨true, by rw [HC.out]; rfl, _, rfl⟩
theorem cut0_any (l : List UInt8) (hl : l.length ≤ 65536) (w : World) :
    Calls Tryd.prog 28 #[.string (strB l), .string ⟨#[0]⟩] w (CutPost 0 l w) := by
  go_enter Tryd.func28, Tryd.ntmps28
  go_wp2_with fail
  refine (cut0_in l hl _).mono ?_
  rintro e w' ⟨b, rfl, k, rfl⟩
  go_wp2
  go_ret3
  exact ⟨b, rfl, k, rfl⟩

theorem cut32_in (l : List UInt8) (hl : l.length ≤ 65536) (w : World) :
    Calls Tryd.prog 31 #[.string (strB l), .string ⟨#[32]⟩] w (CutPost 32 l w) := by
  have H0 := keepHid (Tryd.stringslite_Index_one (strB l) 32)
  have hd : (strB l).data.toList = l := by simp [strB]
  rw [hd] at H0
  clear hd
  by_cases hm : Lib.indexByte l 32 = -1
  · have HC : Hid (cutL 32 l = (l, [])) := keepHid (cutL_miss l hm)
    rw [hm] at H0
    clear hm
    go_enter Tryd.func31, Tryd.ntmps31
    go_wp2_with (refine (H0.out _).mono ?_; rintro e w' ⟨rfl, rfl⟩)
    go_ret3
    exact ⟨false, by rw [HC.out]; rfl, 0, rfl⟩
  · have hge := Lib.indexByte_ge l 32
    obtain ⟨i, hi⟩ : ∃ i : Nat, Lib.indexByte l 32 = (i : Int) := ⟨(Lib.indexByte l 32).toNat, by omega⟩
    obtain ⟨hil, hc⟩ := cutL_hit l i hi
    have HC := keepHid hc
    rw [hi] at H0
    have hs1 := run_take l i (by omega)
    have hs2 := run_drop l (i + 1) (by omega)
    have e1 : ((i + 1 : Nat) : Int) = (i : Int) + 1 := by omega
    rw [e1] at hs2
    have hw : IntKind.i64.wrap ((i : Int) + 1) = (i : Int) + 1 := by rw [IntKind.wrap_i64]; omega
    have hp : ¬ (i : Int) < 0 := by omega
    clear hm hge hi hc e1
    generalize l.take i = x1 at *
    generalize l.drop (i + 1) = x2 at *
    go_enter Tryd.func31, Tryd.ntmps31
    go_wp2_with (refine (H0.out _).mono ?_; rintro e w' ⟨rfl, rfl⟩)
    go_quiet (fail)
    go_wp2
    go_ret3
    exact ⟨true, by rw [HC.out]; rfl, _, rfl⟩
theorem cut32_any (l : List UInt8) (hl : l.length ≤ 65536) (w : World) :
    Calls Tryd.prog 28 #[.string (strB l), .string ⟨#[32]⟩] w (CutPost 32 l w) := by
  go_enter Tryd.func28, Tryd.ntmps28
  go_wp2_with fail
  refine (cut32_in l hl _).mono ?_
  rintro e w' ⟨b, rfl, k, rfl⟩
  go_wp2
  go_ret3
  exact ⟨b, rfl, k, rfl⟩

theorem good_digs {b : Nat} (hb : 2 ≤ b) (hb2 : b ≤ 10) (n : Nat) (hn : n < 9223372036854775808) : Good b (digs b n) n := ⟨fun h => by have := digs_pos b n; rw [h] at this; simp at this, val_digs hb hb2 n hn⟩

/-- What 'guess' answers: some file, by the name that stands ahead of the first 0; of a file's own bytes that file. -/
def GuessPost (l : List UInt8) (w : World) (e : Ending) (w' : World) : Prop :=
  (∃ f : Fl, e = .returned (flV f) ∧ Fits f ∧ f.name = (cutL 0 l).1 ∧ ∀ g, May g → l = encL g → f = g) ∧ Below w.heap.size w w'

theorem put4 {w : World} {g : Nat} {t : TypeId} {a b c d p q r s : Value} (hb : Blk w g t #[a, b, c, d]) :
    Blk ((((w.setCell ⟨g, 0, none⟩ p).setCell ⟨g, 1, none⟩ q).setCell ⟨g, 2, none⟩ r).setCell ⟨g, 3, none⟩ s) g t #[p, q, r, s] := (((hb.put 0 p).put 1 q).put 2 r).put 3 s
theorem below_put4 {w0 w : World} {B g : Nat} (h : Below B w0 w) (hg : B ≤ g) (p q r s : Value) : Below B w0 ((((w.setCell ⟨g, 0, none⟩ p).setCell ⟨g, 1, none⟩ q).setCell ⟨g, 2, none⟩ r).setCell ⟨g, 3, none⟩ s) :=
  (((h.setCell hg p).setCell hg q).setCell hg r).setCell hg s
theorem size4 : (Tryd.prog.info? 23).map (·.size) = some 4 := by kernel_rfl
set_option maxHeartbeats 4000000 in
theorem guess_any (l : List UInt8) (hl : l.length ≤ 65536) (w : World) (hE : Errs w) :
    Calls Tryd.prog 21 #[.string (strB l)] w (GuessPost l w) := by
  obtain ⟨n, hn⟩ : ∃ n, (cutL 0 l).1 = n := ⟨_, rfl⟩
  obtain ⟨r1, hr1⟩ : ∃ r, (cutL 0 l).2 = r := ⟨_, rfl⟩
  obtain ⟨r2, hr2⟩ : ∃ r, (cutL 0 r1).1 = r := ⟨_, rfl⟩
  obtain ⟨z, hz⟩ : ∃ r, (cutL 0 r1).2 = r := ⟨_, rfl⟩
  obtain ⟨s, hs⟩ : ∃ r, (cutL 32 r2).1 = r := ⟨_, rfl⟩
  obtain ⟨r3, hr3⟩ : ∃ r, (cutL 32 r2).2 = r := ⟨_, rfl⟩
  obtain ⟨t, ht⟩ : ∃ r, (cutL 32 r3).1 = r := ⟨_, rfl⟩
  obtain ⟨m, hm⟩ : ∃ r, (cutL 32 r3).2 = r := ⟨_, rfl⟩
  have k1 := cutL_len2 0 l
  have k2 := cutL_len1 0 r1
  have k3 := cutL_len1 32 r2
  have k4 := cutL_len2 32 r2
  have k5 := cutL_len1 32 r3
  have k6 := cutL_len2 32 r3
  have k0 := cutL_len1 0 l
  have C1 := cut0_any l hl
  have C2 := cut0_any r1 (by rw [← hr1]; omega)
  have C3 := cut32_any r2 (by rw [← hr2]; rw [hr1] at k1; omega)
  have C4 := cut32_any r3 (by rw [← hr3]; rw [hr1] at k1; rw [hr2] at k2; omega)
  unfold CutPost at C1 C2 C3 C4
  rw [hn, hr1] at C1
  rw [hr2, hz] at C2
  rw [hs, hr3] at C3
  rw [ht, hm] at C4
  rw [hr1] at k1; rw [hr2] at k2; rw [hs] at k3; rw [hr3] at k4; rw [ht] at k5; rw [hm] at k6; rw [hn] at k0
  have V1 := value10_any s (by omega)
  have V2 := value8_any t (by omega)
  have V3 := value8_any m (by omega)
  have HSPEC : Hid (∀ (f : Fl) (v1 v2 v3 : Int), (∀ a, Good 10 s a → v1 = (a : Int)) → (∀ a, Good 8 t a → v2 = (a : Int)) → (∀ a, Good 8 m a → v3 = (a : Int)) → f = ⟨n, v1, v2, v3⟩ → ∀ g, May g → l = encL g → f = g) := keepHid fun f v1 v2 v3 h1 h2 h3 hf g hg he => by
    have hc := cut_name hg
    rw [← he] at hc
    rw [hc] at hn hr1
    simp only at hn hr1
    have hc2 := cut_nums hg
    rw [hr1, hr2] at hc2
    have hc3 := cut_size g
    rw [← hc2] at hc3
    rw [hc3] at hs hr3
    simp only at hs hr3
    have hc4 := cut_time g
    rw [hr3] at hc4
    rw [hc4] at ht hm
    simp only at ht hm
    have a1 := hg.size0; have a2 := hg.size; have a3 := hg.time0; have a4 := hg.time; have a5 := hg.mode0; have a6 := hg.mode
    have e1 := h1 g.size.toNat (by rw [← hs]; exact good_digs (by omega) (by omega) _ (by omega))
    have e2 := h2 g.time.toNat (by rw [← ht]; exact good_digs (by omega) (by omega) _ (by omega))
    have e3 := h3 g.mode.toNat (by rw [← hm]; exact good_digs (by omega) (by omega) _ (by omega))
    rw [hf, e1, e2, e3, ← hn]
    obtain ⟨gn, ga, gb, gc⟩ := g
    simp only at a1 a3 a5 ⊢
    rw [Int.toNat_of_nonneg a1, Int.toNat_of_nonneg a3, Int.toNat_of_nonneg a5]
  have HN : Hid ((cutL 0 l).1 = n) := keepHid hn
  have HNL : Hid (n.length ≤ 65536) := keepHid (by omega)
  have K1 := keepHid C1; have K2 := keepHid C2; have K3 := keepHid C3; have K4 := keepHid C4
  have W1 := keepHid V1; have W2 := keepHid V2; have W3 := keepHid V3
  have HE := keepHid hE
  clear hE C1 C2 C3 C4 V1 V2 V3 hn hr1 hr2 hz hs hr3 ht hm k0 k1 k2 k3 k4 k5 k6
  obtain ⟨w1, hw1⟩ : ∃ w1, w.alloc (.cells #[.string ⟨#[]⟩, .int .i64 0, .int .i64 0, .int .i64 0] 23) = w1 := ⟨_, rfl⟩
  have hk1 : Blk w1 w.heap.size 23 #[.string ⟨#[]⟩, .int .i64 0, .int .i64 0, .int .i64 0] := by rw [← hw1]; exact Blk.new _ _ _
  have hb1 : Below w.heap.size w w1 := by rw [← hw1]; exact (Below.refl _ _).alloc (Nat.le_refl _) _
  have HK := keepHid hk1
  have HB := keepHid hb1
  have HE1 := keepHid (HE.out.below hb1 (Nat.le_refl _))
  clear hk1 hb1
  go_enter Tryd.func21, Tryd.ntmps21
  go_wp2_with fail
  clear hw1
  refine (K1.out _).mono ?_
  rintro e w2 ⟨b1, rfl, d1, rfl⟩
  go_wp2_with fail
  refine (K2.out _).mono ?_
  rintro e w2 ⟨b2, rfl, d2, rfl⟩
  go_wp2_with fail
  refine (K3.out _).mono ?_
  rintro e w2 ⟨b3, rfl, d3, rfl⟩
  go_wp2_with fail
  refine (K4.out _).mono ?_
  rintro e w2 ⟨b4, rfl, d4, rfl⟩
  go_wp2_with fail
  have HK5 : Hid (Blk (w1.drewN (d1 + d2 + d3 + d4)) w.heap.size 23 #[.string ⟨#[]⟩, .int .i64 0, .int .i64 0, .int .i64 0]) := keepHid (HK.out.drewN _)
  have HB5 : Hid (Below w.heap.size w (w1.drewN (d1 + d2 + d3 + d4))) := keepHid (below_drewN HB.out _)
  have HE5 : Hid (Errs (w1.drewN (d1 + d2 + d3 + d4))) := keepHid (HE1.out.below (below_drewN (Below.refl _ _) _) (Nat.le_refl _))
  generalize w1.drewN (d1 + d2 + d3 + d4) = w5 at *
  refine (W1.out _ HE5.out).mono ?_
  rintro e w6 ⟨⟨v1, rfl, a1, a2, g1⟩, hb6⟩
  go_wp2_with fail
  have he6 := HE5.out.below hb6 (Nat.le_refl _)
  refine (W2.out _ he6).mono ?_
  rintro e w7 ⟨⟨v2, rfl, a3, a4, g2⟩, hb7⟩
  go_wp2_with fail
  have he7 := he6.below hb7 (Nat.le_refl _)
  refine (W3.out _ he7).mono ?_
  rintro e w8 ⟨⟨v3, rfl, a5, a6, g3⟩, hb8⟩
  have hb68 := hb6.trans ((hb7.trans (hb8.mono hb7.size)).mono hb6.size)
  have hk8 := HK5.out.below hb68 HK5.out.lt
  have HB8 := keepHid (HB5.out.trans (hb68.mono HB5.out.size))
  have HF := keepHid (HSPEC.out ⟨n, v1, v2, v3⟩ v1 v2 v3 g1 g2 g3 rfl)
  have HFIT : Hid (Fits ⟨n, v1, v2, v3⟩) := keepHid ⟨by have := HNL.out; show n.length ≤ _; omega, ⟨a1, a2⟩, ⟨a3, a4⟩, ⟨a5, a6⟩⟩
  have HK8 := keepHid hk8
  have hc0 := hk8.cell 0; have hc1 := hk8.cell 1; have hc2 := hk8.cell 2; have hc3 := hk8.cell 3
  have hf0 := hk8.frozen 0; have hf1 := hk8.frozen 1; have hf2 := hk8.frozen 2; have hf3 := hk8.frozen 3
  clear he6 he7 hb6 hb7 hb8 hb68 hk8 g1 g2 g3
  go_wp2
  refine bodyPost_ret (results_cell_row (p := 2) (ty := 23) rfl _ _ w.heap.size 23 (flCells ⟨n, v1, v2, v3⟩) (0, 0) _ rfl (put4 HK8.out) Tryd.underlying23 rfl size4) rfl ?_
  exact ⟨⟨⟨n, v1, v2, v3⟩, rfl, HFIT.out, HN.out.symm, HF.out⟩, below_put4 HB8.out (Nat.le_refl _) _ _ _ _⟩
end Go.Proofs.YtipajdjcmgkcbaaDoor
