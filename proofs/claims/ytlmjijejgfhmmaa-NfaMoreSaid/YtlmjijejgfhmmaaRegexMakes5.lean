/-
  The statements' own build: patterns that numbers make.
-/
import Derived.Test.YtlmjijejgfhmmaaRegexMakes
import Derived.Test.YtlmjijejgfhmmaaRegexParse
import Derived.WalkKit
import Derived.OwnWalk
import Derived.ProofKit
import Derived.WalkLawsBesides
import Derived.IntWalk
import Derived.RegionTactic
import Derived.BigRegion
import Derived.ChangeAlike
import Derived.Deep.QuietTactic
import Derived.BigQuiet
import Derived.Deep.RegionHeld3
import Derived.Deep.DrawnRows
import Derived.Outline
import Derived.Deep.DeepCutAuto
import Derived.Deep.DeepCutAuto
namespace Go.Proofs.Ytlmjijejgfhmmaa
open Go.RowKit
set_option linter.unusedVariables false




theorem not0 (w : World) : Calls Try.prog 33 #[.agg #[.int .u64 0, .int .u64 0, .int .u64 0, .int .u64 0]] w fun e w' => e = .returned (stV (notS st0)) ∧ Below w.heap.size w w' := not_any st0 w
set_option maxRecDepth 100000 in
set_option maxHeartbeats 2000000 in
theorem build_dot (B d : Nat) (A : Option Addr) (n c : Nat) (ns : List UInt8) (w : World) (hB : B ≤ w.heap.size) (hy : Bys w B A n ns) (hn : 1 ≤ n) (hnc : n ≤ c) (hcm : c ≤ 9223372036854775807) (x0 : UInt8) (h0 : ns[0]? = some x0) (hj : x0.toNat % 9 = 7) :
    Calls Try.prog 21 #[.slice A n c, .int .i64 ((d : Int) + 1)] w (BuildPost B (d + 1) ns w) := by
  obtain ⟨w1, hw1⟩ : ∃ w1, w.alloc (.cells #[.int .i64 0, .int .u64 0, .int .u64 0, .int .u64 0, .int .u64 0, .slice none 0 0] 30) = w1 := ⟨_, rfl⟩
  have HZ1 := keepHid (node_new hw1)
  have HL1 : Hid (w.heap.size < w1.heap.size) := keepHid (by rw [← hw1]; simp)
  have hb1 : Below w.heap.size w w1 := by rw [← hw1]; exact (Below.refl _ _).alloc (Nat.le_refl _) _
  have HB1 := keepHid hb1
  have HY := keepHid hy
  have HLN := keepHid hy.len
  obtain ⟨ad, x, rfl, had, hx, hcell⟩ := hy.at_ (k := 0) (by omega)
  have hca : w1.cell? ad = some (.int .u8 (x.toNat : Int)) := by
    have h0 : ad.add 0 = ad := by unfold Addr.add; simp
    have := (hb1.cell (show (ad.add 0).block < w.heap.size by rw [ad_block]; omega)).trans hcell
    rwa [h0] at this
  obtain ⟨ns', hns⟩ : ∃ ns', ns = x :: ns' := by
    cases ns with
    | nil => simp at hx
    | cons a r => simp at hx; subst hx; exact ⟨r, rfl⟩
  subst hns
  have hsl := run_tail1 (some ad) n c hn hnc
  obtain ⟨A2, hA2⟩ : ∃ A2, (if c = 1 then some ad else (some ad).map (·.add 1)) = A2 := ⟨_, rfl⟩
  rw [hA2] at hsl
  have HB0 := keepHid hB
  have HY2 : Hid (Bys w B A2 (n - 1) ns') := keepHid (by
    have := hy.cut hn hnc
    rw [hA2] at this
    exact this)
  obtain ⟨n2, hn2⟩ : ∃ n2, n - 1 = n2 := ⟨_, rfl⟩
  obtain ⟨c2, hc2⟩ : ∃ c2, c - 1 = c2 := ⟨_, rfl⟩
  rw [hn2, hc2] at hsl
  rw [hn2] at HY2
  have HNC2 : Hid (n2 ≤ c2) := keepHid (by omega)
  have HCM2 : Hid (c2 ≤ 9223372036854775807) := keepHid (by omega)
  obtain ⟨y, hyx⟩ : ∃ y, x.toNat = y := ⟨_, rfl⟩
  have hy256 : y < 256 := by rw [← hyx]; exact u8lt x
  rw [hyx] at hca
  have hn' : (1 : Int) ≤ (n : Int) := by omega
  have hn'' : ((n : Int) == 0) = false := by simp; omega
  obtain rfl : x0 = x := by simpa using h0.symm
  have HE : Hid (bldL (d + 1) (x0 :: ns') = ([46], .one (notS st0), ns')) := keepHid (by rw [bldL, if_neg (by omega), if_neg (by omega), if_neg (by omega), if_neg (by omega), if_neg (by omega), if_pos hj])
  rw [hyx] at hj
  have e1 : (y : Int) % 9 = 7 := by omega
  clear hy hb1 hx hcell had hA2 hn2 hc2 hyx h0 hj
  go_enter Try.func21, Try.ntmps21
  go_wp2_with fail
  refine (not0 w1).mono ?_
  rintro e w2 ⟨rfl, hb2⟩
  have HB2 := keepHid hb2
  obtain ⟨z0, z1, z2, z3, z4, z5, zf⟩ := blk6 (HZ1.out.below hb2 HZ1.out.lt)
  clear hb2 hw1
  unfold stV
  go_wp2
  have K := build_fin (B := B) (d := d + 1) (ns := x0 :: ns') (A := A2) (n := n2) (c := c2) (h := ⟨1, notS st0, none, 0, 0⟩) HB0.out HL1.out HB1.out HB2.out (by rw [HE.out]; rfl) (by rw [HE.out]; exact HY2.out) HNC2.out HCM2.out
  exact ⟨by rfl, .tuple #[.string (strB [46]), hdV ⟨1, notS st0, none, 0, 0⟩, .slice A2 n2 c2], by rw [results_tct rfl]; go_simp; exact ⟨rfl, rfl⟩, by have k := K (.int .i64 1) (.int .u64 ((notS st0).a.toNat : Int)) (.int .u64 ((notS st0).b.toNat : Int)) (.int .u64 ((notS st0).c.toNat : Int)) (.int .u64 ((notS st0).d.toNat : Int)) (.slice none 0 0); rw [HE.out] at k; exact k⟩
set_option maxRecDepth 100000 in
set_option maxHeartbeats 2000000 in
theorem build_cls (B d : Nat) (A : Option Addr) (n c : Nat) (ns : List UInt8) (w : World) (hB : B ≤ w.heap.size) (hy : Bys w B A n ns) (hn : 1 ≤ n) (hnc : n ≤ c) (hcm : c ≤ 9223372036854775807) (x0 : UInt8) (h0 : ns[0]? = some x0) (hj : x0.toNat % 9 = 8) :
    Calls Try.prog 21 #[.slice A n c, .int .i64 ((d : Int) + 1)] w (BuildPost B (d + 1) ns w) := by
  obtain ⟨w1, hw1⟩ : ∃ w1, w.alloc (.cells #[.int .i64 0, .int .u64 0, .int .u64 0, .int .u64 0, .int .u64 0, .slice none 0 0] 30) = w1 := ⟨_, rfl⟩
  have HZ1 := keepHid (node_new hw1)
  have HL1 : Hid (w.heap.size < w1.heap.size) := keepHid (by rw [← hw1]; simp)
  have hb1 : Below w.heap.size w w1 := by rw [← hw1]; exact (Below.refl _ _).alloc (Nat.le_refl _) _
  have HB1 := keepHid hb1
  have HY := keepHid hy
  have HLN := keepHid hy.len
  obtain ⟨ad, x, rfl, had, hx, hcell⟩ := hy.at_ (k := 0) (by omega)
  have hca : w1.cell? ad = some (.int .u8 (x.toNat : Int)) := by
    have h0 : ad.add 0 = ad := by unfold Addr.add; simp
    have := (hb1.cell (show (ad.add 0).block < w.heap.size by rw [ad_block]; omega)).trans hcell
    rwa [h0] at this
  obtain ⟨ns', hns⟩ : ∃ ns', ns = x :: ns' := by
    cases ns with
    | nil => simp at hx
    | cons a r => simp at hx; subst hx; exact ⟨r, rfl⟩
  subst hns
  have hsl := run_tail1 (some ad) n c hn hnc
  obtain ⟨A2, hA2⟩ : ∃ A2, (if c = 1 then some ad else (some ad).map (·.add 1)) = A2 := ⟨_, rfl⟩
  rw [hA2] at hsl
  have HB0 := keepHid hB
  have HY2 : Hid (Bys w B A2 (n - 1) ns') := keepHid (by
    have := hy.cut hn hnc
    rw [hA2] at this
    exact this)
  obtain ⟨n2, hn2⟩ : ∃ n2, n - 1 = n2 := ⟨_, rfl⟩
  obtain ⟨c2, hc2⟩ : ∃ c2, c - 1 = c2 := ⟨_, rfl⟩
  rw [hn2, hc2] at hsl
  rw [hn2] at HY2
  have HNC2 : Hid (n2 ≤ c2) := keepHid (by omega)
  have HCM2 : Hid (c2 ≤ 9223372036854775807) := keepHid (by omega)
  obtain ⟨y, hyx⟩ : ∃ y, x.toNat = y := ⟨_, rfl⟩
  have hy256 : y < 256 := by rw [← hyx]; exact u8lt x
  rw [hyx] at hca
  have hn' : (1 : Int) ≤ (n : Int) := by omega
  have hn'' : ((n : Int) == 0) = false := by simp; omega
  obtain rfl : x0 = x := by simpa using h0.symm
  have HE : Hid (bldL (d + 1) (x0 :: ns') = ([91, 94, 97, 45, 98, 93], .one (notS (withS (withS st0 97) 98)), ns')) := keepHid (by rw [bldL, if_neg (by omega), if_neg (by omega), if_neg (by omega), if_neg (by omega), if_neg (by omega), if_neg (by omega)])
  rw [hyx] at hj
  have e1 : (y : Int) % 9 = 8 := by omega
  clear hy hb1 hx hcell had hA2 hn2 hc2 hyx h0 hj
  go_enter Try.func21, Try.ntmps21
  go_wp2_with fail
  refine (with0 97 (by omega) w1).mono ?_
  rintro e w2 ⟨rfl, hb2⟩
  go_wp2_with fail
  refine (with_any (withS st0 97) 98 (by omega) w2).mono ?_
  rintro e w3 ⟨rfl, hb3⟩
  go_wp2_with fail
  refine (not_any (withS (withS st0 97) 98) w3).mono ?_
  rintro e w4 ⟨rfl, hb4⟩
  have hb24 := (hb2.trans (hb3.mono hb2.size)).trans (hb4.mono (Nat.le_trans hb2.size hb3.size))
  have HB2 := keepHid hb24
  obtain ⟨z0, z1, z2, z3, z4, z5, zf⟩ := blk6 (HZ1.out.below hb24 HZ1.out.lt)
  generalize notS (withS (withS st0 97) 98) = s at *
  clear hb2 hb3 hb4 hb24 hw1
  unfold stV
  go_wp2
  have K := build_fin (B := B) (d := d + 1) (ns := x0 :: ns') (A := A2) (n := n2) (c := c2) (h := ⟨1, s, none, 0, 0⟩) HB0.out HL1.out HB1.out HB2.out (by rw [HE.out]; rfl) (by rw [HE.out]; exact HY2.out) HNC2.out HCM2.out
  exact ⟨by rfl, .tuple #[.string (strB [91, 94, 97, 45, 98, 93]), hdV ⟨1, s, none, 0, 0⟩, .slice A2 n2 c2], by rw [results_tct rfl]; go_simp; exact ⟨rfl, rfl⟩, by have k := K (.int .i64 1) (.int .u64 (s.a.toNat : Int)) (.int .u64 (s.b.toNat : Int)) (.int .u64 (s.c.toNat : Int)) (.int .u64 (s.d.toNat : Int)) (.slice none 0 0); rw [HE.out] at k; exact k⟩
end Go.Proofs.Ytlmjijejgfhmmaa
