/-
  The statements' own build: patterns that numbers make.
-/
import Derived.Test.YtlmjijejgfhmmaaRegexMakes
import Derived.Test.YtlmjijejgfhmmaaRegexClone
import Derived.Test.YtlmjijejgfhmmaaRegexParse
import Derived.WalkKit
import Derived.OwnWalk
import Derived.ProofKit
import Derived.WalkLawsBesides
import Derived.IntWalk
import Derived.RegionTactic
import Derived.BigRegion
import Derived.ChangeAlike
import Derived.Deep.QuietTactic
import Derived.BigQuiet
import Derived.Deep.RegionHeld3
import Derived.Deep.DrawnRows
import Derived.Outline
import Derived.Deep.DeepCutAuto
import Derived.Deep.DeepCutAuto
namespace Go.Proofs.Ytlmjijejgfhmmaa
open Go.RowKit
set_option linter.unusedVariables false




theorem BuildPost.alloc {B d : Nat} {ns : List UInt8} {w WF : World} {e : Ending} (hB : B ≤ WF.heap.size) (k : BuildPost B d ns w e WF) (o : Obj) : BuildPost B d ns w e (WF.alloc o) := by
  obtain ⟨h, A, n, c, he, hi, hy, hn, hc, hb⟩ := k
  have hbo : Below WF.heap.size WF (WF.alloc o) := (Below.refl _ _).alloc (Nat.le_refl _) _
  exact ⟨h, A, n, c, he, hi.below hbo, hy.below (hbo.mono hB), hn, hc, hb.trans (hbo.mono hb.size)⟩
theorem abc_at (j : Nat) (hj : j < 3) (w : World) : (Instr.index 9 (.string ⟨#[97, 98, 99]⟩) (.int .u8 (j : Int))).run Try.prog w = .ok (.int .u8 ((97 + j : Nat) : Int)) w := by
  rcases (by omega : j = 0 ∨ j = 1 ∨ j = 2) with rfl | rfl | rfl <;> kernel_rfl
theorem conv_one (c : UInt8) (W : World) (q : Nat) (h : W.cell? ⟨q, 0, none⟩ = some (.int .u8 (c.toNat : Int))) : (convert 22 9 (.slice (some ⟨q, 0, none⟩) 1 1)).run Try.prog W = .ok (.string (strB [c])) W :=
  run_str (B := q + 1) 22 5 9 Try.underlying22 Try.underlying5 Try.underlying9 ⟨rfl, by unfold maxLen; omega, fun k c' hk => by
    match k with
    | 0 => simp at hk; subst hk; exact ⟨_, rfl, Nat.lt_succ_self _, by rw [zero_add_ad]; exact h⟩
    | k + 1 => simp at hk⟩
set_option maxRecDepth 100000 in
set_option maxHeartbeats 1000000 in
theorem build_zero (B : Nat) (A : Option Addr) (n c : Nat) (ns : List UInt8) (w : World) (hB : B ≤ w.heap.size) (hy : Bys w B A n ns) (hn : 1 ≤ n) (hnc : n ≤ c) (hcm : c ≤ 9223372036854775807) :
    Calls Try.prog 21 #[.slice A n c, .int .i64 0] w (BuildPost B 0 ns w) := by
  obtain ⟨w1, hw1⟩ : ∃ w1, w.alloc (.cells #[.int .i64 0, .int .u64 0, .int .u64 0, .int .u64 0, .int .u64 0, .slice none 0 0] 30) = w1 := ⟨_, rfl⟩
  have HZ1 := keepHid (node_new hw1)
  have HL1 : Hid (w.heap.size < w1.heap.size) := keepHid (by rw [← hw1]; simp)
  have hb1 : Below w.heap.size w w1 := by rw [← hw1]; exact (Below.refl _ _).alloc (Nat.le_refl _) _
  have HB1 := keepHid hb1
  have HY := keepHid hy
  have HLN := keepHid hy.len
  obtain ⟨ad, x, rfl, had, hx, hcell⟩ := hy.at_ (k := 0) (by omega)
  have hca : w1.cell? ad = some (.int .u8 (x.toNat : Int)) := by
    have h0 : ad.add 0 = ad := by unfold Addr.add; simp
    have := (hb1.cell (show (ad.add 0).block < w.heap.size by rw [ad_block]; omega)).trans hcell
    rwa [h0] at this
  obtain ⟨ns', hns⟩ : ∃ ns', ns = x :: ns' := by
    cases ns with
    | nil => simp at hx
    | cons a r => simp at hx; subst hx; exact ⟨r, rfl⟩
  subst hns
  have hsl := run_tail1 (some ad) n c hn hnc
  obtain ⟨A2, hA2⟩ : ∃ A2, (if c = 1 then some ad else (some ad).map (·.add 1)) = A2 := ⟨_, rfl⟩
  rw [hA2] at hsl
  have HB0 := keepHid hB
  have HY2 : Hid (Bys w B A2 (n - 1) ns') := keepHid (by
    have := hy.cut hn hnc
    rw [hA2] at this
    exact this)
  obtain ⟨n2, hn2⟩ : ∃ n2, n - 1 = n2 := ⟨_, rfl⟩
  obtain ⟨c2, hc2⟩ : ∃ c2, c - 1 = c2 := ⟨_, rfl⟩
  rw [hn2, hc2] at hsl
  rw [hn2] at HY2
  have HNC2 : Hid (n2 ≤ c2) := keepHid (by omega)
  have HCM2 : Hid (c2 ≤ 9223372036854775807) := keepHid (by omega)
  obtain ⟨y, hyx⟩ : ∃ y, x.toNat = y := ⟨_, rfl⟩
  have hy256 : y < 256 := by rw [← hyx]; exact u8lt x
  rw [hyx] at hca
  have hn' : (1 : Int) ≤ (n : Int) := by omega
  have hn'' : ((n : Int) == 0) = false := by simp; omega
  obtain ⟨j, hj⟩ : ∃ j, y % 3 = j := ⟨_, rfl⟩
  have hj3 : j < 3 := by rw [← hj]; exact Nat.mod_lt _ (by omega)
  have HE : Hid (bldL 0 (x :: ns') = ([UInt8.ofNat (97 + j)], .one (withS st0 (97 + j)), ns')) := keepHid (by rw [bldL, hyx, hj])
  have e1 : (y : Int) % 3 = (j : Int) := by omega
  have habc := abc_at j hj3
  obtain ⟨cv, hcv⟩ : ∃ cv, 97 + j = cv := ⟨_, rfl⟩
  have hcvN : (UInt8.ofNat cv).toNat = cv := by rw [UInt8.toNat_ofNat']; exact Nat.mod_eq_of_lt (by omega)
  rw [hcv] at habc HE
  have HCV : Hid (cv < 256) := keepHid (by omega)
  have hconv : ∀ (W : World) (q : Nat), W.cell? ⟨q, 0, none⟩ = some (.int .u8 (cv : Int)) → (convert 22 9 (.slice (some ⟨q, 0, none⟩) 1 1)).run Try.prog W = .ok (.string (strB [UInt8.ofNat cv])) W := fun W q h => conv_one (UInt8.ofNat cv) W q (by rw [hcvN]; exact h)
  obtain ⟨S, hS⟩ : ∃ S, strB [UInt8.ofNat cv] = S := ⟨_, rfl⟩
  rw [hS] at hconv
  have HSS := keepHid hS
  have hz1 := HZ1.out
  obtain ⟨z0, z1, z2, z3, z4, z5, zf⟩ := blk6 hz1
  have hlt1 : w.heap.size < w1.heap.size := hz1.lt
  clear hy hb1 hx hcell had hA2 hn2 hc2 hyx hj hcv hcvN hS hz1
  go_enter Try.func21, Try.ntmps21
  go_upto_region 7 with fail
  clear hw1 hca hsl
  obtain ⟨wA, hwA⟩ : ∃ wA, w1.alloc (.cells #[.int .u8 (cv : Int)] 5) = wA := ⟨_, rfl⟩
  have hA1 : Below w1.heap.size w1 wA := by rw [← hwA]; exact (Below.refl _ _).alloc (Nat.le_refl _) _
  have hqA : wA.cell? ⟨w1.heap.size, 0, none⟩ = some (.int .u8 (cv : Int)) := by rw [← hwA]; simp
  have HBA := keepHid hA1
  have HQA := keepHid hqA
  have HKa := keepHid (byteNode_any cv HCV.out w1.drew)
  have HKb := keepHid (byteNode_any cv HCV.out wA.drew)
  have za := blk6 (HZ1.out.below hA1 HZ1.out.lt)
  obtain ⟨b0, b1, b2, b3, b4, b5, bf⟩ := za
  have hltA : w.heap.size < wA.heap.size := (HZ1.out.below hA1 HZ1.out.lt).lt
  clear hA1
  go_region_with
    (first
      | (go_at_call 32
         (with_reducible refine HKa.out.mono ?_)
         rintro e wK ⟨rfl, hbK⟩
         have hB1K : Below w1.heap.size w1 wK := (Below.drew (Below.refl w1.heap.size w1)).trans hbK
         have HBK := keepHid hB1K
         have hzk := HZ1.out.below hB1K HZ1.out.lt
         have hltk : w.heap.size < wK.heap.size := hzk.lt
         obtain ⟨t0, t1, t2, t3, t4, t5, tf⟩ := blk6 hzk
         clear hbK hB1K hzk
         unfold hdV)
      | (go_at_call 32
         (with_reducible refine HKb.out.mono ?_)
         rintro e wK ⟨rfl, hbK⟩
         have hBAK : Below wA.heap.size wA wK := (Below.drew (Below.refl wA.heap.size wA)).trans hbK
         have hB1K : Below w1.heap.size w1 wK := HBA.out.trans (hBAK.mono HBA.out.size)
         have HBK := keepHid hB1K
         have hq : wK.cell? ⟨w1.heap.size, 0, none⟩ = some (.int .u8 (cv : Int)) := by rw [hBAK.cell (World.block_lt_of_cell? _ _ HQA.out)]; exact HQA.out
         have hzk := HZ1.out.below hB1K HZ1.out.lt
         have hltk : w.heap.size < wK.heap.size := hzk.lt
         obtain ⟨t0, t1, t2, t3, t4, t5, tf⟩ := blk6 hzk
         clear hbK hB1K hBAK hzk
         unfold hdV))
  all_goals
    go_wp2
    have K := build_fin (B := B) (d := 0) (ns := x :: ns') (A := A2) (n := n2) (c := c2) (h := ⟨1, withS st0 cv, none, 0, 0⟩) HB0.out HL1.out HB1.out HBK.out (by rw [HE.out]; rfl) (by rw [HE.out]; exact HY2.out) HNC2.out HCM2.out
    have k := K (.int .i64 1) (.int .u64 ((withS st0 cv).a.toNat : Int)) (.int .u64 ((withS st0 cv).b.toNat : Int)) (.int .u64 ((withS st0 cv).c.toNat : Int)) (.int .u64 ((withS st0 cv).d.toNat : Int)) (.slice none 0 0)
    rw [HE.out] at k
    simp only [HSS.out] at k
    refine bodyPost_ret (v := .tuple #[.string S, hdV ⟨1, withS st0 cv, none, 0, 0⟩, .slice A2 n2 c2]) (by rw [results_tct rfl]; go_simp; rfl) rfl ?_
    first | (with_reducible exact k) | (with_reducible refine BuildPost.alloc ?_ k _; have := HB0.out; simp only [World.size_setCell]; omega)
end Go.Proofs.Ytlmjijejgfhmmaa
