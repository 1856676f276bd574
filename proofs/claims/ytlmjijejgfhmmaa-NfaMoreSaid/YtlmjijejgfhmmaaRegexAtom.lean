/-
  The reader of patterns: an atom.
-/
import Derived.Test.YtlmjijejgfhmmaaRegexGroup
import Derived.WalkKit
import Derived.OwnWalk
import Derived.ProofKit
import Derived.WalkLawsBesides
import Derived.IntWalk
import Derived.RegionTactic
import Derived.BigRegion
import Derived.ChangeAlike
import Derived.Deep.QuietTactic
import Derived.BigQuiet
import Derived.Deep.RegionHeld3
import Derived.Deep.DrawnRows
import Derived.Outline
import Derived.Deep.DeepCutAuto
namespace Go.Proofs.Ytlmjijejgfhmmaa
open Go.RowKit
set_option linter.unusedVariables false





theorem Went.far {g d : Nat} {bs r : List UInt8} {a b w : World} (h : Only g a b) (k : Went g bs d r b w) : Went g bs d r a w := ⟨k.at_, h.trans k.only⟩
theorem read_six {g d : Nat} {bs : List UInt8} {x : R Re} {w w1 w3 : World} {h : Hd} {ok : Bool} (hg : g < w.heap.size) (h1 : w.heap.size < w1.heap.size) (ho : Only g w w1)
    (hok : ok = true → ∃ r, x.1 = some r ∧ IsRe w3 w1.heap.size h r) (hno : ok = false → x.1 = none) (hw : Went g bs d x.2 w1 w3) (u0 u1 u2 u3 u4 u5 : Value) :
    ReadPost g bs d x w (.returned (.tuple #[hdV h, .bool ok])) ((((((w3.setCell ⟨w.heap.size, 0, none⟩ u0).setCell ⟨w.heap.size, 1, none⟩ u1).setCell ⟨w.heap.size, 2, none⟩ u2).setCell ⟨w.heap.size, 3, none⟩ u3).setCell ⟨w.heap.size, 4, none⟩ u4).setCell ⟨w.heap.size, 5, none⟩ u5) := by
  refine ⟨h, ok, rfl, fun e => ?_, hno, (hw.far ho).six (by omega) (Nat.le_refl _) _ _ _ _ _ _⟩
  obtain ⟨r, e1, e2⟩ := hok e
  exact ⟨r, e1, (e2.keep fun j hj _ => six_far (by omega)).low (by omega)⟩
section
variable {d : Nat} {grp : List UInt8 → R Re}
set_option maxHeartbeats 800000 in
theorem atom_group (HG : Spec1 59 d grp) {g i : Nat} {bs : List UInt8} {w : World} (h : Ps w g bs i d) (hlt : i < bs.length) (hx : nx 40 (bs.drop i) = true) :
    Calls Try.prog 55 #[.pointer (some ⟨g, 0, none⟩)] w (ReadPost g bs d (atomF grp (bs.drop i)) w) := by
  have HF : Hid (atomF grp (bs.drop i) = grp (bs.drop i)) := keepHid (by unfold atomF; rw [if_pos hx])
  rw [HF.out]
  clear HF
  have HGR := keepHid HG
  clear HG
  obtain ⟨w1, hw1⟩ : ∃ w1, w.alloc (.cells #[.int .i64 0, .int .u64 0, .int .u64 0, .int .u64 0, .int .u64 0, .slice none 0 0] 30) = w1 := ⟨_, rfl⟩
  have HG := keepHid h.lt
  have hp1 : Ps w1 g bs i d := by rw [← hw1]; exact h.alloc _
  have HZ1 := keepHid (node_new hw1)
  have HO1 : Hid (Only g w w1) := keepHid (by rw [← hw1]; exact (Only.refl w g).alloc _)
  have HL1 : Hid (w.heap.size < w1.heap.size) := keepHid (by rw [← hw1]; simp)
  have HP1 := keepHid hp1
  have HLT := keepHid hlt
  obtain ⟨c0, c1, c2, cf⟩ := hp1.cells
  have hle : bs.length ≤ 64 := h.max
  obtain ⟨x', hx0, hdr⟩ := head_of hlt
  obtain rfl : x' = 40 := by rw [hdr, nx_cons] at hx; simpa using hx
  have hix := fun w => run_idx hx0 (i : Int) rfl w
  rw [show (((40 : UInt8)).toNat : Int) = 40 from rfl] at hix
  clear h hp1 hlt hx hdr hx0
  have hsz : (strB bs).size = bs.length := strB_size bs
  generalize strB bs = S at *
  go_enter Try.func55, Try.ntmps55
  go_wp2
  go_quiet (fail)
  have HP2 := keepHid (HP1.out.drewN nq)
  have HZ2 := keepHid (HZ1.out.drewN nq)
  have HO2 := keepHid (HO1.out.drewN nq)
  have HL2 : Hid (w.heap.size < (w1.drewN nq).heap.size) := keepHid HL1.out
  generalize w1.drewN nq = w2 at *
  clear c0 c1 c2 cf HP1 HZ1 HO1 HL1 hw1
  go_wp2_with fail
  refine (HGR.out g bs i w2 HP2.out HLT.out).mono ?_
  rintro e w3 ⟨n, ok, rfl, hok, hno, hwent⟩
  have HZ3 := keepHid (HZ2.out.only hwent.only (by have := HG.out; intro e; injection e; omega))
  have K := keepHid (read_six HG.out HL2.out HO2.out hok hno hwent)
  clear hok hno hwent
  obtain ⟨z0, z1, z2, z3, z4, z5, zf⟩ := blk6 HZ3.out
  unfold hdV
  go_wp2
  exact ⟨by rfl, .tuple #[hdV n, .bool ok], by rw [results_cell_tmp rfl]; go_simp; rfl, K.out _ _ _ _ _ _⟩
set_option maxHeartbeats 800000 in
theorem atom_class {g i : Nat} {bs : List UInt8} {w : World} (h : Ps w g bs i d) (hlt : i < bs.length) (hx : nx 91 (bs.drop i) = true) :
    Calls Try.prog 55 #[.pointer (some ⟨g, 0, none⟩)] w (ReadPost g bs d (atomF grp (bs.drop i)) w) := by
  have h40 : nx 40 (bs.drop i) = false := by
    obtain ⟨x, _, hdr⟩ := head_of hlt
    rw [hdr, nx_cons] at hx ⊢
    obtain rfl : x = 91 := by simpa using hx
    rfl
  have HF : Hid (atomF grp (bs.drop i) = clsF (bs.drop i)) := keepHid (by unfold atomF; rw [h40, if_neg (by simp), if_pos hx])
  rw [HF.out]
  clear HF h40
  obtain ⟨w1, hw1⟩ : ∃ w1, w.alloc (.cells #[.int .i64 0, .int .u64 0, .int .u64 0, .int .u64 0, .int .u64 0, .slice none 0 0] 30) = w1 := ⟨_, rfl⟩
  have HG := keepHid h.lt
  have hp1 : Ps w1 g bs i d := by rw [← hw1]; exact h.alloc _
  have HZ1 := keepHid (node_new hw1)
  have HO1 : Hid (Only g w w1) := keepHid (by rw [← hw1]; exact (Only.refl w g).alloc _)
  have HL1 : Hid (w.heap.size < w1.heap.size) := keepHid (by rw [← hw1]; simp)
  have HP1 := keepHid hp1
  have HLT := keepHid hlt
  obtain ⟨c0, c1, c2, cf⟩ := hp1.cells
  have hle : bs.length ≤ 64 := h.max
  obtain ⟨x', hx0, hdr⟩ := head_of hlt
  obtain rfl : x' = 91 := by rw [hdr, nx_cons] at hx; simpa using hx
  have hix := fun w => run_idx hx0 (i : Int) rfl w
  rw [show (((91 : UInt8)).toNat : Int) = 91 from rfl] at hix
  clear h hp1 hlt hx hdr hx0
  have hsz : (strB bs).size = bs.length := strB_size bs
  generalize strB bs = S at *
  go_enter Try.func55, Try.ntmps55
  go_wp2
  go_quiet (fail)
  have HP2 := keepHid (HP1.out.drewN nq)
  have HZ2 := keepHid (HZ1.out.drewN nq)
  have HO2 := keepHid (HO1.out.drewN nq)
  have HL2 : Hid (w.heap.size < (w1.drewN nq).heap.size) := keepHid HL1.out
  generalize w1.drewN nq = w2 at *
  clear c0 c1 c2 cf HP1 HZ1 HO1 HL1 hw1
  go_wp2_with fail
  refine (class_any HP2.out HLT.out).mono ?_
  rintro e w3 ⟨n, ok, rfl, hok, hno, hwent⟩
  have HZ3 := keepHid (HZ2.out.only hwent.only (by have := HG.out; intro e; injection e; omega))
  have K := keepHid (read_six HG.out HL2.out HO2.out hok hno hwent)
  clear hok hno hwent
  obtain ⟨z0, z1, z2, z3, z4, z5, zf⟩ := blk6 HZ3.out
  unfold hdV
  go_wp2
  exact ⟨by rfl, .tuple #[hdV n, .bool ok], by rw [results_cell_tmp rfl]; go_simp; rfl, K.out _ _ _ _ _ _⟩
end
end Go.Proofs.Ytlmjijejgfhmmaa
