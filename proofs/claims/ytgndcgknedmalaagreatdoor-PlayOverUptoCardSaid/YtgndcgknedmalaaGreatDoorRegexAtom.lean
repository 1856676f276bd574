/-
  The reader of patterns: an atom.
-/
import Derived.Test.YtgndcgknedmalaaGreatDoorRegexMembers
import Derived.WalkKit
import Derived.OwnWalk
import Derived.ProofKit
import Derived.WalkLawsBesides
import Derived.IntWalk
import Derived.RegionTactic
import Derived.BigRegion
import Derived.ChangeAlike
import Derived.Deep.QuietTactic
import Derived.BigQuiet
import Derived.Deep.RegionHeld3
import Derived.Deep.DrawnRows
import Derived.Outline
import Derived.Deep.DeepCutAuto
import Derived.Test.YtgndcgknedmalaaGreatDoorErrWrap
namespace Go.Proofs.YtgndcgknedmalaaGreatDoor
open Go.RowKit
set_option linter.unusedVariables false





theorem Went.far {g d : Nat} {bs r : List UInt8} {a b w : World} (h : Only g a b) (k : Went g bs d r b w) : Went g bs d r a w := ⟨k.at_, h.trans k.only⟩
theorem read_six {g d : Nat} {bs : List UInt8} {x : R Re} {w w1 w3 : World} {h : Hd} {ok : Bool} (hg : g < w.heap.size) (h1 : w.heap.size < w1.heap.size) (ho : Only g w w1)
    (hok : ok = true → ∃ r, x.1 = some r ∧ IsRe w3 w1.heap.size h r) (hno : ok = false → x.1 = none) (hw : Went g bs d x.2 w1 w3) (u0 u1 u2 u3 u4 u5 : Value) :
    ReadPost g bs d x w (.returned (.tuple #[hdV h, .bool ok])) ((((((w3.setCell ⟨w.heap.size, 0, none⟩ u0).setCell ⟨w.heap.size, 1, none⟩ u1).setCell ⟨w.heap.size, 2, none⟩ u2).setCell ⟨w.heap.size, 3, none⟩ u3).setCell ⟨w.heap.size, 4, none⟩ u4).setCell ⟨w.heap.size, 5, none⟩ u5) := by
  refine ⟨h, ok, rfl, fun e => ?_, hno, (hw.far ho).six (by omega) (Nat.le_refl _) _ _ _ _ _ _⟩
  obtain ⟨r, e1, e2⟩ := hok e
  exact ⟨r, e1, (e2.keep fun j hj _ => six_far (by omega)).low (by omega)⟩
section
variable {d : Nat} {grp : List UInt8 → R Re}
set_option maxHeartbeats 800000 in
theorem atom_group (HG : Spec1 133 d grp) {g i : Nat} {bs : List UInt8} {w : World} (h : Ps w g bs i d) (hlt : i < bs.length) (hx : nx 40 (bs.drop i) = true) :
    Calls Tryz.prog 128 #[.pointer (some ⟨g, 0, none⟩)] w (ReadPost g bs d (atomF grp (bs.drop i)) w) := by
  have HF : Hid (atomF grp (bs.drop i) = grp (bs.drop i)) := keepHid (by unfold atomF; rw [if_pos hx])
  rw [HF.out]
  clear HF
  have HGR := keepHid HG
  clear HG
  obtain ⟨w1, hw1⟩ : ∃ w1, w.alloc (.cells #[.int .i64 0, .int .u64 0, .int .u64 0, .int .u64 0, .int .u64 0, .slice none 0 0] 76) = w1 := ⟨_, rfl⟩
  have HG := keepHid h.lt
  have hp1 : Ps w1 g bs i d := by rw [← hw1]; exact h.alloc _
  have HZ1 := keepHid (node_new hw1)
  have HO1 : Hid (Only g w w1) := keepHid (by rw [← hw1]; exact (Only.refl w g).alloc _)
  have HL1 : Hid (w.heap.size < w1.heap.size) := keepHid (by rw [← hw1]; simp)
  have HP1 := keepHid hp1
  have HLT := keepHid hlt
  obtain ⟨c0, c1, c2, cf⟩ := hp1.cells
  have hle : bs.length ≤ 64 := h.max
  obtain ⟨x', hx0, hdr⟩ := head_of hlt
  obtain rfl : x' = 40 := by rw [hdr, nx_cons] at hx; simpa using hx
  have hix := fun w => run_idx hx0 (i : Int) rfl w
  rw [show (((40 : UInt8)).toNat : Int) = 40 from rfl] at hix
  clear h hp1 hlt hx hdr hx0
  have hsz : (strB bs).size = bs.length := strB_size bs
  generalize strB bs = S at *
  go_enter Tryz.func128, Tryz.ntmps128
  go_wp2
  go_quiet (fail)
  have HP2 := keepHid (HP1.out.drewN nq)
  have HZ2 := keepHid (HZ1.out.drewN nq)
  have HO2 := keepHid (HO1.out.drewN nq)
  have HL2 : Hid (w.heap.size < (w1.drewN nq).heap.size) := keepHid HL1.out
  generalize w1.drewN nq = w2 at *
  clear c0 c1 c2 cf HP1 HZ1 HO1 HL1 hw1
  go_wp2_with fail
  refine (HGR.out g bs i w2 HP2.out HLT.out).mono ?_
  rintro e w3 ⟨n, ok, rfl, hok, hno, hwent⟩
  have HZ3 := keepHid (HZ2.out.only hwent.only (by have := HG.out; intro e; injection e; omega))
  have K := keepHid (read_six HG.out HL2.out HO2.out hok hno hwent)
  clear hok hno hwent
  obtain ⟨z0, z1, z2, z3, z4, z5, zf⟩ := blk6 HZ3.out
  unfold hdV
  go_wp2
  exact ⟨by rfl, .tuple #[hdV n, .bool ok], by rw [results_cell_tmp rfl]; go_simp; rfl, K.out _ _ _ _ _ _⟩
set_option maxHeartbeats 800000 in
theorem atom_class {g i : Nat} {bs : List UInt8} {w : World} (h : Ps w g bs i d) (hlt : i < bs.length) (hx : nx 91 (bs.drop i) = true) :
    Calls Tryz.prog 128 #[.pointer (some ⟨g, 0, none⟩)] w (ReadPost g bs d (atomF grp (bs.drop i)) w) := by
  have h40 : nx 40 (bs.drop i) = false := by
    obtain ⟨x, _, hdr⟩ := head_of hlt
    rw [hdr, nx_cons] at hx ⊢
    obtain rfl : x = 91 := by simpa using hx
    rfl
  have HF : Hid (atomF grp (bs.drop i) = clsF (bs.drop i)) := keepHid (by unfold atomF; rw [h40, if_neg (by simp), if_pos hx])
  rw [HF.out]
  clear HF h40
  obtain ⟨w1, hw1⟩ : ∃ w1, w.alloc (.cells #[.int .i64 0, .int .u64 0, .int .u64 0, .int .u64 0, .int .u64 0, .slice none 0 0] 76) = w1 := ⟨_, rfl⟩
  have HG := keepHid h.lt
  have hp1 : Ps w1 g bs i d := by rw [← hw1]; exact h.alloc _
  have HZ1 := keepHid (node_new hw1)
  have HO1 : Hid (Only g w w1) := keepHid (by rw [← hw1]; exact (Only.refl w g).alloc _)
  have HL1 : Hid (w.heap.size < w1.heap.size) := keepHid (by rw [← hw1]; simp)
  have HP1 := keepHid hp1
  have HLT := keepHid hlt
  obtain ⟨c0, c1, c2, cf⟩ := hp1.cells
  have hle : bs.length ≤ 64 := h.max
  obtain ⟨x', hx0, hdr⟩ := head_of hlt
  obtain rfl : x' = 91 := by rw [hdr, nx_cons] at hx; simpa using hx
  have hix := fun w => run_idx hx0 (i : Int) rfl w
  rw [show (((91 : UInt8)).toNat : Int) = 91 from rfl] at hix
  clear h hp1 hlt hx hdr hx0
  have hsz : (strB bs).size = bs.length := strB_size bs
  generalize strB bs = S at *
  go_enter Tryz.func128, Tryz.ntmps128
  go_wp2
  go_quiet (fail)
  have HP2 := keepHid (HP1.out.drewN nq)
  have HZ2 := keepHid (HZ1.out.drewN nq)
  have HO2 := keepHid (HO1.out.drewN nq)
  have HL2 : Hid (w.heap.size < (w1.drewN nq).heap.size) := keepHid HL1.out
  generalize w1.drewN nq = w2 at *
  clear c0 c1 c2 cf HP1 HZ1 HO1 HL1 hw1
  go_wp2_with fail
  refine (class_any HP2.out HLT.out).mono ?_
  rintro e w3 ⟨n, ok, rfl, hok, hno, hwent⟩
  have HZ3 := keepHid (HZ2.out.only hwent.only (by have := HG.out; intro e; injection e; omega))
  have K := keepHid (read_six HG.out HL2.out HO2.out hok hno hwent)
  clear hok hno hwent
  obtain ⟨z0, z1, z2, z3, z4, z5, zf⟩ := blk6 HZ3.out
  unfold hdV
  go_wp2
  exact ⟨by rfl, .tuple #[hdV n, .bool ok], by rw [results_cell_tmp rfl]; go_simp; rfl, K.out _ _ _ _ _ _⟩
end






section
variable {d : Nat} {grp : List UInt8 → R Re}
theorem nx_other {bs : List UInt8} {i : Nat} (hlt : i < bs.length) (a b : UInt8) (hx : nx a (bs.drop i) = true) (hab : a ≠ b) : nx b (bs.drop i) = false := by
  obtain ⟨x, _, hdr⟩ := head_of hlt
  rw [hdr, nx_cons] at hx ⊢
  obtain rfl : x = a := by simpa using hx
  simpa using hab
set_option maxHeartbeats 800000 in
theorem atom_no93 {g i : Nat} {bs : List UInt8} {w : World} (h : Ps w g bs i d) (hlt : i < bs.length) (hx : nx 93 (bs.drop i) = true) :
    Calls Tryz.prog 128 #[.pointer (some ⟨g, 0, none⟩)] w (ReadPost g bs d (atomF grp (bs.drop i)) w) := by
  have HF : Hid (atomF grp (bs.drop i) = (none, bs.drop i)) := keepHid (by
    unfold atomF
    rw [nx_other hlt 93 40 hx (by decide), nx_other hlt 93 91 hx (by decide)]
    simp [hx])
  obtain ⟨w1, hw1⟩ : ∃ w1, w.alloc (.cells #[.int .i64 0, .int .u64 0, .int .u64 0, .int .u64 0, .int .u64 0, .slice none 0 0] 76) = w1 := ⟨_, rfl⟩
  have HG := keepHid h.lt
  have hp1 : Ps w1 g bs i d := by rw [← hw1]; exact h.alloc _
  have HZ1 := keepHid (node_new hw1)
  have HO1 : Hid (Only g w w1) := keepHid (by rw [← hw1]; exact (Only.refl w g).alloc _)
  have HL1 : Hid (w.heap.size < w1.heap.size) := keepHid (by rw [← hw1]; simp)
  have HP1 := keepHid hp1
  have HLT := keepHid hlt
  obtain ⟨c0, c1, c2, cf⟩ := hp1.cells
  have hle : bs.length ≤ 64 := h.max
  obtain ⟨x', hx0, hdr⟩ := head_of hlt
  obtain rfl : x' = 93 := by rw [hdr, nx_cons] at hx; simpa using hx
  have hix := fun w => run_idx hx0 (i : Int) rfl w
  rw [show (((93 : UInt8)).toNat : Int) = 93 from rfl] at hix
  clear h hp1 hlt hx hdr hx0
  have hsz : (strB bs).size = bs.length := strB_size bs
  generalize strB bs = S at *
  go_enter Tryz.func128, Tryz.ntmps128
  go_wp2
  go_quiet (fail)
  have HP2 := keepHid (HP1.out.drewN nq)
  have HZ2 := keepHid (HZ1.out.drewN nq)
  have HO2 := keepHid (HO1.out.drewN nq)
  have HL2 : Hid (w.heap.size < (w1.drewN nq).heap.size) := keepHid HL1.out
  generalize w1.drewN nq = w2 at *
  clear c0 c1 c2 cf HP1 HZ1 HO1 HL1 hw1
  obtain ⟨z0, z1, z2, z3, z4, z5, zf⟩ := blk6 HZ2.out
  have K := keepHid (read_six (x := (none, bs.drop i)) (h := hd0) (ok := false) HG.out HL2.out HO2.out (fun h => by cases h) (fun _ => rfl) ⟨⟨i, rfl, HP2.out⟩, Only.refl w2 g⟩)
  go_wp2
  exact ⟨by rfl, .tuple #[hdV hd0, .bool false], by rw [results_cell_tmp rfl]; go_simp; rfl, by rw [HF.out]; exact K.out _ _ _ _ _ _⟩
set_option maxHeartbeats 800000 in
theorem atom_no42 {g i : Nat} {bs : List UInt8} {w : World} (h : Ps w g bs i d) (hlt : i < bs.length) (hx : nx 42 (bs.drop i) = true) :
    Calls Tryz.prog 128 #[.pointer (some ⟨g, 0, none⟩)] w (ReadPost g bs d (atomF grp (bs.drop i)) w) := by
  have HF : Hid (atomF grp (bs.drop i) = (none, bs.drop i)) := keepHid (by
    unfold atomF
    rw [nx_other hlt 42 40 hx (by decide), nx_other hlt 42 91 hx (by decide)]
    simp [hx])
  obtain ⟨w1, hw1⟩ : ∃ w1, w.alloc (.cells #[.int .i64 0, .int .u64 0, .int .u64 0, .int .u64 0, .int .u64 0, .slice none 0 0] 76) = w1 := ⟨_, rfl⟩
  have HG := keepHid h.lt
  have hp1 : Ps w1 g bs i d := by rw [← hw1]; exact h.alloc _
  have HZ1 := keepHid (node_new hw1)
  have HO1 : Hid (Only g w w1) := keepHid (by rw [← hw1]; exact (Only.refl w g).alloc _)
  have HL1 : Hid (w.heap.size < w1.heap.size) := keepHid (by rw [← hw1]; simp)
  have HP1 := keepHid hp1
  have HLT := keepHid hlt
  obtain ⟨c0, c1, c2, cf⟩ := hp1.cells
  have hle : bs.length ≤ 64 := h.max
  obtain ⟨x', hx0, hdr⟩ := head_of hlt
  obtain rfl : x' = 42 := by rw [hdr, nx_cons] at hx; simpa using hx
  have hix := fun w => run_idx hx0 (i : Int) rfl w
  rw [show (((42 : UInt8)).toNat : Int) = 42 from rfl] at hix
  clear h hp1 hlt hx hdr hx0
  have hsz : (strB bs).size = bs.length := strB_size bs
  generalize strB bs = S at *
  go_enter Tryz.func128, Tryz.ntmps128
  go_wp2
  go_quiet (fail)
  have HP2 := keepHid (HP1.out.drewN nq)
  have HZ2 := keepHid (HZ1.out.drewN nq)
  have HO2 := keepHid (HO1.out.drewN nq)
  have HL2 : Hid (w.heap.size < (w1.drewN nq).heap.size) := keepHid HL1.out
  generalize w1.drewN nq = w2 at *
  clear c0 c1 c2 cf HP1 HZ1 HO1 HL1 hw1
  obtain ⟨z0, z1, z2, z3, z4, z5, zf⟩ := blk6 HZ2.out
  have K := keepHid (read_six (x := (none, bs.drop i)) (h := hd0) (ok := false) HG.out HL2.out HO2.out (fun h => by cases h) (fun _ => rfl) ⟨⟨i, rfl, HP2.out⟩, Only.refl w2 g⟩)
  go_wp2
  exact ⟨by rfl, .tuple #[hdV hd0, .bool false], by rw [results_cell_tmp rfl]; go_simp; rfl, by rw [HF.out]; exact K.out _ _ _ _ _ _⟩
set_option maxHeartbeats 800000 in
theorem atom_no43 {g i : Nat} {bs : List UInt8} {w : World} (h : Ps w g bs i d) (hlt : i < bs.length) (hx : nx 43 (bs.drop i) = true) :
    Calls Tryz.prog 128 #[.pointer (some ⟨g, 0, none⟩)] w (ReadPost g bs d (atomF grp (bs.drop i)) w) := by
  have HF : Hid (atomF grp (bs.drop i) = (none, bs.drop i)) := keepHid (by
    unfold atomF
    rw [nx_other hlt 43 40 hx (by decide), nx_other hlt 43 91 hx (by decide)]
    simp [hx])
  obtain ⟨w1, hw1⟩ : ∃ w1, w.alloc (.cells #[.int .i64 0, .int .u64 0, .int .u64 0, .int .u64 0, .int .u64 0, .slice none 0 0] 76) = w1 := ⟨_, rfl⟩
  have HG := keepHid h.lt
  have hp1 : Ps w1 g bs i d := by rw [← hw1]; exact h.alloc _
  have HZ1 := keepHid (node_new hw1)
  have HO1 : Hid (Only g w w1) := keepHid (by rw [← hw1]; exact (Only.refl w g).alloc _)
  have HL1 : Hid (w.heap.size < w1.heap.size) := keepHid (by rw [← hw1]; simp)
  have HP1 := keepHid hp1
  have HLT := keepHid hlt
  obtain ⟨c0, c1, c2, cf⟩ := hp1.cells
  have hle : bs.length ≤ 64 := h.max
  obtain ⟨x', hx0, hdr⟩ := head_of hlt
  obtain rfl : x' = 43 := by rw [hdr, nx_cons] at hx; simpa using hx
  have hix := fun w => run_idx hx0 (i : Int) rfl w
  rw [show (((43 : UInt8)).toNat : Int) = 43 from rfl] at hix
  clear h hp1 hlt hx hdr hx0
  have hsz : (strB bs).size = bs.length := strB_size bs
  generalize strB bs = S at *
  go_enter Tryz.func128, Tryz.ntmps128
  go_wp2
  go_quiet (fail)
  have HP2 := keepHid (HP1.out.drewN nq)
  have HZ2 := keepHid (HZ1.out.drewN nq)
  have HO2 := keepHid (HO1.out.drewN nq)
  have HL2 : Hid (w.heap.size < (w1.drewN nq).heap.size) := keepHid HL1.out
  generalize w1.drewN nq = w2 at *
  clear c0 c1 c2 cf HP1 HZ1 HO1 HL1 hw1
  obtain ⟨z0, z1, z2, z3, z4, z5, zf⟩ := blk6 HZ2.out
  have K := keepHid (read_six (x := (none, bs.drop i)) (h := hd0) (ok := false) HG.out HL2.out HO2.out (fun h => by cases h) (fun _ => rfl) ⟨⟨i, rfl, HP2.out⟩, Only.refl w2 g⟩)
  go_wp2
  exact ⟨by rfl, .tuple #[hdV hd0, .bool false], by rw [results_cell_tmp rfl]; go_simp; rfl, by rw [HF.out]; exact K.out _ _ _ _ _ _⟩
set_option maxHeartbeats 800000 in
theorem atom_no63 {g i : Nat} {bs : List UInt8} {w : World} (h : Ps w g bs i d) (hlt : i < bs.length) (hx : nx 63 (bs.drop i) = true) :
    Calls Tryz.prog 128 #[.pointer (some ⟨g, 0, none⟩)] w (ReadPost g bs d (atomF grp (bs.drop i)) w) := by
  have HF : Hid (atomF grp (bs.drop i) = (none, bs.drop i)) := keepHid (by
    unfold atomF
    rw [nx_other hlt 63 40 hx (by decide), nx_other hlt 63 91 hx (by decide)]
    simp [hx])
  obtain ⟨w1, hw1⟩ : ∃ w1, w.alloc (.cells #[.int .i64 0, .int .u64 0, .int .u64 0, .int .u64 0, .int .u64 0, .slice none 0 0] 76) = w1 := ⟨_, rfl⟩
  have HG := keepHid h.lt
  have hp1 : Ps w1 g bs i d := by rw [← hw1]; exact h.alloc _
  have HZ1 := keepHid (node_new hw1)
  have HO1 : Hid (Only g w w1) := keepHid (by rw [← hw1]; exact (Only.refl w g).alloc _)
  have HL1 : Hid (w.heap.size < w1.heap.size) := keepHid (by rw [← hw1]; simp)
  have HP1 := keepHid hp1
  have HLT := keepHid hlt
  obtain ⟨c0, c1, c2, cf⟩ := hp1.cells
  have hle : bs.length ≤ 64 := h.max
  obtain ⟨x', hx0, hdr⟩ := head_of hlt
  obtain rfl : x' = 63 := by rw [hdr, nx_cons] at hx; simpa using hx
  have hix := fun w => run_idx hx0 (i : Int) rfl w
  rw [show (((63 : UInt8)).toNat : Int) = 63 from rfl] at hix
  clear h hp1 hlt hx hdr hx0
  have hsz : (strB bs).size = bs.length := strB_size bs
  generalize strB bs = S at *
  go_enter Tryz.func128, Tryz.ntmps128
  go_wp2
  go_quiet (fail)
  have HP2 := keepHid (HP1.out.drewN nq)
  have HZ2 := keepHid (HZ1.out.drewN nq)
  have HO2 := keepHid (HO1.out.drewN nq)
  have HL2 : Hid (w.heap.size < (w1.drewN nq).heap.size) := keepHid HL1.out
  generalize w1.drewN nq = w2 at *
  clear c0 c1 c2 cf HP1 HZ1 HO1 HL1 hw1
  obtain ⟨z0, z1, z2, z3, z4, z5, zf⟩ := blk6 HZ2.out
  have K := keepHid (read_six (x := (none, bs.drop i)) (h := hd0) (ok := false) HG.out HL2.out HO2.out (fun h => by cases h) (fun _ => rfl) ⟨⟨i, rfl, HP2.out⟩, Only.refl w2 g⟩)
  go_wp2
  exact ⟨by rfl, .tuple #[hdV hd0, .bool false], by rw [results_cell_tmp rfl]; go_simp; rfl, by rw [HF.out]; exact K.out _ _ _ _ _ _⟩
set_option maxHeartbeats 800000 in
theorem atom_dot {g i : Nat} {bs : List UInt8} {w : World} (h : Ps w g bs i d) (hlt : i < bs.length) (hx : nx 46 (bs.drop i) = true) :
    Calls Tryz.prog 128 #[.pointer (some ⟨g, 0, none⟩)] w (ReadPost g bs d (atomF grp (bs.drop i)) w) := by
  have HF : Hid (atomF grp (bs.drop i) = (some (.one (notS st0)), (bs.drop i).tail)) := keepHid (by
    unfold atomF
    rw [nx_other hlt 46 40 hx (by decide), nx_other hlt 46 91 hx (by decide), nx_other hlt 46 93 hx (by decide), nx_other hlt 46 42 hx (by decide), nx_other hlt 46 43 hx (by decide), nx_other hlt 46 63 hx (by decide)]
    simp [hx])
  have HX := keepHid hx
  obtain ⟨w1, hw1⟩ : ∃ w1, w.alloc (.cells #[.int .i64 0, .int .u64 0, .int .u64 0, .int .u64 0, .int .u64 0, .slice none 0 0] 76) = w1 := ⟨_, rfl⟩
  have HG := keepHid h.lt
  have hp1 : Ps w1 g bs i d := by rw [← hw1]; exact h.alloc _
  have HZ1 := keepHid (node_new hw1)
  have HO1 : Hid (Only g w w1) := keepHid (by rw [← hw1]; exact (Only.refl w g).alloc _)
  have HL1 : Hid (w.heap.size < w1.heap.size) := keepHid (by rw [← hw1]; simp)
  have HP1 := keepHid hp1
  have HLT := keepHid hlt
  obtain ⟨c0, c1, c2, cf⟩ := hp1.cells
  have hle : bs.length ≤ 64 := h.max
  obtain ⟨x', hx0, hdr⟩ := head_of hlt
  obtain rfl : x' = 46 := by rw [hdr, nx_cons] at hx; simpa using hx
  have hix := fun w => run_idx hx0 (i : Int) rfl w
  rw [show (((46 : UInt8)).toNat : Int) = 46 from rfl] at hix
  clear h hp1 hlt hx hdr hx0
  have hsz : (strB bs).size = bs.length := strB_size bs
  generalize strB bs = S at *
  go_enter Tryz.func128, Tryz.ntmps128
  go_wp2
  go_quiet (fail)
  have HP2 := keepHid (HP1.out.drewN nq)
  have HZ2 := keepHid (HZ1.out.drewN nq)
  have HO2 := keepHid (HO1.out.drewN nq)
  have HL2 : Hid (w.heap.size < (w1.drewN nq).heap.size) := keepHid HL1.out
  generalize w1.drewN nq = w2 at *
  clear c0 c1 c2 cf HP1 HZ1 HO1 HL1 hw1
  have HT := keepHid (take_any HP2.out 46 46 rfl)
  unfold TakePost at HT
  rw [HX.out] at HT
  simp only [if_true] at HT
  go_wp2_with fail
  refine HT.out.mono ?_
  rintro e w3 ⟨rfl, hw3⟩
  have HW3 := keepHid hw3
  have HZ3 := keepHid (HZ2.out.only hw3.only (by have := HG.out; intro e; injection e; omega))
  clear hw3
  go_wp2_with fail
  refine (all_any w3).mono ?_
  rintro e w4 ⟨rfl, hb4⟩
  go_wp2_with fail
  refine (one_any (notS st0) w4).mono ?_
  rintro e w5 ⟨rfl, hb5⟩
  have hb35 := hb4.trans (hb5.mono hb4.size)
  have HZ5 := keepHid (HZ3.out.below hb35 HZ3.out.lt)
  have hwent : Went g bs d (bs.drop i).tail w2 w5 := by
    obtain ⟨⟨j, hj, hp⟩, ho⟩ := HW3.out
    exact ⟨⟨j, hj, hp.below hb35 hp.lt⟩, ho.trans (Only.of_below hb35)⟩
  have K := keepHid (read_six (x := (some (.one (notS st0)), (bs.drop i).tail)) (h := ⟨1, notS st0, none, 0, 0⟩) (ok := true) HG.out HL2.out HO2.out (fun _ => ⟨_, rfl, rfl⟩) (fun h => by cases h) hwent)
  clear hb4 hb5 hb35 hwent
  obtain ⟨z0, z1, z2, z3, z4, z5, zf⟩ := blk6 HZ5.out
  unfold hdV
  go_wp2
  exact ⟨by rfl, .tuple #[hdV ⟨1, notS st0, none, 0, 0⟩, .bool true], by rw [results_cell_tmp rfl]; go_simp; rfl, by rw [HF.out]; exact K.out _ _ _ _ _ _⟩
theorem with0 (v : Nat) (hv : v < 256) (w : World) : Calls Tryz.prog 57 #[.agg #[.int .u64 0, .int .u64 0, .int .u64 0, .int .u64 0], .int .u8 (v : Int)] w fun e w' => e = .returned (stV (withS st0 v)) ∧ Below w.heap.size w w' := with_any st0 v hv w
set_option maxHeartbeats 800000 in
theorem atom_letter {g i : Nat} {bs : List UInt8} {w : World} (h : Ps w g bs i d) (hlt : i < bs.length) (h40 : nx 40 (bs.drop i) = false) (h91 : nx 91 (bs.drop i) = false) (h93 : nx 93 (bs.drop i) = false) (h42 : nx 42 (bs.drop i) = false)
    (h43 : nx 43 (bs.drop i) = false) (h63 : nx 63 (bs.drop i) = false) (h46 : nx 46 (bs.drop i) = false) :
    Calls Tryz.prog 128 #[.pointer (some ⟨g, 0, none⟩)] w (ReadPost g bs d (atomF grp (bs.drop i)) w) := by
  have HF : Hid (atomF grp (bs.drop i) = match letF (bs.drop i) with | (none, r) => (none, r) | (some c, r) => (some (.one (withS st0 c.toNat)), r)) := keepHid (by
    unfold atomF
    simp [h40, h91, h93, h42, h43, h63, h46]
    generalize letF (bs.drop i) = y
    obtain ⟨o, q⟩ := y
    cases o <;> rfl)
  have HX := keepHid h46
  obtain ⟨w1, hw1⟩ : ∃ w1, w.alloc (.cells #[.int .i64 0, .int .u64 0, .int .u64 0, .int .u64 0, .int .u64 0, .slice none 0 0] 76) = w1 := ⟨_, rfl⟩
  have HG := keepHid h.lt
  have hp1 : Ps w1 g bs i d := by rw [← hw1]; exact h.alloc _
  have HZ1 := keepHid (node_new hw1)
  have HO1 : Hid (Only g w w1) := keepHid (by rw [← hw1]; exact (Only.refl w g).alloc _)
  have HL1 : Hid (w.heap.size < w1.heap.size) := keepHid (by rw [← hw1]; simp)
  have HP1 := keepHid hp1
  have HLT := keepHid hlt
  obtain ⟨c0, c1, c2, cf⟩ := hp1.cells
  have hle : bs.length ≤ 64 := h.max
  obtain ⟨x', hx0, hdr⟩ := head_of hlt
  have hne : ∀ (b : UInt8), nx b (bs.drop i) = false → x'.toNat ≠ b.toNat := fun b hb he => by
    rw [hdr, nx_cons] at hb
    rw [UInt8.toNat_inj.1 he] at hb
    simp at hb
  have n40 := hne 40 h40
  have n91 := hne 91 h91
  have n93 := hne 93 h93
  have n42 := hne 42 h42
  have n43 := hne 43 h43
  have n63 := hne 63 h63
  have hix := fun w => run_idx hx0 (i : Int) rfl w
  generalize x'.toNat = y at *
  have m40 : ¬ (y : Int) = 40 := fun e => n40 (by show y = 40; omega)
  have m91 : ¬ (y : Int) = 91 := fun e => n91 (by show y = 91; omega)
  have m93 : ¬ (y : Int) = 93 := fun e => n93 (by show y = 93; omega)
  have m42 : ¬ (y : Int) = 42 := fun e => n42 (by show y = 42; omega)
  have m43 : ¬ (y : Int) = 43 := fun e => n43 (by show y = 43; omega)
  have m63 : ¬ (y : Int) = 63 := fun e => n63 (by show y = 63; omega)
  clear h hp1 hlt hdr hx0 h40 h91 h93 h42 h43 h63 h46 hne n40 n91 n93 n42 n43 n63
  have hsz : (strB bs).size = bs.length := strB_size bs
  generalize strB bs = S at *
  go_enter Tryz.func128, Tryz.ntmps128
  go_wp2
  go_quiet (fail)
  have HP2 := keepHid (HP1.out.drewN nq)
  have HZ2 := keepHid (HZ1.out.drewN nq)
  have HO2 := keepHid (HO1.out.drewN nq)
  have HL2 : Hid (w.heap.size < (w1.drewN nq).heap.size) := keepHid HL1.out
  generalize w1.drewN nq = w2 at *
  clear c0 c1 c2 cf HP1 HZ1 HO1 HL1 hw1
  have HT := keepHid (take_any HP2.out 46 46 rfl)
  unfold TakePost at HT
  rw [HX.out] at HT
  simp only [Bool.false_eq_true, if_false] at HT
  go_wp2_with fail
  refine HT.out.mono ?_
  rintro e w3 ⟨rfl, ⟨⟨j3, hj3, hp3⟩, ho3⟩⟩
  have HL3 := keepHid (letter_any hp3)
  rw [hj3] at HL3
  have HZ3 := keepHid (HZ2.out.only ho3 (by have := HG.out; intro e; injection e; omega))
  have HO3 := keepHid ho3
  clear hj3 hp3 ho3 m40 m91 m93 m42 m43 m63 HT
  go_wp2_with fail
  refine HL3.out.mono ?_
  rintro e w4 ⟨v, ok, rfl, hv, hok, hno, hw4⟩
  have HW4 : Hid (Went g bs d (letF (bs.drop i)).2 w2 w4) := keepHid (Went.far HO3.out hw4)
  have hzl : w.heap.size < w3.heap.size := HZ3.out.lt
  have HZ4 := keepHid (HZ3.out.only hw4.only (by have := HG.out; intro e; injection e; omega))
  clear hw4 hzl
  cases ok
  · have HE : Hid (atomF grp (bs.drop i) = (none, (letF (bs.drop i)).2)) := keepHid (by
      have := hno rfl
      rw [HF.out]
      generalize letF (bs.drop i) = x at *
      obtain ⟨o, r⟩ := x
      simp only at this
      subst this; rfl)
    have K := keepHid (read_six (x := (none, (letF (bs.drop i)).2)) (h := hd0) (ok := false) HG.out HL2.out HO2.out (fun h => by cases h) (fun _ => rfl) HW4.out)
    clear hok hno
    obtain ⟨z0, z1, z2, z3, z4, z5, zf⟩ := blk6 HZ4.out
    go_wp2
    exact ⟨by rfl, .tuple #[hdV hd0, .bool false], by rw [results_cell_tmp rfl]; go_simp; rfl, by rw [HE.out]; exact K.out _ _ _ _ _ _⟩
  · obtain ⟨c, hc, hl⟩ := hok rfl
    have HE : Hid (atomF grp (bs.drop i) = (some (.one (withS st0 v)), (letF (bs.drop i)).2)) := keepHid (by
      rw [HF.out]
      generalize letF (bs.drop i) = x at *
      obtain ⟨o, r⟩ := x
      simp only at hl
      subst hl
      rw [← hc])
    have HV := keepHid hv
    clear hok hno hc hl hv
    go_wp2_with fail
    refine (with0 v HV.out w4).mono ?_
    rintro e w5 ⟨rfl, hb5⟩
    go_wp2_with fail
    refine (one_any (withS st0 v) w5).mono ?_
    rintro e w6 ⟨rfl, hb6⟩
    have hb46 := hb5.trans (hb6.mono hb5.size)
    have HZ6 := keepHid (HZ4.out.below hb46 HZ4.out.lt)
    have hwent : Went g bs d (letF (bs.drop i)).2 w2 w6 := by
      obtain ⟨⟨j, hj, hp⟩, ho⟩ := HW4.out
      exact ⟨⟨j, hj, hp.below hb46 hp.lt⟩, ho.trans (Only.of_below hb46)⟩
    have K := keepHid (read_six (x := (some (.one (withS st0 v)), (letF (bs.drop i)).2)) (h := ⟨1, withS st0 v, none, 0, 0⟩) (ok := true) HG.out HL2.out HO2.out (fun _ => ⟨_, rfl, rfl⟩) (fun h => by cases h) hwent)
    clear hb5 hb6 hb46 hwent
    obtain ⟨z0, z1, z2, z3, z4, z5, zf⟩ := blk6 HZ6.out
    unfold hdV
    go_wp2
    exact ⟨by rfl, .tuple #[hdV ⟨1, withS st0 v, none, 0, 0⟩, .bool true], by rw [results_cell_tmp rfl]; go_simp; rfl, by rw [HE.out]; exact K.out _ _ _ _ _ _⟩
theorem atom_any (HG : Spec1 133 d grp) : Spec1 128 d (atomF grp) := by
  intro g bs i w h hlt
  cases h40 : nx 40 (bs.drop i)
  · cases h91 : nx 91 (bs.drop i)
    · cases h93 : nx 93 (bs.drop i)
      · cases h42 : nx 42 (bs.drop i)
        · cases h43 : nx 43 (bs.drop i)
          · cases h63 : nx 63 (bs.drop i)
            · cases h46 : nx 46 (bs.drop i)
              · exact atom_letter h hlt h40 h91 h93 h42 h43 h63 h46
              · exact atom_dot h hlt h46
            · exact atom_no63 h hlt h63
          · exact atom_no43 h hlt h43
        · exact atom_no42 h hlt h42
      · exact atom_no93 h hlt h93
    · exact atom_class h hlt h91
  · exact atom_group HG h hlt h40
end






section
variable {d : Nat} {grp : List UInt8 → R Re}
theorem ReadPost.of_eq {g d : Nat} {bs : List UInt8} {x y : R Re} {w w' : World} {e : Ending} (h : x = y) (p : ReadPost g bs d y w e w') : ReadPost g bs d x w e w' := by rw [h]; exact p
set_option maxHeartbeats 800000 in
theorem piece_no (HA : Spec1 128 d (atomF grp)) : ∀ (g : Nat) (bs : List UInt8) (i : Nat) (w : World), Ps w g bs i d → i < bs.length → (atomF grp (bs.drop i)).1 = none → 
    Calls Tryz.prog 119 #[.pointer (some ⟨g, 0, none⟩)] w (ReadPost g bs d (pieceF grp (bs.drop i)) w) := by
  intro g bs i w h hlt hnone
  obtain ⟨w1, hw1⟩ : ∃ w1, w.alloc (.cells #[.int .i64 0, .int .u64 0, .int .u64 0, .int .u64 0, .int .u64 0, .slice none 0 0] 76) = w1 := ⟨_, rfl⟩
  have HG := keepHid h.lt
  have HP1 : Hid (Ps w1 g bs i d) := keepHid (by rw [← hw1]; exact h.alloc _)
  have HZ1 := keepHid (node_new hw1)
  have HO1 : Hid (Only g w w1) := keepHid (by rw [← hw1]; exact (Only.refl w g).alloc _)
  have HL1 : Hid (w.heap.size < w1.heap.size) := keepHid (by rw [← hw1]; simp)
  have HLT := keepHid hlt
  have HAT := keepHid HA
  clear h hlt HA
  generalize hl : bs.drop i = l at *
  go_enter Tryz.func119, Tryz.ntmps119
  go_wp2_with fail
  refine (HAT.out g bs i w1 HP1.out HLT.out).mono ?_
  rintro e w2 ⟨n, ok, rfl, hok, hno, hw2⟩
  rw [hl] at hok hno hw2
  obtain ⟨w3, hw3⟩ : ∃ w3, w2.alloc (.cells #[.int .i64 n.k, .int .u64 (n.s.a.toNat : Int), .int .u64 (n.s.b.toNat : Int), .int .u64 (n.s.c.toNat : Int), .int .u64 (n.s.d.toNat : Int), .slice n.A n.n n.c] 76) = w3 := ⟨_, rfl⟩
  have HZ3 : Hid (Blk w3 w.heap.size 76 nd0) := keepHid (by rw [← hw3]; exact (HZ1.out.only hw2.only (by have := HG.out; intro e; injection e; omega)).alloc _)
  have HN3 : Hid (Blk w3 w2.heap.size 76 (hdC n)) := keepHid (by rw [← hw3]; exact Blk.new _ _ _)
  have HW3 : Hid (Went g bs d (atomF grp l).2 w1 w3) := keepHid (by
    rw [← hw3]
    obtain ⟨⟨j, hj, hp⟩, ho⟩ := hw2
    exact ⟨⟨j, hj, hp.alloc _⟩, ho.alloc _⟩)
  have hb23 : Below w2.heap.size w2 w3 := by rw [← hw3]; exact (Below.refl _ _).alloc (Nat.le_refl _) _
  have HOK : Hid (ok = true → ∃ r, (atomF grp l).1 = some r ∧ IsRe w3 w1.heap.size n r) := keepHid (fun h => by obtain ⟨r, e1, e2⟩ := hok h; exact ⟨r, e1, e2.below hb23⟩)
  have HNO := keepHid hno
  have HGL : Hid (g < w2.heap.size) := keepHid (by have := HG.out; have := HL1.out; have := hw2.only.size; omega)
  have HZL : Hid (w.heap.size < w2.heap.size) := keepHid (by have := HL1.out; have := hw2.only.size; omega)
  clear hok hno hw2 hb23 hl hw1 HAT HP1 HZ1 HLT
  unfold hdV
  cases ok
  · have HF : Hid (pieceF grp l = (none, (atomF grp l).2)) := keepHid (by
      have := HNO.out rfl
      unfold pieceF
      generalize atomF grp l = x at *
      obtain ⟨o, r⟩ := x
      simp only at this
      subst this; rfl)
    have K := keepHid (read_six (x := (none, (atomF grp l).2)) (h := hd0) (ok := false) HG.out HL1.out HO1.out (fun h => by cases h) (fun _ => rfl) HW3.out)
    clear HOK HNO hnone
    obtain ⟨z0, z1, z2, z3, z4, z5, zf⟩ := blk6 HZ3.out
    go_wp2
    exact ⟨by rfl, .tuple #[hdV hd0, .bool false], by rw [results_cell_tmp rfl]; go_simp; rfl, by rw [HF.out]; exact K.out _ _ _ _ _ _⟩
  · exfalso
    obtain ⟨r, h1, _⟩ := HOK.out rfl
    rw [hnone] at h1
    cases h1
set_option maxHeartbeats 800000 in
theorem piece_star (HA : Spec1 128 d (atomF grp)) : ∀ (g : Nat) (bs : List UInt8) (i : Nat) (w : World), Ps w g bs i d → i < bs.length → nx 42 (atomF grp (bs.drop i)).2 = true → (atomF grp (bs.drop i)).1 ≠ none → 
    Calls Tryz.prog 119 #[.pointer (some ⟨g, 0, none⟩)] w (ReadPost g bs d (pieceF grp (bs.drop i)) w) := by
  intro g bs i w h hlt b42 hsome
  obtain ⟨w1, hw1⟩ : ∃ w1, w.alloc (.cells #[.int .i64 0, .int .u64 0, .int .u64 0, .int .u64 0, .int .u64 0, .slice none 0 0] 76) = w1 := ⟨_, rfl⟩
  have HG := keepHid h.lt
  have HP1 : Hid (Ps w1 g bs i d) := keepHid (by rw [← hw1]; exact h.alloc _)
  have HZ1 := keepHid (node_new hw1)
  have HO1 : Hid (Only g w w1) := keepHid (by rw [← hw1]; exact (Only.refl w g).alloc _)
  have HL1 : Hid (w.heap.size < w1.heap.size) := keepHid (by rw [← hw1]; simp)
  have HLT := keepHid hlt
  have HAT := keepHid HA
  clear h hlt HA
  generalize hl : bs.drop i = l at *
  go_enter Tryz.func119, Tryz.ntmps119
  go_wp2_with fail
  refine (HAT.out g bs i w1 HP1.out HLT.out).mono ?_
  rintro e w2 ⟨n, ok, rfl, hok, hno, hw2⟩
  rw [hl] at hok hno hw2
  obtain ⟨w3, hw3⟩ : ∃ w3, w2.alloc (.cells #[.int .i64 n.k, .int .u64 (n.s.a.toNat : Int), .int .u64 (n.s.b.toNat : Int), .int .u64 (n.s.c.toNat : Int), .int .u64 (n.s.d.toNat : Int), .slice n.A n.n n.c] 76) = w3 := ⟨_, rfl⟩
  have HZ3 : Hid (Blk w3 w.heap.size 76 nd0) := keepHid (by rw [← hw3]; exact (HZ1.out.only hw2.only (by have := HG.out; intro e; injection e; omega)).alloc _)
  have HN3 : Hid (Blk w3 w2.heap.size 76 (hdC n)) := keepHid (by rw [← hw3]; exact Blk.new _ _ _)
  have HW3 : Hid (Went g bs d (atomF grp l).2 w1 w3) := keepHid (by
    rw [← hw3]
    obtain ⟨⟨j, hj, hp⟩, ho⟩ := hw2
    exact ⟨⟨j, hj, hp.alloc _⟩, ho.alloc _⟩)
  have hb23 : Below w2.heap.size w2 w3 := by rw [← hw3]; exact (Below.refl _ _).alloc (Nat.le_refl _) _
  have HOK : Hid (ok = true → ∃ r, (atomF grp l).1 = some r ∧ IsRe w3 w1.heap.size n r) := keepHid (fun h => by obtain ⟨r, e1, e2⟩ := hok h; exact ⟨r, e1, e2.below hb23⟩)
  have HNO := keepHid hno
  have HGL : Hid (g < w2.heap.size) := keepHid (by have := HG.out; have := HL1.out; have := hw2.only.size; omega)
  have HZL : Hid (w.heap.size < w2.heap.size) := keepHid (by have := HL1.out; have := hw2.only.size; omega)
  clear hok hno hw2 hb23 hl hw1 HAT HP1 HZ1 HLT
  unfold hdV
  cases ok
  · exact (hsome (HNO.out rfl)).elim
  · clear hsome
    obtain ⟨a, ha, hia⟩ := HOK.out rfl
    have HI3 := keepHid hia
    have HA := keepHid ha
    obtain ⟨r, hr⟩ : ∃ r, (atomF grp l).2 = r := ⟨_, rfl⟩
    have HAE : Hid (atomF grp l = (some a, r)) := keepHid (by rw [← ha, ← hr])
    rw [hr] at HW3 b42
    clear ha hia hr HOK HNO
    have HF : Hid (pieceF grp l = (some (.star a), r.tail)) := keepHid (by unfold pieceF; rw [HAE.out]; simp [b42])
    obtain ⟨⟨j3, hj3, hp3⟩, ho3⟩ := HW3.out
    have HT := keepHid (take_any hp3 42 42 rfl)
    unfold TakePost at HT
    rw [hj3, b42] at HT
    simp only [if_true] at HT
    have HO3 := keepHid ho3
    clear hj3 hp3 ho3
    go_wp2_with fail
    refine HT.out.mono ?_
    rintro e w4 ⟨rfl, hw4⟩
    have HW4 := keepHid (Went.far HO3.out hw4)
    have HZ4 := keepHid (HZ3.out.only hw4.only (by have := HG.out; intro e; injection e; omega))
    have HN4 := keepHid (HN3.out.only hw4.only (by have := HGL.out; intro e; injection e; omega))
    have HI4 := keepHid (HI3.out.only hw4.only (by have := HG.out; have := HL1.out; omega))
    clear hw4 HT
    obtain ⟨n0, n1, n2, n3, n4, n5, nf⟩ := blk6 HN4.out
    go_wp2_with fail
    refine (star_any n w4).mono ?_
    rintro e w5 ⟨gS, rfl, hgS, hat, hb5⟩
    have HZ5 := keepHid (HZ4.out.below hb5 HZ4.out.lt)
    have hwent : Went g bs d r.tail w1 w5 := by
      obtain ⟨⟨j, hj, hp⟩, ho⟩ := HW4.out
      exact ⟨⟨j, hj, hp.below hb5 hp.lt⟩, ho.trans (Only.of_below hb5)⟩
    have hsz : w1.heap.size ≤ w4.heap.size := HW4.out.only.size
    have K := keepHid (read_six (x := (some (.star a), r.tail)) (h := ⟨4, st0, some ⟨gS, 0, none⟩, 1, 1⟩) (ok := true) HG.out HL1.out HO1.out
      (fun _ => ⟨_, rfl, gS, 1, n, rfl, Nat.le_refl _, by unfold maxLen; omega, by omega, hat, HI4.out.below hb5⟩) (fun h => by cases h) hwent)
    clear hgS hat hb5 hwent hsz n0 n1 n2 n3 n4 n5 nf
    obtain ⟨z0, z1, z2, z3, z4, z5, zf⟩ := blk6 HZ5.out
    unfold hdV
    go_wp2
    exact ⟨by rfl, .tuple #[hdV ⟨4, st0, some ⟨gS, 0, none⟩, 1, 1⟩, .bool true], by rw [results_cell_tmp rfl]; go_simp; rfl, by rw [HF.out]; exact K.out _ _ _ _ _ _⟩
set_option maxHeartbeats 800000 in
theorem piece_bare (HA : Spec1 128 d (atomF grp)) : ∀ (g : Nat) (bs : List UInt8) (i : Nat) (w : World), Ps w g bs i d → i < bs.length → nx 42 (atomF grp (bs.drop i)).2 = false → nx 43 (atomF grp (bs.drop i)).2 = false → nx 63 (atomF grp (bs.drop i)).2 = false → (atomF grp (bs.drop i)).1 ≠ none → 
    Calls Tryz.prog 119 #[.pointer (some ⟨g, 0, none⟩)] w (ReadPost g bs d (pieceF grp (bs.drop i)) w) := by
  intro g bs i w h hlt b42 b43 b63 hsome
  obtain ⟨w1, hw1⟩ : ∃ w1, w.alloc (.cells #[.int .i64 0, .int .u64 0, .int .u64 0, .int .u64 0, .int .u64 0, .slice none 0 0] 76) = w1 := ⟨_, rfl⟩
  have HG := keepHid h.lt
  have HP1 : Hid (Ps w1 g bs i d) := keepHid (by rw [← hw1]; exact h.alloc _)
  have HZ1 := keepHid (node_new hw1)
  have HO1 : Hid (Only g w w1) := keepHid (by rw [← hw1]; exact (Only.refl w g).alloc _)
  have HL1 : Hid (w.heap.size < w1.heap.size) := keepHid (by rw [← hw1]; simp)
  have HLT := keepHid hlt
  have HAT := keepHid HA
  clear h hlt HA
  generalize hl : bs.drop i = l at *
  go_enter Tryz.func119, Tryz.ntmps119
  go_wp2_with fail
  refine (HAT.out g bs i w1 HP1.out HLT.out).mono ?_
  rintro e w2 ⟨n, ok, rfl, hok, hno, hw2⟩
  rw [hl] at hok hno hw2
  obtain ⟨w3, hw3⟩ : ∃ w3, w2.alloc (.cells #[.int .i64 n.k, .int .u64 (n.s.a.toNat : Int), .int .u64 (n.s.b.toNat : Int), .int .u64 (n.s.c.toNat : Int), .int .u64 (n.s.d.toNat : Int), .slice n.A n.n n.c] 76) = w3 := ⟨_, rfl⟩
  have HZ3 : Hid (Blk w3 w.heap.size 76 nd0) := keepHid (by rw [← hw3]; exact (HZ1.out.only hw2.only (by have := HG.out; intro e; injection e; omega)).alloc _)
  have HN3 : Hid (Blk w3 w2.heap.size 76 (hdC n)) := keepHid (by rw [← hw3]; exact Blk.new _ _ _)
  have HW3 : Hid (Went g bs d (atomF grp l).2 w1 w3) := keepHid (by
    rw [← hw3]
    obtain ⟨⟨j, hj, hp⟩, ho⟩ := hw2
    exact ⟨⟨j, hj, hp.alloc _⟩, ho.alloc _⟩)
  have hb23 : Below w2.heap.size w2 w3 := by rw [← hw3]; exact (Below.refl _ _).alloc (Nat.le_refl _) _
  have HOK : Hid (ok = true → ∃ r, (atomF grp l).1 = some r ∧ IsRe w3 w1.heap.size n r) := keepHid (fun h => by obtain ⟨r, e1, e2⟩ := hok h; exact ⟨r, e1, e2.below hb23⟩)
  have HNO := keepHid hno
  have HGL : Hid (g < w2.heap.size) := keepHid (by have := HG.out; have := HL1.out; have := hw2.only.size; omega)
  have HZL : Hid (w.heap.size < w2.heap.size) := keepHid (by have := HL1.out; have := hw2.only.size; omega)
  clear hok hno hw2 hb23 hl hw1 HAT HP1 HZ1 HLT
  unfold hdV
  cases ok
  · exact (hsome (HNO.out rfl)).elim
  · clear hsome
    obtain ⟨a, ha, hia⟩ := HOK.out rfl
    have HI3 := keepHid hia
    have HA := keepHid ha
    obtain ⟨r, hr⟩ : ∃ r, (atomF grp l).2 = r := ⟨_, rfl⟩
    have HAE : Hid (atomF grp l = (some a, r)) := keepHid (by rw [← ha, ← hr])
    rw [hr] at HW3 b42 b43 b63
    clear ha hia hr HOK HNO
    have HF : Hid (pieceF grp l = (some a, r)) := keepHid (by unfold pieceF; rw [HAE.out]; simp [b42, b43, b63])
    obtain ⟨⟨j3, hj3, hp3⟩, ho3⟩ := HW3.out
    have HT := keepHid (take_any hp3 42 42 rfl)
    unfold TakePost at HT
    rw [hj3, b42] at HT
    simp only [Bool.false_eq_true, if_false] at HT
    have HO3 := keepHid ho3
    clear hj3 hp3 ho3
    go_wp2_with fail
    refine HT.out.mono ?_
    rintro e w4 ⟨rfl, hw4⟩
    have HW4 := keepHid (Went.far HO3.out hw4)
    have HZ4 := keepHid (HZ3.out.only hw4.only (by have := HG.out; intro e; injection e; omega))
    have HN4 := keepHid (HN3.out.only hw4.only (by have := HGL.out; intro e; injection e; omega))
    have HI4 := keepHid (HI3.out.only hw4.only (by have := HG.out; have := HL1.out; omega))
    clear hw4 HT
    obtain ⟨⟨j4, hj4, hp4⟩, ho4⟩ := HW4.out
    have HT := keepHid (take_any hp4 43 43 rfl)
    unfold TakePost at HT
    rw [hj4, b43] at HT
    simp only [Bool.false_eq_true, if_false] at HT
    have HO4 := keepHid ho4
    clear hj4 hp4 ho4
    go_wp2_with fail
    refine HT.out.mono ?_
    rintro e w5 ⟨rfl, hw5⟩
    have HW5 := keepHid (Went.far HO4.out hw5)
    have HZ5 := keepHid (HZ4.out.only hw5.only (by have := HG.out; intro e; injection e; omega))
    have HN5 := keepHid (HN4.out.only hw5.only (by have := HGL.out; intro e; injection e; omega))
    have HI5 := keepHid (HI4.out.only hw5.only (by have := HG.out; have := HL1.out; omega))
    clear hw5 HT
    obtain ⟨⟨j5, hj5, hp5⟩, ho5⟩ := HW5.out
    have HT := keepHid (take_any hp5 63 63 rfl)
    unfold TakePost at HT
    rw [hj5, b63] at HT
    simp only [Bool.false_eq_true, if_false] at HT
    have HO5 := keepHid ho5
    clear hj5 hp5 ho5
    go_wp2_with fail
    refine HT.out.mono ?_
    rintro e w6 ⟨rfl, hw6⟩
    have HW6 := keepHid (Went.far HO5.out hw6)
    have HZ6 := keepHid (HZ5.out.only hw6.only (by have := HG.out; intro e; injection e; omega))
    have HN6 := keepHid (HN5.out.only hw6.only (by have := HGL.out; intro e; injection e; omega))
    have HI6 := keepHid (HI5.out.only hw6.only (by have := HG.out; have := HL1.out; omega))
    clear hw6 HT
    obtain ⟨n0, n1, n2, n3, n4, n5, nf⟩ := blk6 HN6.out
    have K := keepHid (read_six (x := (some a, r)) (h := n) (ok := true) HG.out HL1.out HO1.out (fun _ => ⟨a, rfl, HI6.out⟩) (fun h => by cases h) HW6.out)
    obtain ⟨z0, z1, z2, z3, z4, z5, zf⟩ := blk6 HZ6.out
    go_wp2
    exact ⟨by rfl, .tuple #[hdV n, .bool true], by rw [results_cell_tmp rfl]; go_simp; rfl, by rw [HF.out]; exact K.out _ _ _ _ _ _⟩
set_option maxHeartbeats 800000 in
theorem piece_may (HA : Spec1 128 d (atomF grp)) : ∀ (g : Nat) (bs : List UInt8) (i : Nat) (w : World), Ps w g bs i d → i < bs.length → nx 42 (atomF grp (bs.drop i)).2 = false → nx 43 (atomF grp (bs.drop i)).2 = false → nx 63 (atomF grp (bs.drop i)).2 = true → (atomF grp (bs.drop i)).1 ≠ none → 
    Calls Tryz.prog 119 #[.pointer (some ⟨g, 0, none⟩)] w (ReadPost g bs d (pieceF grp (bs.drop i)) w) := by
  intro g bs i w h hlt b42 b43 b63 hsome
  obtain ⟨w1, hw1⟩ : ∃ w1, w.alloc (.cells #[.int .i64 0, .int .u64 0, .int .u64 0, .int .u64 0, .int .u64 0, .slice none 0 0] 76) = w1 := ⟨_, rfl⟩
  have HG := keepHid h.lt
  have HP1 : Hid (Ps w1 g bs i d) := keepHid (by rw [← hw1]; exact h.alloc _)
  have HZ1 := keepHid (node_new hw1)
  have HO1 : Hid (Only g w w1) := keepHid (by rw [← hw1]; exact (Only.refl w g).alloc _)
  have HL1 : Hid (w.heap.size < w1.heap.size) := keepHid (by rw [← hw1]; simp)
  have HLT := keepHid hlt
  have HAT := keepHid HA
  clear h hlt HA
  generalize hl : bs.drop i = l at *
  go_enter Tryz.func119, Tryz.ntmps119
  go_wp2_with fail
  refine (HAT.out g bs i w1 HP1.out HLT.out).mono ?_
  rintro e w2 ⟨n, ok, rfl, hok, hno, hw2⟩
  rw [hl] at hok hno hw2
  obtain ⟨w3, hw3⟩ : ∃ w3, w2.alloc (.cells #[.int .i64 n.k, .int .u64 (n.s.a.toNat : Int), .int .u64 (n.s.b.toNat : Int), .int .u64 (n.s.c.toNat : Int), .int .u64 (n.s.d.toNat : Int), .slice n.A n.n n.c] 76) = w3 := ⟨_, rfl⟩
  have HZ3 : Hid (Blk w3 w.heap.size 76 nd0) := keepHid (by rw [← hw3]; exact (HZ1.out.only hw2.only (by have := HG.out; intro e; injection e; omega)).alloc _)
  have HN3 : Hid (Blk w3 w2.heap.size 76 (hdC n)) := keepHid (by rw [← hw3]; exact Blk.new _ _ _)
  have HW3 : Hid (Went g bs d (atomF grp l).2 w1 w3) := keepHid (by
    rw [← hw3]
    obtain ⟨⟨j, hj, hp⟩, ho⟩ := hw2
    exact ⟨⟨j, hj, hp.alloc _⟩, ho.alloc _⟩)
  have hb23 : Below w2.heap.size w2 w3 := by rw [← hw3]; exact (Below.refl _ _).alloc (Nat.le_refl _) _
  have HOK : Hid (ok = true → ∃ r, (atomF grp l).1 = some r ∧ IsRe w3 w1.heap.size n r) := keepHid (fun h => by obtain ⟨r, e1, e2⟩ := hok h; exact ⟨r, e1, e2.below hb23⟩)
  have HNO := keepHid hno
  have HGL : Hid (g < w2.heap.size) := keepHid (by have := HG.out; have := HL1.out; have := hw2.only.size; omega)
  have HZL : Hid (w.heap.size < w2.heap.size) := keepHid (by have := HL1.out; have := hw2.only.size; omega)
  clear hok hno hw2 hb23 hl hw1 HAT HP1 HZ1 HLT
  unfold hdV
  cases ok
  · exact (hsome (HNO.out rfl)).elim
  · clear hsome
    obtain ⟨a, ha, hia⟩ := HOK.out rfl
    have HI3 := keepHid hia
    have HA := keepHid ha
    obtain ⟨r, hr⟩ : ∃ r, (atomF grp l).2 = r := ⟨_, rfl⟩
    have HAE : Hid (atomF grp l = (some a, r)) := keepHid (by rw [← ha, ← hr])
    rw [hr] at HW3 b42 b43 b63
    clear ha hia hr HOK HNO
    have HF : Hid (pieceF grp l = (some (.alt a .nil), r.tail)) := keepHid (by unfold pieceF; rw [HAE.out]; simp [b42, b43, b63])
    obtain ⟨⟨j3, hj3, hp3⟩, ho3⟩ := HW3.out
    have HT := keepHid (take_any hp3 42 42 rfl)
    unfold TakePost at HT
    rw [hj3, b42] at HT
    simp only [Bool.false_eq_true, if_false] at HT
    have HO3 := keepHid ho3
    clear hj3 hp3 ho3
    go_wp2_with fail
    refine HT.out.mono ?_
    rintro e w4 ⟨rfl, hw4⟩
    have HW4 := keepHid (Went.far HO3.out hw4)
    have HZ4 := keepHid (HZ3.out.only hw4.only (by have := HG.out; intro e; injection e; omega))
    have HN4 := keepHid (HN3.out.only hw4.only (by have := HGL.out; intro e; injection e; omega))
    have HI4 := keepHid (HI3.out.only hw4.only (by have := HG.out; have := HL1.out; omega))
    clear hw4 HT
    obtain ⟨⟨j4, hj4, hp4⟩, ho4⟩ := HW4.out
    have HT := keepHid (take_any hp4 43 43 rfl)
    unfold TakePost at HT
    rw [hj4, b43] at HT
    simp only [Bool.false_eq_true, if_false] at HT
    have HO4 := keepHid ho4
    clear hj4 hp4 ho4
    go_wp2_with fail
    refine HT.out.mono ?_
    rintro e w5 ⟨rfl, hw5⟩
    have HW5 := keepHid (Went.far HO4.out hw5)
    have HZ5 := keepHid (HZ4.out.only hw5.only (by have := HG.out; intro e; injection e; omega))
    have HN5 := keepHid (HN4.out.only hw5.only (by have := HGL.out; intro e; injection e; omega))
    have HI5 := keepHid (HI4.out.only hw5.only (by have := HG.out; have := HL1.out; omega))
    clear hw5 HT
    obtain ⟨⟨j5, hj5, hp5⟩, ho5⟩ := HW5.out
    have HT := keepHid (take_any hp5 63 63 rfl)
    unfold TakePost at HT
    rw [hj5, b63] at HT
    simp only [if_true] at HT
    have HO5 := keepHid ho5
    clear hj5 hp5 ho5
    go_wp2_with fail
    refine HT.out.mono ?_
    rintro e w6 ⟨rfl, hw6⟩
    have HW6 := keepHid (Went.far HO5.out hw6)
    have HZ6 := keepHid (HZ5.out.only hw6.only (by have := HG.out; intro e; injection e; omega))
    have HN6 := keepHid (HN5.out.only hw6.only (by have := HGL.out; intro e; injection e; omega))
    have HI6 := keepHid (HI5.out.only hw6.only (by have := HG.out; have := HL1.out; omega))
    clear hw6 HT
    obtain ⟨n0, n1, n2, n3, n4, n5, nf⟩ := blk6 HN6.out
    go_wp2_with fail
    refine (pair_any 3 n hd0 w6).mono ?_
    rintro e w7 ⟨gP, rfl, hgP, hat, hat6, hb7⟩
    have HZ7 := keepHid (HZ6.out.below hb7 HZ6.out.lt)
    have hwent : Went g bs d r.tail w1 w7 := by
      obtain ⟨⟨j, hj, hp⟩, ho⟩ := HW6.out
      exact ⟨⟨j, hj, hp.below hb7 hp.lt⟩, ho.trans (Only.of_below hb7)⟩
    have hsz : w1.heap.size ≤ w6.heap.size := HW6.out.only.size
    have K := keepHid (read_six (x := (some (.alt a .nil), r.tail)) (h := ⟨3, st0, some ⟨gP, 0, none⟩, 2, 2⟩) (ok := true) HG.out HL1.out HO1.out
      (fun _ => ⟨_, rfl, gP, 2, n, hd0, rfl, Nat.le_refl _, by unfold maxLen; omega, by omega, hat, hat6, HI6.out.below hb7, rfl⟩) (fun h => by cases h) hwent)
    clear hgP hat hat6 hb7 hwent hsz n0 n1 n2 n3 n4 n5 nf
    obtain ⟨z0, z1, z2, z3, z4, z5, zf⟩ := blk6 HZ7.out
    unfold hdV
    go_wp2
    exact ⟨by rfl, .tuple #[hdV ⟨3, st0, some ⟨gP, 0, none⟩, 2, 2⟩, .bool true], by rw [results_cell_tmp rfl]; go_simp; rfl, by rw [HF.out]; exact K.out _ _ _ _ _ _⟩
end






section
variable {d : Nat} {grp : List UInt8 → R Re}
set_option maxHeartbeats 800000 in
theorem piece_plus (HA : Spec1 128 d (atomF grp)) : ∀ (g : Nat) (bs : List UInt8) (i : Nat) (w : World), Ps w g bs i d → i < bs.length → nx 42 (atomF grp (bs.drop i)).2 = false → nx 43 (atomF grp (bs.drop i)).2 = true → (atomF grp (bs.drop i)).1 ≠ none → 
    Calls Tryz.prog 119 #[.pointer (some ⟨g, 0, none⟩)] w (ReadPost g bs d (pieceF grp (bs.drop i)) w) := by
  intro g bs i w h hlt b42 b43 hsome
  obtain ⟨w1, hw1⟩ : ∃ w1, w.alloc (.cells #[.int .i64 0, .int .u64 0, .int .u64 0, .int .u64 0, .int .u64 0, .slice none 0 0] 76) = w1 := ⟨_, rfl⟩
  have HG := keepHid h.lt
  have HP1 : Hid (Ps w1 g bs i d) := keepHid (by rw [← hw1]; exact h.alloc _)
  have HZ1 := keepHid (node_new hw1)
  have HO1 : Hid (Only g w w1) := keepHid (by rw [← hw1]; exact (Only.refl w g).alloc _)
  have HL1 : Hid (w.heap.size < w1.heap.size) := keepHid (by rw [← hw1]; simp)
  have HLT := keepHid hlt
  have HAT := keepHid HA
  clear h hlt HA
  generalize hl : bs.drop i = l at *
  go_enter Tryz.func119, Tryz.ntmps119
  go_wp2_with fail
  refine (HAT.out g bs i w1 HP1.out HLT.out).mono ?_
  rintro e w2 ⟨n, ok, rfl, hok, hno, hw2⟩
  rw [hl] at hok hno hw2
  obtain ⟨w3, hw3⟩ : ∃ w3, w2.alloc (.cells #[.int .i64 n.k, .int .u64 (n.s.a.toNat : Int), .int .u64 (n.s.b.toNat : Int), .int .u64 (n.s.c.toNat : Int), .int .u64 (n.s.d.toNat : Int), .slice n.A n.n n.c] 76) = w3 := ⟨_, rfl⟩
  have HZ3 : Hid (Blk w3 w.heap.size 76 nd0) := keepHid (by rw [← hw3]; exact (HZ1.out.only hw2.only (by have := HG.out; intro e; injection e; omega)).alloc _)
  have HN3 : Hid (Blk w3 w2.heap.size 76 (hdC n)) := keepHid (by rw [← hw3]; exact Blk.new _ _ _)
  have HW3 : Hid (Went g bs d (atomF grp l).2 w1 w3) := keepHid (by
    rw [← hw3]
    obtain ⟨⟨j, hj, hp⟩, ho⟩ := hw2
    exact ⟨⟨j, hj, hp.alloc _⟩, ho.alloc _⟩)
  have hb23 : Below w2.heap.size w2 w3 := by rw [← hw3]; exact (Below.refl _ _).alloc (Nat.le_refl _) _
  have HOK : Hid (ok = true → ∃ r, (atomF grp l).1 = some r ∧ IsRe w3 w1.heap.size n r) := keepHid (fun h => by obtain ⟨r, e1, e2⟩ := hok h; exact ⟨r, e1, e2.below hb23⟩)
  have HNO := keepHid hno
  have HGL : Hid (g < w2.heap.size) := keepHid (by have := HG.out; have := HL1.out; have := hw2.only.size; omega)
  have HZL : Hid (w.heap.size < w2.heap.size) := keepHid (by have := HL1.out; have := hw2.only.size; omega)
  clear hok hno hw2 hb23 hl hw1 HAT HP1 HZ1 HLT
  unfold hdV
  cases ok
  · exact (hsome (HNO.out rfl)).elim
  · clear hsome
    obtain ⟨a, ha, hia⟩ := HOK.out rfl
    have HI3 := keepHid hia
    have HA := keepHid ha
    obtain ⟨r, hr⟩ : ∃ r, (atomF grp l).2 = r := ⟨_, rfl⟩
    have HAE : Hid (atomF grp l = (some a, r)) := keepHid (by rw [← ha, ← hr])
    rw [hr] at HW3 b42 b43
    clear ha hia hr HOK HNO
    have HF : Hid (pieceF grp l = (some (.thn a (.star a)), r.tail)) := keepHid (by unfold pieceF; rw [HAE.out]; simp [b42, b43])
    obtain ⟨⟨j3, hj3, hp3⟩, ho3⟩ := HW3.out
    have HT := keepHid (take_any hp3 42 42 rfl)
    unfold TakePost at HT
    rw [hj3, b42] at HT
    simp only [Bool.false_eq_true, if_false] at HT
    have HO3 := keepHid ho3
    clear hj3 hp3 ho3
    go_wp2_with fail
    refine HT.out.mono ?_
    rintro e w4 ⟨rfl, hw4⟩
    have HW4 := keepHid (Went.far HO3.out hw4)
    have HZ4 := keepHid (HZ3.out.only hw4.only (by have := HG.out; intro e; injection e; omega))
    have HN4 := keepHid (HN3.out.only hw4.only (by have := HGL.out; intro e; injection e; omega))
    have HI4 := keepHid (HI3.out.only hw4.only (by have := HG.out; have := HL1.out; omega))
    clear hw4 HT
    obtain ⟨⟨j4, hj4, hp4⟩, ho4⟩ := HW4.out
    have HT := keepHid (take_any hp4 43 43 rfl)
    unfold TakePost at HT
    rw [hj4, b43] at HT
    simp only [if_true] at HT
    have HO4 := keepHid ho4
    clear hj4 hp4 ho4
    go_wp2_with fail
    refine HT.out.mono ?_
    rintro e w5 ⟨rfl, hw5⟩
    have HW5 := keepHid (Went.far HO4.out hw5)
    have HZ5 := keepHid (HZ4.out.only hw5.only (by have := HG.out; intro e; injection e; omega))
    have HN5 := keepHid (HN4.out.only hw5.only (by have := HGL.out; intro e; injection e; omega))
    have HI5 := keepHid (HI4.out.only hw5.only (by have := HG.out; have := HL1.out; omega))
    clear hw5 HT
    obtain ⟨n0, n1, n2, n3, n4, n5, nf⟩ := blk6 HN5.out
    go_wp2_with fail
    clear b42 b43 HW3 HW4 HO3 HO4 HZ3 HZ4 HN3 HN4 HI3 HI4 HA HAE hw3
    have hsz5 : w1.heap.size ≤ w5.heap.size := HW5.out.only.size
    have HID : Hid (IsRe (w5.drewN 1) w1.heap.size n a) := keepHid (HI5.out.below (below_drewN (Below.refl _ _) 1))
    go_region_with
      (first
        | (go_at_call 130
           refine (clone_any a n w1.heap.size (w5.drewN 1) HID.out).mono ?_
           rintro e wC ⟨n', rfl, hin', hbC⟩
           have HBC := keepHid hbC
           have HIC := keepHid hin'
           have HNC := keepHid ((HN5.out.drewN 1).below hbC (HN5.out.drewN 1).lt)
           clear hbC hin'
           obtain ⟨m0, m1, m2, m3, m4, m5, mf⟩ := blk6 HNC.out)
        | (go_at_call 129
           refine (star_any n' wC).mono ?_
           rintro e wS ⟨gS, rfl, hgS, hatS, hbS⟩
           have HBS := keepHid hbS
           have HAS := keepHid hatS
           have HGS := keepHid hgS
           have HNS := keepHid (HNC.out.below hbS HNC.out.lt)
           clear hbS hatS hgS
           obtain ⟨p0, p1, p2, p3, p4, p5, pf⟩ := blk6 HNS.out)
        | (go_at_call 107
           refine (pair_any 2 n ⟨4, st0, some ⟨gS, 0, none⟩, 1, 1⟩ wS).mono ?_
           rintro e wP ⟨gP, rfl, hgP, hat0, hat6, hbP⟩
           have HBP := keepHid (HBC.out.trans ((HBS.out.mono HBC.out.size).trans (hbP.mono (Nat.le_trans HBC.out.size HBS.out.size))))
           have HA0 := keepHid hat0
           have HA6 := keepHid hat6
           have HGP := keepHid hgP
           have HASP := keepHid (HAS.out.keep (hbP.block gS HAS.out.lt))
           have HISP := keepHid ((HIC.out.below HBS.out).below hbP)
           have HZP := keepHid ((HZ5.out.drewN 1).below HBP.out (HZ5.out.drewN 1).lt)
           clear hbP hat0 hat6 hgP
           obtain ⟨z0, z1, z2, z3, z4, z5, zf⟩ := blk6 HZP.out
           unfold hdV))
    all_goals
      have hwent : Went g bs d r.tail w1 wP := by
        obtain ⟨⟨j, hj, hp⟩, ho⟩ := HW5.out
        exact ⟨⟨j, hj, (hp.drewN 1).below HBP.out (hp.drewN 1).lt⟩, (ho.drewN 1).trans (Only.of_below HBP.out)⟩
      have hs1 : (w5.drewN 1).heap.size = w5.heap.size := rfl
      have hs2 := HBC.out.size
      have hs3 := HBS.out.size
      have h1 := HGS.out
      have h2 := HGP.out
      have K := keepHid (read_six (x := (some (.thn a (.star a)), r.tail)) (h := ⟨2, st0, some ⟨gP, 0, none⟩, 2, 2⟩) (ok := true) HG.out HL1.out HO1.out
        (fun _ => ⟨_, rfl, gP, 2, n, ⟨4, st0, some ⟨gS, 0, none⟩, 1, 1⟩, rfl, Nat.le_refl _, by unfold maxLen; omega, by omega, HA0.out, HA6.out, HID.out.below HBP.out,
          gS, 1, n', rfl, Nat.le_refl _, by unfold maxLen; omega, by omega, HASP.out, HISP.out.low (by omega)⟩) (fun h => by cases h) hwent)
      clear hwent hs1 hs2 hs3 h1 h2
      try unfold hdV
      go_wp2
      exact ⟨by rfl, .tuple #[hdV ⟨2, st0, some ⟨gP, 0, none⟩, 2, 2⟩, .bool true], by rw [results_cell_tmp rfl]; go_simp; rfl, by rw [HF.out]; exact K.out _ _ _ _ _ _⟩

theorem piece_any (HA : Spec1 128 d (atomF grp)) : Spec1 119 d (pieceF grp) := by
  intro g bs i w h hlt
  by_cases hs : (atomF grp (bs.drop i)).1 = none
  · exact piece_no HA g bs i w h hlt hs
  · cases b42 : nx 42 (atomF grp (bs.drop i)).2
    · cases b43 : nx 43 (atomF grp (bs.drop i)).2
      · cases b63 : nx 63 (atomF grp (bs.drop i)).2
        · exact piece_bare HA g bs i w h hlt b42 b43 b63 hs
        · exact piece_may HA g bs i w h hlt b42 b43 b63 hs
      · exact piece_plus HA g bs i w h hlt b42 b43 hs
    · exact piece_star HA g bs i w h hlt b42 hs
end






theorem Blk.far6 {w : World} {b x : Nat} {t : TypeId} {cs : Array Value} (h : Blk w x t cs) (hb : x ≠ b) (u0 u1 u2 u3 u4 u5 : Value) :
    Blk ((((((w.setCell ⟨b, 0, none⟩ u0).setCell ⟨b, 1, none⟩ u1).setCell ⟨b, 2, none⟩ u2).setCell ⟨b, 3, none⟩ u3).setCell ⟨b, 4, none⟩ u4).setCell ⟨b, 5, none⟩ u5) x t cs :=
  (((((h.far hb _).far hb _).far hb _).far hb _).far hb _).far hb _
theorem Blk.six {w : World} {b : Nat} {t : TypeId} {a0 a1 a2 a3 a4 a5 : Value} (h : Blk w b t #[a0, a1, a2, a3, a4, a5]) (u0 u1 u2 u3 u4 u5 : Value) :
    Blk ((((((w.setCell ⟨b, 0, none⟩ u0).setCell ⟨b, 1, none⟩ u1).setCell ⟨b, 2, none⟩ u2).setCell ⟨b, 3, none⟩ u3).setCell ⟨b, 4, none⟩ u4).setCell ⟨b, 5, none⟩ u5) b t #[u0, u1, u2, u3, u4, u5] :=
  (((((h.put 0 u0).put 1 u1).put 2 u2).put 3 u3).put 4 u4).put 5 u5
/-- A node's variable in the loop: what has been read so far is the tree r. -/
def SoFar (g : Nat) (bs : List UInt8) (d : Nat) (F : R Re) (go : Nat → Re → List UInt8 → R Re) (w : World) (v : Nat) (okv : Value) (wr : World) : Prop :=
  ∃ (j : Nat) (n : Hd) (ok : Bool), okv = .bool ok ∧ Ps wr g bs j d ∧ Blk wr v 76 (hdC n) ∧ Blk wr w.heap.size 76 nd0 ∧ Only g w wr ∧
    (ok = true → ∃ f r, F = go f r (bs.drop j) ∧ (bs.drop j).length < f ∧ IsS wr (fun b => w.heap.size + 1 ≤ b ∧ b ≠ v) n r) ∧ (ok = false → F = (none, bs.drop j))
section
variable {d : Nat} {grp : List UInt8 → R Re}
theorem seqL_end {f : Nat} {r : Re} {l : List UInt8} (hf : l.length < f) (he : endsF l = true) : seqL grp f r l = (some r, l) := by
  obtain ⟨k, rfl⟩ : ∃ k, f = k + 1 := ⟨f - 1, by omega⟩
  unfold seqL; rw [if_pos he]
theorem seqL_go {f : Nat} {r : Re} {l : List UInt8} (hf : l.length < f) (he : endsF l = false) : seqL grp f r l = match pieceF grp l with | (none, q) => (none, q) | (some m, q) => seqL grp (f - 1) (.thn r m) q := by
  obtain ⟨k, rfl⟩ : ∃ k, f = k + 1 := ⟨f - 1, by omega⟩
  rw [seqL, if_neg (by simp [he])]
  generalize pieceF grp l = z
  obtain ⟨o, q⟩ := z
  cases o <;> rfl
def seqM (w : World) (g n : Nat) (v : Value) : Nat := match v with | .bool true => leftN g n w + 1 | _ => 0
set_option maxHeartbeats 2000000 in
theorem seq_any (HL : Less grp) (HP : Spec1 119 d (pieceF grp)) : Spec 105 d (seqF grp) := by
  intro g bs i w h
  obtain ⟨w1, hw1⟩ : ∃ w1, w.alloc (.cells #[.int .i64 0, .int .u64 0, .int .u64 0, .int .u64 0, .int .u64 0, .slice none 0 0] 76) = w1 := ⟨_, rfl⟩
  have HG := keepHid h.lt
  have HP1 : Hid (Ps w1 g bs i d) := keepHid (by rw [← hw1]; exact h.alloc _)
  have HZ1 := keepHid (node_new hw1)
  have HO1 : Hid (Only g w w1) := keepHid (by rw [← hw1]; exact (Only.refl w g).alloc _)
  have HL1 : Hid (w1.heap.size = w.heap.size + 1) := keepHid (by rw [← hw1]; simp)
  have HPC := keepHid HP
  have HE1 := keepHid (ends_any HP1.out)
  have HLE := keepHid h.le
  have HMX := keepHid h.max
  clear h HP
  cases he : endsF (bs.drop i)
  · have HNE : Hid (i < bs.length) := keepHid (by
      rcases Nat.lt_or_ge i bs.length with h1 | h1
      · exact h1
      · rw [List.drop_eq_nil_of_le h1] at he; cases he)
    have HS : Hid (seqF grp (bs.drop i) = match pieceF grp (bs.drop i) with | (none, r) => (none, r) | (some n, r) => seqL grp 65 n r) := keepHid (by
      unfold seqF
      rw [if_neg (by simp [he])]
      generalize pieceF grp (bs.drop i) = z
      obtain ⟨o, q⟩ := z
      cases o <;> rfl)
    rw [he] at HE1
    clear he
    go_enter Tryz.func105, Tryz.ntmps105
    go_wp2_with fail
    refine HE1.out.mono ?_
    rintro e w' ⟨rfl, m, rfl⟩
    have HP2 := keepHid (HP1.out.drewN m)
    have HZ2 := keepHid (HZ1.out.drewN m)
    have HO2 := keepHid (HO1.out.drewN m)
    have HL2 : Hid ((w1.drewN m).heap.size = w.heap.size + 1) := keepHid HL1.out
    generalize w1.drewN m = w2 at *
    clear HP1 HZ1 HO1 HL1 HE1 hw1
    go_wp2_with fail
    refine (HPC.out g bs i w2 HP2.out HNE.out).mono ?_
    rintro e w3 ⟨n, ok, rfl, hok, hno, ⟨j3, hj3, hp3⟩, ho3⟩
    have hzl : w.heap.size < w2.heap.size := HZ2.out.lt
    obtain ⟨w4, hw4⟩ : ∃ w4, w3.alloc (.cells #[.int .i64 n.k, .int .u64 (n.s.a.toNat : Int), .int .u64 (n.s.b.toNat : Int), .int .u64 (n.s.c.toNat : Int), .int .u64 (n.s.d.toNat : Int), .slice n.A n.n n.c] 76) = w4 := ⟨_, rfl⟩
    have hsz3 : w2.heap.size ≤ w3.heap.size := ho3.size
    have hb34 : Below w3.heap.size w3 w4 := by rw [← hw4]; exact (Below.refl _ _).alloc (Nat.le_refl _) _
    have HR : Hid (SoFar g bs d (seqF grp (bs.drop i)) (seqL grp) w w3.heap.size (.bool ok) w4) := keepHid (by
      refine ⟨j3, n, ok, rfl, by rw [← hw4]; exact hp3.alloc _, by rw [← hw4]; exact Blk.new _ _ _, ?_, by rw [← hw4]; exact (HO2.out.trans ho3).alloc _, ?_, ?_⟩
      · rw [← hw4]; exact (HZ2.out.only ho3 (by have := HG.out; intro e; injection e; omega)).alloc _
      · intro hk
        obtain ⟨r, e1, e2⟩ := hok hk
        refine ⟨65, r, ?_, ?_, (e2.mono fun b hb hl => ⟨by have := HL2.out; omega, by omega⟩).below hb34⟩
        · rw [HS.out, hj3]
          generalize pieceF grp (bs.drop i) = z at *
          obtain ⟨o, q⟩ := z
          simp only at e1
          subst e1; rfl
        · have := HMX.out; simp; omega
      · intro hk
        have e1 := hno hk
        rw [HS.out, hj3]
        generalize pieceF grp (bs.drop i) = z at *
        obtain ⟨o, q⟩ := z
        simp only at e1
        subst e1; rfl)
    have HV : Hid (w.heap.size < w3.heap.size) := keepHid (by omega)
    clear hok hno hj3 hp3 ho3 hzl hsz3 hb34
    unfold hdV
    go_wp2_with fail
    try rw [hw4]
    clear hw4
    generalize w3.heap.size = v at *
    go_loopw [5] (fun okv wr => SoFar g bs d (seqF grp (bs.drop i)) (seqL grp) w v okv wr) (fun okv wr => seqM wr g bs.length okv)
    case atStart => exact HR.out
    case round =>
      obtain ⟨j, n', ok', rfl, hp, hn, hz, ho, hok, hno⟩ := hrel
      have HPR := keepHid hp
      have HNR := keepHid hn
      have HZR := keepHid hz
      have HOR := keepHid ho
      have HOKR := keepHid hok
      have HNOR := keepHid hno
      clear hp hn hz ho hok hno HR
      cases ok'
      · have HF := keepHid (HNOR.out rfl)
        obtain ⟨n0, n1, n2, n3, n4, n5, nf⟩ := blk6 HNR.out
        obtain ⟨z0, z1, z2, z3, z4, z5, zf⟩ := blk6 HZR.out
        have hw : Went g bs d (bs.drop j) w wr := ⟨⟨j, rfl, HPR.out⟩, HOR.out⟩
        have K := keepHid (hw.six (b := w.heap.size) (by have := HG.out; omega) (Nat.le_refl _))
        clear HOKR HNOR hw
        go_wp2
        exact ⟨by rfl, .tuple #[hdV n', .bool false], by rw [results_cell_tmp rfl]; go_simp; rfl, n', false, rfl, (fun h => by cases h), (fun _ => by rw [HF.out]), by rw [HF.out]; exact K.out _ _ _ _ _ _⟩
      · obtain ⟨f, r, hf, hlf, hir⟩ := HOKR.out rfl
        have HF := keepHid hf
        have HLF := keepHid hlf
        have HIR := keepHid hir
        have HER := keepHid (ends_any HPR.out)
        clear HOKR HNOR hf hlf hir
        cases he : endsF (bs.drop j)
        · have HNJ : Hid (j < bs.length) := keepHid (by
            rcases Nat.lt_or_ge j bs.length with h1 | h1
            · exact h1
            · rw [List.drop_eq_nil_of_le h1] at he; cases he)
          have HGO := keepHid (seqL_go (grp := grp) (r := r) HLF.out he)
          have HNE := keepHid (ends_ne he)
          rw [he] at HER
          clear he
          go_wp2_with fail
          refine HER.out.mono ?_
          rintro e w' ⟨rfl, m5, rfl⟩
          obtain ⟨wd, hwd⟩ : ∃ wd, wr.drewN m5 = wd := ⟨_, rfl⟩
          have hpd : Ps wd g bs j d := by rw [← hwd]; exact HPR.out.drewN m5
          have hnd : Blk wd v 76 (hdC n') := by rw [← hwd]; exact HNR.out.drewN m5
          have hzd : Blk wd w.heap.size 76 nd0 := by rw [← hwd]; exact HZR.out.drewN m5
          have hod : Only g w wd := by rw [← hwd]; exact HOR.out.drewN m5
          have hid : IsS wd (fun b => w.heap.size + 1 ≤ b ∧ b ≠ v) n' r := by rw [← hwd]; exact HIR.out.below (below_drewN (Below.refl _ _) m5)
          rw [hwd]
          obtain ⟨w5, hw5⟩ : ∃ w5, wd.alloc (.cells #[.int .i64 0, .int .u64 0, .int .u64 0, .int .u64 0, .int .u64 0, .slice none 0 0] 76) = w5 := ⟨_, rfl⟩
          have HP5 : Hid (Ps w5 g bs j d) := keepHid (by rw [← hw5]; exact hpd.alloc _)
          have HN5 : Hid (Blk w5 v 76 (hdC n')) := keepHid (by rw [← hw5]; exact hnd.alloc _)
          have HZ5 : Hid (Blk w5 w.heap.size 76 nd0) := keepHid (by rw [← hw5]; exact hzd.alloc _)
          have HO5 : Hid (Only g w w5) := keepHid (by rw [← hw5]; exact hod.alloc _)
          have HI5 : Hid (IsS w5 (fun b => w.heap.size + 1 ≤ b ∧ b ≠ v ∧ b ≠ wd.heap.size) n' r) := keepHid (by rw [← hw5]; exact (hid.mono fun b hb hl => ⟨hb.1, hb.2, by omega⟩).below ((Below.refl _ _).alloc (Nat.le_refl _) _))
          have HM5 : Hid (Blk w5 wd.heap.size 76 nd0) := keepHid (by rw [← hw5]; exact Blk.new _ _ _)
          have HVD : Hid (v < wd.heap.size) := keepHid hnd.lt
          have HS5 : Hid (w5.heap.size = wd.heap.size + 1) := keepHid (by rw [← hw5]; simp)
          obtain ⟨q, hq⟩ : ∃ q, wd.heap.size = q := ⟨_, rfl⟩
          rw [hq] at HM5 HVD HS5 HI5
          clear hpd hnd hzd hod hid HER hwd
          go_wp2_with (go_at_call 119; fail)
          try rw [hq]
          clear hq hw5
          refine (HPC.out g bs j w5 HP5.out HNJ.out).mono ?_
          rintro e w6 ⟨mm, ok2, rfl, hok2, hno2, ⟨j6, hj6, hp6⟩, ho6⟩
          have hgg := HG.out
          have hvd := HVD.out
          have hv := HV.out
          have hs5 := HS5.out
          have HN6 := keepHid (HN5.out.only ho6 (by intro e; injection e; omega))
          have HZ6 := keepHid (HZ5.out.only ho6 (by intro e; injection e; omega))
          have HM6 := keepHid (HM5.out.only ho6 (by intro e; injection e; omega))
          have HO6 := keepHid (HO5.out.trans ho6)
          have HP6 := keepHid hp6
          have HJ6 := keepHid hj6
          have HI6 : Hid (IsS w6 (fun b => w.heap.size + 1 ≤ b ∧ b ≠ v ∧ b ≠ q) n' r) := keepHid (HI5.out.keep fun b hb hl => ho6.block b hl (by intro e; injection e; omega))
          have HOK2 : Hid (ok2 = true → ∃ rm, (pieceF grp (bs.drop j)).1 = some rm ∧ IsS w6 (fun b => w.heap.size + 1 ≤ b ∧ b ≠ v ∧ b ≠ q) mm rm) := keepHid (fun h => by
            obtain ⟨rm, e1, e2⟩ := hok2 h
            exact ⟨rm, e1, e2.mono fun b hb _ => by omega⟩)
          have HNO2 := keepHid hno2
          have HS6 : Hid (w5.heap.size ≤ w6.heap.size) := keepHid ho6.size
          clear hp6 ho6 hj6 hok2 hno2
          obtain ⟨n0, n1, n2, n3, n4, n5, nf⟩ := blk6 HN6.out
          obtain ⟨m0, m1, m2, m3, m4, m5', mf⟩ := blk6 HM6.out
          unfold hdV
          go_wp2_with (go_at_call 107; fail)
          obtain ⟨w7, hw7⟩ : ∃ w7, (((((w6.setCell ⟨q, 0, none⟩ (.int .i64 mm.k)).setCell ⟨q, 1, none⟩ (.int .u64 (mm.s.a.toNat : Int))).setCell ⟨q, 2, none⟩ (.int .u64 (mm.s.b.toNat : Int))).setCell ⟨q, 3, none⟩ (.int .u64 (mm.s.c.toNat : Int))).setCell ⟨q, 4, none⟩ (.int .u64 (mm.s.d.toNat : Int))).setCell ⟨q, 5, none⟩ (.slice mm.A mm.n mm.c) = w7 := ⟨_, rfl⟩
          have HP7 : Hid (Ps w7 g bs j6 d) := keepHid (by rw [← hw7]; exact HP6.out.far6 (by omega) _ _ _ _ _ _)
          have HO7 : Hid (Only g w w7) := keepHid (by rw [← hw7]; exact HO6.out.six (by omega) _ _ _ _ _ _)
          have HN7 : Hid (Blk w7 v 76 (hdC n')) := keepHid (by rw [← hw7]; exact HN6.out.far6 (by omega) _ _ _ _ _ _)
          have HZ7 : Hid (Blk w7 w.heap.size 76 nd0) := keepHid (by rw [← hw7]; exact HZ6.out.far6 (by omega) _ _ _ _ _ _)
          have HI7 : Hid (IsS w7 (fun b => w.heap.size + 1 ≤ b ∧ b ≠ v ∧ b ≠ q) n' r) := keepHid (by rw [← hw7]; exact HI6.out.keep fun b hb _ => six_far hb.2.2)
          have HOK7 : Hid (ok2 = true → ∃ rm, (pieceF grp (bs.drop j)).1 = some rm ∧ IsS w7 (fun b => w.heap.size + 1 ≤ b ∧ b ≠ v ∧ b ≠ q) mm rm) := keepHid (fun h => by
            obtain ⟨rm, e1, e2⟩ := HOK2.out h
            rw [← hw7]
            exact ⟨rm, e1, e2.keep fun b hb _ => six_far hb.2.2⟩)
          have HS7 : Hid (w5.heap.size ≤ w7.heap.size) := keepHid (by rw [← hw7]; have := HS6.out; simpa using this)
          rw [hw7]
          clear hw7 n0 n1 n2 n3 n4 n5 nf m0 m1 m2 m3 m4 m5' mf
          refine (pair_any 2 n' mm w7).mono ?_
          rintro e w8 ⟨gP, rfl, hgP, hat0, hat6, hb8⟩
          have HP8 := keepHid (HP7.out.below hb8 HP7.out.lt)
          have HO8 := keepHid (HO7.out.trans (Only.of_below (g := g) hb8))
          have HN8 := keepHid (HN7.out.below hb8 HN7.out.lt)
          have HZ8 := keepHid (HZ7.out.below hb8 HZ7.out.lt)
          have HI8 := keepHid (HI7.out.below hb8)
          have HOK8 : Hid (ok2 = true → ∃ rm, (pieceF grp (bs.drop j)).1 = some rm ∧ IsS w8 (fun b => w.heap.size + 1 ≤ b ∧ b ≠ v) (⟨2, st0, some ⟨gP, 0, none⟩, 2, 2⟩ : Hd) (.thn r rm)) := keepHid (fun h => by
            obtain ⟨rm, e1, e2⟩ := HOK7.out h
            have hs7 := HS7.out
            exact ⟨rm, e1, gP, 2, n', mm, rfl, Nat.le_refl _, by unfold maxLen; omega, ⟨by omega, by omega⟩, hat0, hat6, HI8.out.mono fun b hb _ => ⟨hb.1, hb.2.1⟩, (e2.below hb8).mono fun b hb _ => ⟨hb.1, hb.2.1⟩⟩)
          clear hgP hat0 hat6 hb8
          obtain ⟨n0, n1, n2, n3, n4, n5, nf⟩ := blk6 HN8.out
          unfold hdV
          go_wp2
          go_roundw
          case rel =>
            refine ⟨j6, ⟨2, st0, some ⟨gP, 0, none⟩, 2, 2⟩, ok2, rfl, HP8.out.far6 (by omega) _ _ _ _ _ _, HN8.out.six _ _ _ _ _ _, HZ8.out.far6 (by omega) _ _ _ _ _ _, HO8.out.six (by omega) _ _ _ _ _ _, ?_, ?_⟩
            · intro hk
              obtain ⟨rm, e1, e2⟩ := HOK8.out hk
              refine ⟨f - 1, .thn r rm, ?_, ?_, e2.keep fun b hb _ => six_far hb.2⟩
              · rw [HF.out, HGO.out, HJ6.out]
                generalize pieceF grp (bs.drop j) = z at *
                obtain ⟨o, y⟩ := z
                simp only at e1
                subst e1; rfl
              · have h1 := HLF.out
                have h2 := pieceF_lt HL HNE.out (show pieceF grp (bs.drop j) = (some rm, (pieceF grp (bs.drop j)).2) by rw [← e1])
                rw [HJ6.out]
                omega
            · intro hk
              have e1 := HNO2.out hk
              rw [HF.out, HGO.out, HJ6.out]
              generalize pieceF grp (bs.drop j) = z at *
              obtain ⟨o, y⟩ := z
              simp only at e1
              subst e1; rfl
          case measure =>
            cases ok2
            · show 0 < leftN g bs.length wr + 1
              omega
            · obtain ⟨rm, e1, e2⟩ := HOK8.out rfl
              have h2 := pieceF_lt HL HNE.out (show pieceF grp (bs.drop j) = (some rm, (pieceF grp (bs.drop j)).2) by rw [← e1])
              show leftN g bs.length _ + 1 < leftN g bs.length wr + 1
              rw [leftN_of (HP8.out.far6 (b := v) (by omega) _ _ _ _ _ _), leftN_of HPR.out, HJ6.out]
              omega
        · have HEND := keepHid (seqL_end (grp := grp) (r := r) HLF.out he)
          rw [he] at HER
          clear he
          go_wp2_with fail
          refine HER.out.mono ?_
          rintro e w' ⟨rfl, m5, rfl⟩
          have HPE := keepHid (HPR.out.drewN m5)
          have HOE := keepHid (HOR.out.drewN m5)
          have HNE := keepHid (HNR.out.drewN m5)
          have HZE := keepHid (HZR.out.drewN m5)
          have HIE : Hid (IsS (wr.drewN m5) (fun b => w.heap.size + 1 ≤ b ∧ b ≠ v) n' r) := keepHid (HIR.out.below (below_drewN (Below.refl _ _) m5))
          generalize wr.drewN m5 = we at *
          obtain ⟨n0, n1, n2, n3, n4, n5, nf⟩ := blk6 HNE.out
          obtain ⟨z0, z1, z2, z3, z4, z5, zf⟩ := blk6 HZE.out
          have hw : Went g bs d (bs.drop j) w we := ⟨⟨j, rfl, HPE.out⟩, HOE.out⟩
          have K := keepHid (hw.six (b := w.heap.size) (by have := HG.out; omega) (Nat.le_refl _))
          clear hw HER
          go_wp2
          exact ⟨by rfl, .tuple #[hdV n', .bool true], by rw [results_cell_tmp rfl]; go_simp; rfl, n', true, rfl, (fun _ => ⟨r, by rw [HF.out, HEND.out], (HIE.out.keep fun b hb _ => six_far (by omega)).mono fun b hb _ => by omega⟩), (fun h => by cases h), by rw [HF.out, HEND.out]; exact K.out _ _ _ _ _ _⟩
  · have HF : Hid (seqF grp (bs.drop i) = (some .nil, bs.drop i)) := keepHid (by unfold seqF; rw [if_pos he])
    rw [he] at HE1
    clear he
    go_enter Tryz.func105, Tryz.ntmps105
    go_wp2_with fail
    refine HE1.out.mono ?_
    rintro e w' ⟨rfl, m, rfl⟩
    have HP2 := keepHid (HP1.out.drewN m)
    have HZ2 := keepHid (HZ1.out.drewN m)
    have HO2 := keepHid (HO1.out.drewN m)
    generalize w1.drewN m = w2 at *
    obtain ⟨z0, z1, z2, z3, z4, z5, zf⟩ := blk6 HZ2.out
    have hw : Went g bs d (bs.drop i) w w2 := ⟨⟨i, rfl, HP2.out⟩, HO2.out⟩
    have K := keepHid (hw.six (b := w.heap.size) (by have := HG.out; omega) (Nat.le_refl _))
    clear hw HE1 hw1
    go_wp2
    exact ⟨by rfl, .tuple #[hdV hd0, .bool true], by rw [results_cell_tmp rfl]; go_simp; rfl, hd0, true, rfl, (fun _ => ⟨.nil, by rw [HF.out], rfl⟩), (fun h => by cases h), by rw [HF.out]; exact K.out _ _ _ _ _ _⟩
end







section
variable {d : Nat} {grp : List UInt8 → R Re}
theorem altL_end {f : Nat} {r : Re} {l : List UInt8} (hf : l.length < f) (he : nx 124 l = false) : altL grp f r l = (some r, l) := by
  obtain ⟨k, rfl⟩ : ∃ k, f = k + 1 := ⟨f - 1, by omega⟩
  unfold altL; rw [if_neg (by simp [he])]
theorem altL_go {f : Nat} {r : Re} {l : List UInt8} (hf : l.length < f) (he : nx 124 l = true) : altL grp f r l = match seqF grp l.tail with | (none, q) => (none, q) | (some m, q) => altL grp (f - 1) (.alt r m) q := by
  obtain ⟨k, rfl⟩ : ∃ k, f = k + 1 := ⟨f - 1, by omega⟩
  rw [altL, if_pos he]
  generalize seqF grp l.tail = z
  obtain ⟨o, q⟩ := z
  cases o <;> rfl
set_option maxHeartbeats 2000000 in
theorem alt_any (HL : Less grp) (HP : Spec 105 d (seqF grp)) : Spec 90 d (altG grp) := by
  intro g bs i w h
  obtain ⟨w2, hw2⟩ : ∃ w2, w.alloc (.cells #[.int .i64 0, .int .u64 0, .int .u64 0, .int .u64 0, .int .u64 0, .slice none 0 0] 76) = w2 := ⟨_, rfl⟩
  have HG := keepHid h.lt
  have HP2 : Hid (Ps w2 g bs i d) := keepHid (by rw [← hw2]; exact h.alloc _)
  have HZ2 := keepHid (node_new hw2)
  have HO2 : Hid (Only g w w2) := keepHid (by rw [← hw2]; exact (Only.refl w g).alloc _)
  have HL2 : Hid (w2.heap.size = w.heap.size + 1) := keepHid (by rw [← hw2]; simp)
  have HPC := keepHid HP
  have HMX := keepHid h.max
  clear h HP
  have HS : Hid (altG grp (bs.drop i) = match seqF grp (bs.drop i) with | (none, r) => (none, r) | (some n, r) => altL grp 65 n r) := keepHid (by
    unfold altG
    generalize seqF grp (bs.drop i) = z
    obtain ⟨o, q⟩ := z
    cases o <;> rfl)
  go_enter Tryz.func90, Tryz.ntmps90
  go_wp2_with fail
  clear hw2
  refine (HPC.out g bs i w2 HP2.out).mono ?_
  rintro e w3 ⟨n, ok, rfl, hok, hno, ⟨j3, hj3, hp3⟩, ho3⟩
  have hzl : w.heap.size < w2.heap.size := HZ2.out.lt
  obtain ⟨w4, hw4⟩ : ∃ w4, w3.alloc (.cells #[.int .i64 n.k, .int .u64 (n.s.a.toNat : Int), .int .u64 (n.s.b.toNat : Int), .int .u64 (n.s.c.toNat : Int), .int .u64 (n.s.d.toNat : Int), .slice n.A n.n n.c] 76) = w4 := ⟨_, rfl⟩
  have hsz3 : w2.heap.size ≤ w3.heap.size := ho3.size
  have hb34 : Below w3.heap.size w3 w4 := by rw [← hw4]; exact (Below.refl _ _).alloc (Nat.le_refl _) _
  have HR : Hid (SoFar g bs d (altG grp (bs.drop i)) (altL grp) w w3.heap.size (.bool ok) w4) := keepHid (by
    refine ⟨j3, n, ok, rfl, by rw [← hw4]; exact hp3.alloc _, by rw [← hw4]; exact Blk.new _ _ _, ?_, by rw [← hw4]; exact (HO2.out.trans ho3).alloc _, ?_, ?_⟩
    · rw [← hw4]; exact (HZ2.out.only ho3 (by have := HG.out; intro e; injection e; omega)).alloc _
    · intro hk
      obtain ⟨r, e1, e2⟩ := hok hk
      refine ⟨65, r, ?_, ?_, (e2.mono fun b hb hl => ⟨by have := HL2.out; omega, by omega⟩).below hb34⟩
      · rw [HS.out, hj3]
        generalize seqF grp (bs.drop i) = z at *
        obtain ⟨o, q⟩ := z
        simp only at e1
        subst e1; rfl
      · have := HMX.out; simp; omega
    · intro hk
      have e1 := hno hk
      rw [HS.out, hj3]
      generalize seqF grp (bs.drop i) = z at *
      obtain ⟨o, q⟩ := z
      simp only at e1
      subst e1; rfl)
  have HV : Hid (w.heap.size < w3.heap.size) := keepHid (by omega)
  clear hok hno hj3 hp3 ho3 hzl hsz3 hb34
  unfold hdV
  go_wp2_with fail
  try rw [hw4]
  clear hw4
  generalize w3.heap.size = v at *
  go_loopw [5] (fun okv wr => SoFar g bs d (altG grp (bs.drop i)) (altL grp) w v okv wr) (fun okv wr => seqM wr g bs.length okv)
  case atStart => exact HR.out
  case round =>
    obtain ⟨j, n', ok', rfl, hp, hn, hz, ho, hok, hno⟩ := hrel
    have HPR := keepHid hp
    have HNR := keepHid hn
    have HZR := keepHid hz
    have HOR := keepHid ho
    have HOKR := keepHid hok
    have HNOR := keepHid hno
    clear hp hn hz ho hok hno HR
    cases ok'
    · have HF := keepHid (HNOR.out rfl)
      obtain ⟨n0, n1, n2, n3, n4, n5, nf⟩ := blk6 HNR.out
      obtain ⟨z0, z1, z2, z3, z4, z5, zf⟩ := blk6 HZR.out
      have hw : Went g bs d (bs.drop j) w wr := ⟨⟨j, rfl, HPR.out⟩, HOR.out⟩
      have K := keepHid (hw.six (b := w.heap.size) (by have := HG.out; omega) (Nat.le_refl _))
      clear HOKR HNOR hw
      go_wp2
      exact ⟨by rfl, .tuple #[hdV n', .bool false], by rw [results_cell_tmp rfl]; go_simp; rfl, n', false, rfl, (fun h => by cases h), (fun _ => by rw [HF.out]), by rw [HF.out]; exact K.out _ _ _ _ _ _⟩
    · obtain ⟨f, r, hf, hlf, hir⟩ := HOKR.out rfl
      have HF := keepHid hf
      have HLF := keepHid hlf
      have HIR := keepHid hir
      have HER := keepHid (take_any HPR.out 124 124 rfl)
      unfold TakePost at HER
      clear HOKR HNOR hf hlf hir
      cases he : nx 124 (bs.drop j)
      case true =>
        have HGO := keepHid (altL_go (grp := grp) (r := r) HLF.out he)
        have HNT := keepHid (nx_tail he)
        rw [he] at HER
        simp only [if_true] at HER
        clear he
        go_wp2_with fail
        refine HER.out.mono ?_
        rintro e wd ⟨rfl, ⟨jd, hjd, hpd⟩, hot⟩
        have hgg := HG.out
        have hv := HV.out
        have HJD := keepHid hjd
        have hnd := HNR.out.only hot (by intro e; injection e; omega)
        have hzd := HZR.out.only hot (by intro e; injection e; omega)
        have hod := HOR.out.trans hot
        have hid : IsS wd (fun b => w.heap.size + 1 ≤ b ∧ b ≠ v) n' r := HIR.out.keep fun b hb hl => hot.block b hl (by intro e; injection e; omega)
        obtain ⟨w5, hw5⟩ : ∃ w5, wd.alloc (.cells #[.int .i64 0, .int .u64 0, .int .u64 0, .int .u64 0, .int .u64 0, .slice none 0 0] 76) = w5 := ⟨_, rfl⟩
        have HP5 : Hid (Ps w5 g bs jd d) := keepHid (by rw [← hw5]; exact hpd.alloc _)
        have HN5 : Hid (Blk w5 v 76 (hdC n')) := keepHid (by rw [← hw5]; exact hnd.alloc _)
        have HZ5 : Hid (Blk w5 w.heap.size 76 nd0) := keepHid (by rw [← hw5]; exact hzd.alloc _)
        have HO5 : Hid (Only g w w5) := keepHid (by rw [← hw5]; exact hod.alloc _)
        have HI5 : Hid (IsS w5 (fun b => w.heap.size + 1 ≤ b ∧ b ≠ v ∧ b ≠ wd.heap.size) n' r) := keepHid (by rw [← hw5]; exact (hid.mono fun b hb hl => ⟨hb.1, hb.2, by omega⟩).below ((Below.refl _ _).alloc (Nat.le_refl _) _))
        have HM5 : Hid (Blk w5 wd.heap.size 76 nd0) := keepHid (by rw [← hw5]; exact Blk.new _ _ _)
        have HVD : Hid (v < wd.heap.size) := keepHid hnd.lt
        have HS5 : Hid (w5.heap.size = wd.heap.size + 1) := keepHid (by rw [← hw5]; simp)
        obtain ⟨q, hq⟩ : ∃ q, wd.heap.size = q := ⟨_, rfl⟩
        rw [hq] at HM5 HVD HS5 HI5
        clear hpd hnd hzd hod hid HER hot hjd
        go_wp2_with (go_at_call 105; fail)
        try rw [hq]
        clear hq hw5
        refine (HPC.out g bs jd w5 HP5.out).mono ?_
        rintro e w6 ⟨mm, ok2, rfl, hok2, hno2, ⟨j6, hj6, hp6⟩, ho6⟩
        rw [HJD.out] at hok2 hno2 hj6
        have hvd := HVD.out
        have hs5 := HS5.out
        have HN6 := keepHid (HN5.out.only ho6 (by intro e; injection e; omega))
        have HZ6 := keepHid (HZ5.out.only ho6 (by intro e; injection e; omega))
        have HM6 := keepHid (HM5.out.only ho6 (by intro e; injection e; omega))
        have HO6 := keepHid (HO5.out.trans ho6)
        have HP6 := keepHid hp6
        have HJ6 := keepHid hj6
        have HI6 : Hid (IsS w6 (fun b => w.heap.size + 1 ≤ b ∧ b ≠ v ∧ b ≠ q) n' r) := keepHid (HI5.out.keep fun b hb hl => ho6.block b hl (by intro e; injection e; omega))
        have HOK2 : Hid (ok2 = true → ∃ rm, (seqF grp (bs.drop j).tail).1 = some rm ∧ IsS w6 (fun b => w.heap.size + 1 ≤ b ∧ b ≠ v ∧ b ≠ q) mm rm) := keepHid (fun h => by
          obtain ⟨rm, e1, e2⟩ := hok2 h
          exact ⟨rm, e1, e2.mono fun b hb _ => by omega⟩)
        have HNO2 := keepHid hno2
        have HS6 : Hid (w5.heap.size ≤ w6.heap.size) := keepHid ho6.size
        clear hp6 ho6 hj6 hok2 hno2
        obtain ⟨n0, n1, n2, n3, n4, n5, nf⟩ := blk6 HN6.out
        obtain ⟨m0, m1, m2, m3, m4, m5', mf⟩ := blk6 HM6.out
        unfold hdV
        go_wp2_with (go_at_call 107; fail)
        obtain ⟨w7, hw7⟩ : ∃ w7, (((((w6.setCell ⟨q, 0, none⟩ (.int .i64 mm.k)).setCell ⟨q, 1, none⟩ (.int .u64 (mm.s.a.toNat : Int))).setCell ⟨q, 2, none⟩ (.int .u64 (mm.s.b.toNat : Int))).setCell ⟨q, 3, none⟩ (.int .u64 (mm.s.c.toNat : Int))).setCell ⟨q, 4, none⟩ (.int .u64 (mm.s.d.toNat : Int))).setCell ⟨q, 5, none⟩ (.slice mm.A mm.n mm.c) = w7 := ⟨_, rfl⟩
        have HP7 : Hid (Ps w7 g bs j6 d) := keepHid (by rw [← hw7]; exact HP6.out.far6 (by omega) _ _ _ _ _ _)
        have HO7 : Hid (Only g w w7) := keepHid (by rw [← hw7]; exact HO6.out.six (by omega) _ _ _ _ _ _)
        have HN7 : Hid (Blk w7 v 76 (hdC n')) := keepHid (by rw [← hw7]; exact HN6.out.far6 (by omega) _ _ _ _ _ _)
        have HZ7 : Hid (Blk w7 w.heap.size 76 nd0) := keepHid (by rw [← hw7]; exact HZ6.out.far6 (by omega) _ _ _ _ _ _)
        have HI7 : Hid (IsS w7 (fun b => w.heap.size + 1 ≤ b ∧ b ≠ v ∧ b ≠ q) n' r) := keepHid (by rw [← hw7]; exact HI6.out.keep fun b hb _ => six_far hb.2.2)
        have HOK7 : Hid (ok2 = true → ∃ rm, (seqF grp (bs.drop j).tail).1 = some rm ∧ IsS w7 (fun b => w.heap.size + 1 ≤ b ∧ b ≠ v ∧ b ≠ q) mm rm) := keepHid (fun h => by
          obtain ⟨rm, e1, e2⟩ := HOK2.out h
          rw [← hw7]
          exact ⟨rm, e1, e2.keep fun b hb _ => six_far hb.2.2⟩)
        have HS7 : Hid (w5.heap.size ≤ w7.heap.size) := keepHid (by rw [← hw7]; have := HS6.out; simpa using this)
        rw [hw7]
        clear hw7 n0 n1 n2 n3 n4 n5 nf m0 m1 m2 m3 m4 m5' mf
        refine (pair_any 3 n' mm w7).mono ?_
        rintro e w8 ⟨gP, rfl, hgP, hat0, hat6, hb8⟩
        have HP8 := keepHid (HP7.out.below hb8 HP7.out.lt)
        have HO8 := keepHid (HO7.out.trans (Only.of_below (g := g) hb8))
        have HN8 := keepHid (HN7.out.below hb8 HN7.out.lt)
        have HZ8 := keepHid (HZ7.out.below hb8 HZ7.out.lt)
        have HI8 := keepHid (HI7.out.below hb8)
        have HOK8 : Hid (ok2 = true → ∃ rm, (seqF grp (bs.drop j).tail).1 = some rm ∧ IsS w8 (fun b => w.heap.size + 1 ≤ b ∧ b ≠ v) (⟨3, st0, some ⟨gP, 0, none⟩, 2, 2⟩ : Hd) (.alt r rm)) := keepHid (fun h => by
          obtain ⟨rm, e1, e2⟩ := HOK7.out h
          have hs7 := HS7.out
          exact ⟨rm, e1, gP, 2, n', mm, rfl, Nat.le_refl _, by unfold maxLen; omega, ⟨by omega, by omega⟩, hat0, hat6, HI8.out.mono fun b hb _ => ⟨hb.1, hb.2.1⟩, (e2.below hb8).mono fun b hb _ => ⟨hb.1, hb.2.1⟩⟩)
        clear hgP hat0 hat6 hb8
        obtain ⟨n0, n1, n2, n3, n4, n5, nf⟩ := blk6 HN8.out
        unfold hdV
        go_wp2
        go_roundw
        case rel =>
          refine ⟨j6, ⟨3, st0, some ⟨gP, 0, none⟩, 2, 2⟩, ok2, rfl, HP8.out.far6 (by omega) _ _ _ _ _ _, HN8.out.six _ _ _ _ _ _, HZ8.out.far6 (by omega) _ _ _ _ _ _, HO8.out.six (by omega) _ _ _ _ _ _, ?_, ?_⟩
          · intro hk
            obtain ⟨rm, e1, e2⟩ := HOK8.out hk
            refine ⟨f - 1, .alt r rm, ?_, ?_, e2.keep fun b hb _ => six_far hb.2⟩
            · rw [HF.out, HGO.out, HJ6.out]
              generalize seqF grp (bs.drop j).tail = z at *
              obtain ⟨o, y⟩ := z
              simp only at e1
              subst e1; rfl
            · have h1 := HLF.out
              have h2 := seqF_le HL _ _ _ (show seqF grp (bs.drop j).tail = (some rm, (seqF grp (bs.drop j).tail).2) by rw [← e1])
              have h3 := HNT.out
              rw [HJ6.out]
              omega
          · intro hk
            have e1 := HNO2.out hk
            rw [HF.out, HGO.out, HJ6.out]
            generalize seqF grp (bs.drop j).tail = z at *
            obtain ⟨o, y⟩ := z
            simp only at e1
            subst e1; rfl
        case measure =>
          cases ok2
          · show 0 < leftN g bs.length wr + 1
            omega
          · obtain ⟨rm, e1, e2⟩ := HOK8.out rfl
            have h2 := seqF_le HL _ _ _ (show seqF grp (bs.drop j).tail = (some rm, (seqF grp (bs.drop j).tail).2) by rw [← e1])
            show leftN g bs.length _ + 1 < leftN g bs.length wr + 1
            have h3 := HNT.out
            rw [leftN_of (HP8.out.far6 (b := v) (by omega) _ _ _ _ _ _), leftN_of HPR.out, HJ6.out]
            omega
      case false =>
        have HEND := keepHid (altL_end (grp := grp) (r := r) HLF.out he)
        rw [he] at HER
        simp only [Bool.false_eq_true, if_false] at HER
        clear he
        go_wp2_with fail
        refine HER.out.mono ?_
        rintro e we ⟨rfl, ⟨jd, hjd, hpd⟩, hot⟩
        have hgg := HG.out
        have hv := HV.out
        have HOE := keepHid (HOR.out.trans hot)
        have HPE := keepHid hpd
        have HJD := keepHid hjd
        have HNE := keepHid (HNR.out.only hot (by intro e; injection e; omega))
        have HZE := keepHid (HZR.out.only hot (by intro e; injection e; omega))
        have HIE : Hid (IsS we (fun b => w.heap.size + 1 ≤ b ∧ b ≠ v) n' r) := keepHid (HIR.out.keep fun b hb hl => hot.block b hl (by intro e; injection e; omega))
        clear hjd hpd hot
        obtain ⟨n0, n1, n2, n3, n4, n5, nf⟩ := blk6 HNE.out
        obtain ⟨z0, z1, z2, z3, z4, z5, zf⟩ := blk6 HZE.out
        have hw : Went g bs d (bs.drop j) w we := ⟨⟨jd, HJD.out, HPE.out⟩, HOE.out⟩
        have K := keepHid (hw.six (b := w.heap.size) (by have := HG.out; omega) (Nat.le_refl _))
        clear hw HER
        go_wp2
        exact ⟨by rfl, .tuple #[hdV n', .bool true], by rw [results_cell_tmp rfl]; go_simp; rfl, n', true, rfl, (fun _ => ⟨r, by rw [HF.out, HEND.out], (HIE.out.keep fun b hb _ => six_far (by omega)).mono fun b hb _ => by omega⟩), (fun h => by cases h), by rw [HF.out, HEND.out]; exact K.out _ _ _ _ _ _⟩
end







theorem group_spec : ∀ (k d : Nat), d + k = 6 → Spec1 133 d (grpN k) ∧ Spec 90 d (altN k)
  | 0, d, h => by
    obtain rfl : d = 6 := by omega
    have h1 : Spec1 133 6 (grpN 0) := fun g bs i w hp _ => group_full g bs i w hp
    refine ⟨h1, ?_⟩
    rw [altN_eq]
    exact alt_any (grpN_lt 0) (seq_any (grpN_lt 0) (piece_any (atom_any h1)))
  | k + 1, d, h => by
    have h1 : Spec1 133 d (grpN (k + 1)) := group_less d (altN k) (by omega) (group_spec k (d + 1) (by omega)).2
    refine ⟨h1, ?_⟩
    rw [altN_eq]
    exact alt_any (grpN_lt (k + 1)) (seq_any (grpN_lt (k + 1)) (piece_any (atom_any h1)))
theorem alt_spec : Spec 90 0 (altN 6) := (group_spec 6 0 rfl).2
theorem parseF_some {bs : List UInt8} {r : Re} (h : altN 6 bs = (some r, [])) : parseF bs = (some r, bs.length) := by unfold parseF; rw [h]
theorem parseF_rest {bs l : List UInt8} {o : Option Re} (h : altN 6 bs = (o, l)) (hn : o = none ∨ l ≠ []) : parseF bs = (none, bs.length - l.length) := by
  unfold parseF
  rw [h]
  rcases o with _ | r
  · rfl
  · rcases l with _ | ⟨a, q⟩
    · rcases hn with hn | hn
      · cases hn
      · exact absurd rfl hn
    · rfl
/-- What 'Parse' answers. -/
def ParsePost (bs : List UInt8) (w : World) (e : Ending) (w' : World) : Prop :=
  Below w.heap.size w w' ∧
  ((64 < bs.length ∧ e = .returned (.tuple #[hdV hd0, faultV 7 64])) ∨
   (bs.length ≤ 64 ∧ ((∃ r h, parseF bs = (some r, bs.length) ∧ e = .returned (.tuple #[hdV h, .nilIface]) ∧ IsRe w' w.heap.size h r) ∨
     (∃ p : Nat, parseF bs = (none, p) ∧ e = .returned (.tuple #[hdV hd0, faultV 8 (p : Int)])))))
theorem below_six {B b : Nat} {a w : World} (h : Below B a w) (hb : B ≤ b) (u0 u1 u2 u3 u4 u5 : Value) :
    Below B a ((((((w.setCell ⟨b, 0, none⟩ u0).setCell ⟨b, 1, none⟩ u1).setCell ⟨b, 2, none⟩ u2).setCell ⟨b, 3, none⟩ u3).setCell ⟨b, 4, none⟩ u4).setCell ⟨b, 5, none⟩ u5) :=
  (((((h.setCell hb _).setCell hb _).setCell hb _).setCell hb _).setCell hb _).setCell hb _
set_option maxHeartbeats 1000000 in
theorem parse_long (bs : List UInt8) (hl : 64 < bs.length) (w : World) : Calls Tryz.prog 75 #[.string (strB bs)] w (ParsePost bs w) := by
  obtain ⟨w1, hw1⟩ : ∃ w1, w.alloc (.cells #[.int .i64 0, .int .u64 0, .int .u64 0, .int .u64 0, .int .u64 0, .slice none 0 0] 76) = w1 := ⟨_, rfl⟩
  have hz := node_new hw1
  have HB1 : Hid (Below w.heap.size w w1) := keepHid (by rw [← hw1]; exact (Below.refl _ _).alloc (Nat.le_refl _) _)
  have HL := keepHid hl
  have hsz : (strB bs).size = bs.length := strB_size bs
  obtain ⟨z0, z1, z2, z3, z4, z5, zf⟩ := blk6 hz
  have hlt : (64 : Int) < (bs.length : Int) := by omega
  generalize strB bs = S at *
  clear hl hz
  go_enter Tryz.func75, Tryz.ntmps75
  go_wp2_with fail
  refine (wrap_any 7 64 _).mono ?_
  rintro e w' ⟨rfl, rfl⟩
  unfold faultV
  go_wp2
  exact ⟨by rfl, .tuple #[hdV hd0, faultV 7 64], by rw [results_cell_tmp rfl]; go_simp; first | rfl | exact ⟨rfl, rfl⟩, below_six HB1.out (Nat.le_refl _) _ _ _ _ _ _, .inl ⟨HL.out, rfl⟩⟩
set_option maxHeartbeats 2000000 in
theorem parse_short (bs : List UInt8) (hl : bs.length ≤ 64) (w : World) : Calls Tryz.prog 75 #[.string (strB bs)] w (ParsePost bs w) := by
  obtain ⟨w1, hw1⟩ : ∃ w1, w.alloc (.cells #[.int .i64 0, .int .u64 0, .int .u64 0, .int .u64 0, .int .u64 0, .slice none 0 0] 76) = w1 := ⟨_, rfl⟩
  obtain ⟨w2, hw2⟩ : ∃ w2, w1.alloc (.cells #[.string (strB bs), .int .i64 0, .int .i64 0] 179) = w2 := ⟨_, rfl⟩
  have hs1 : w1.heap.size = w.heap.size + 1 := by rw [← hw1]; simp
  have HP2 : Hid (Ps w2 (w.heap.size + 1) bs 0 0) := keepHid (by rw [← hw2]; exact ⟨Blk.new_at _ _ _ _ hs1.symm, Nat.zero_le _, hl⟩)
  have HZ2 : Hid (Blk w2 w.heap.size 76 nd0) := keepHid (by rw [← hw2]; exact (node_new hw1).alloc _)
  have HB2 : Hid (Below w.heap.size w w2) := keepHid (by rw [← hw2, ← hw1]; exact ((Below.refl _ _).alloc (Nat.le_refl _) _).alloc (by simp) _)
  have HS2 : Hid (w2.heap.size = w.heap.size + 2) := keepHid (by rw [← hw2]; simp [hs1])
  have HL := keepHid hl
  have HW2 := keepHid hw2
  have hsz : (strB bs).size = bs.length := strB_size bs
  have hle : (bs.length : Int) ≤ 64 := by omega
  have HA := keepHid (alt_spec (w.heap.size + 1) bs 0 w2 HP2.out)
  clear hl hw2
  rw [List.drop_zero] at HA
  go_enter Tryz.func75, Tryz.ntmps75
  go_wp2_with fail
  rw [HW2.out]
  refine HA.out.mono ?_
  rintro e w3 ⟨n, ok, rfl, hok, hno, ⟨j3, hj3, hp3⟩, ho3⟩
  have hz2l : w.heap.size < w2.heap.size := HZ2.out.lt
  have hb23 : Below (w.heap.size + 1) w2 w3 := ho3.below (Nat.le_refl _) (by omega)
  have HB3 := keepHid (HB2.out.trans (hb23.mono (by omega)))
  have HZ3 := keepHid (HZ2.out.below hb23 (by omega))
  obtain ⟨w4, hw4⟩ : ∃ w4, w3.alloc (.cells #[.int .i64 n.k, .int .u64 (n.s.a.toNat : Int), .int .u64 (n.s.b.toNat : Int), .int .u64 (n.s.c.toNat : Int), .int .u64 (n.s.d.toNat : Int), .slice n.A n.n n.c] 76) = w4 := ⟨_, rfl⟩
  have hs3 := ho3.size
  have hb34 : Below w3.heap.size w3 w4 := by rw [← hw4]; exact (Below.refl _ _).alloc (Nat.le_refl _) _
  have HB4 := keepHid (HB3.out.trans (hb34.mono HB3.out.size))
  have HZ4 := keepHid (HZ3.out.below hb34 HZ3.out.lt)
  have HP4 := keepHid (hp3.below hb34 hp3.lt)
  have HN4 : Hid (Blk w4 w3.heap.size 76 (hdC n)) := keepHid (by rw [← hw4]; exact Blk.new _ _ _)
  have HJ4 := keepHid hj3
  have HOK4 : Hid (ok = true → ∃ r, (altN 6 bs).1 = some r ∧ IsRe w4 (w.heap.size + 1) n r) := keepHid (fun h => by obtain ⟨r, e1, e2⟩ := hok h; exact ⟨r, e1, (e2.below hb34).low (by have := HS2.out; omega)⟩)
  have HNO4 := keepHid hno
  have HD4 := keepHid (done_any HP4.out)
  have HJL := keepHid hp3.le
  clear hok hno hj3 hp3 ho3 hz2l hb23 hs3 hb34 HA HW2 hw1
  unfold hdV
  cases ok
  · have HF : Hid (parseF bs = (none, j3)) := keepHid (by
      have h1 := HNO4.out rfl
      have h2 := parseF_rest (bs := bs) (o := (altN 6 bs).1) (l := (altN 6 bs).2) rfl (.inl h1)
      rw [h2, ← HJ4.out, List.length_drop]
      have := HJL.out
      congr 1; omega)
    obtain ⟨c0, c1, c2, cf⟩ := HP4.out.cells
    obtain ⟨z0, z1, z2, z3, z4, z5, zf⟩ := blk6 HZ4.out
    go_wp2_with fail
    refine (wrap_any 8 (j3 : Int) _).mono ?_
    rintro e w' ⟨rfl, rfl⟩
    unfold faultV
    go_wp2
    exact ⟨by rfl, .tuple #[hdV hd0, faultV 8 (j3 : Int)], by rw [results_cell_tmp rfl]; go_simp; first | rfl | exact ⟨rfl, rfl⟩, below_six HB4.out (Nat.le_refl _) _ _ _ _ _ _, .inr ⟨HL.out, .inr ⟨j3, HF.out, rfl⟩⟩⟩
  · obtain ⟨r, hr, hir⟩ := HOK4.out rfl
    have HIR := keepHid hir
    rcases Nat.lt_or_ge j3 bs.length with hlt | hge
    · have he : (bs.drop j3).isEmpty = false := by obtain ⟨x, _, hdr⟩ := head_of hlt; rw [hdr]; rfl
      have HF : Hid (parseF bs = (none, j3)) := keepHid (by
        have hne : (altN 6 bs).2 ≠ [] := by
          rw [← HJ4.out]
          obtain ⟨x, _, hdr⟩ := head_of hlt
          rw [hdr]; simp
        have h2 := parseF_rest (bs := bs) (o := (altN 6 bs).1) (l := (altN 6 bs).2) rfl (.inr hne)
        rw [h2, ← HJ4.out, List.length_drop]
        have := HJL.out
        congr 1; omega)
      rw [he] at HD4
      clear he hr hir
      go_wp2_with fail
      refine HD4.out.mono ?_
      rintro e w' ⟨rfl, m, rfl⟩
      have HP5 := keepHid (HP4.out.drewN m)
      have HZ5 := keepHid (HZ4.out.drewN m)
      have HB5 := keepHid (below_drewN HB4.out m)
      generalize w4.drewN m = w5 at *
      obtain ⟨c0, c1, c2, cf⟩ := HP5.out.cells
      obtain ⟨z0, z1, z2, z3, z4, z5, zf⟩ := blk6 HZ5.out
      go_wp2_with fail
      refine (wrap_any 8 (j3 : Int) _).mono ?_
      rintro e w' ⟨rfl, rfl⟩
      unfold faultV
      go_wp2
      exact ⟨by rfl, .tuple #[hdV hd0, faultV 8 (j3 : Int)], by rw [results_cell_tmp rfl]; go_simp; first | rfl | exact ⟨rfl, rfl⟩, below_six HB5.out (Nat.le_refl _) _ _ _ _ _ _, .inr ⟨HL.out, .inr ⟨j3, HF.out, rfl⟩⟩⟩
    · have he : (bs.drop j3).isEmpty = true := by rw [List.drop_eq_nil_of_le hge]; rfl
      have HF : Hid (parseF bs = (some r, bs.length)) := keepHid (parseF_some (by
        have h2 : (altN 6 bs).2 = [] := by rw [← HJ4.out, List.drop_eq_nil_of_le hge]
        rw [← hr, ← h2]))
      rw [he] at HD4
      clear he hr hir
      go_wp2_with fail
      refine HD4.out.mono ?_
      rintro e w' ⟨rfl, m, rfl⟩
      have HN5 := keepHid (HN4.out.drewN m)
      have HZ5 := keepHid (HZ4.out.drewN m)
      have HB5 := keepHid (below_drewN HB4.out m)
      have HI5 : Hid (IsRe (w4.drewN m) (w.heap.size + 1) n r) := keepHid (HIR.out.below (below_drewN (Below.refl _ _) m))
      generalize w4.drewN m = w5 at *
      obtain ⟨n0, n1, n2, n3, n4, n5, nf⟩ := blk6 HN5.out
      obtain ⟨z0, z1, z2, z3, z4, z5, zf⟩ := blk6 HZ5.out
      go_wp2
      exact ⟨by rfl, .tuple #[hdV n, .nilIface], by rw [results_cell_tmp rfl]; go_simp; first | rfl | exact ⟨rfl, rfl⟩, below_six HB5.out (Nat.le_refl _) _ _ _ _ _ _, .inr ⟨HL.out, .inl ⟨r, n, HF.out, rfl, (HI5.out.keep fun b hb _ => six_far (by have : w.heap.size + 1 ≤ b := hb; omega)).low (Nat.le_succ _)⟩⟩⟩
theorem parse_any (bs : List UInt8) (w : World) : Calls Tryz.prog 75 #[.string (strB bs)] w (ParsePost bs w) := by
  rcases Nat.lt_or_ge 64 bs.length with h | h
  · exact parse_long bs h w
  · exact parse_short bs h w
theorem hdV_st0 (k : Int) (A : Option Addr) (n c : Nat) : hdV ⟨k, st0, A, n, c⟩ = .agg #[.int .i64 k, .int .u64 0, .int .u64 0, .int .u64 0, .int .u64 0, .slice A n c] := rfl
theorem hdV_hd0 : hdV hd0 = .agg #[.int .i64 0, .int .u64 0, .int .u64 0, .int .u64 0, .int .u64 0, .slice none 0 0] := rfl
theorem parse_pat {bs : List UInt8} {r : Re} {w w' : World} {e : Ending} (hf : parseF bs = (some r, bs.length)) (p : ParsePost bs w e w') (hl : bs.length ≤ 64) :
    ∃ h, e = .returned (.tuple #[hdV h, .nilIface]) ∧ IsRe w' w.heap.size h r ∧ Below w.heap.size w w' := by
  obtain ⟨hb, ⟨h1, _⟩ | ⟨_, ⟨r', h, h2, h3, h4⟩ | ⟨q, h2, _⟩⟩⟩ := p
  · omega
  · rw [hf] at h2
    injection h2 with h2
    injection h2 with h2
    subst h2
    exact ⟨h, h3, h4, hb⟩
  · rw [hf] at h2
    injection h2 with h2
    cases h2
theorem parse_bad {bs : List UInt8} {q : Nat} {w w' : World} {e : Ending} (hf : parseF bs = (none, q)) (p : ParsePost bs w e w') (hl : bs.length ≤ 64) :
    e = .returned (.tuple #[hdV hd0, faultV 8 (q : Int)]) ∧ Below w.heap.size w w' := by
  obtain ⟨hb, ⟨h1, _⟩ | ⟨_, ⟨r', h, h2, h3, h4⟩ | ⟨q', h2, h3⟩⟩⟩ := p
  · omega
  · rw [hf] at h2
    injection h2 with h2
    cases h2
  · rw [hf] at h2
    injection h2 with _ h2
    subst h2
    exact ⟨h3, hb⟩
end Go.Proofs.YtgndcgknedmalaaGreatDoor
