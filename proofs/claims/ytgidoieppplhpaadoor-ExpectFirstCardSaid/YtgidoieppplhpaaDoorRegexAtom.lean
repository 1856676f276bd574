/-
  The reader of patterns: an atom.
-/
import Derived.Test.YtgidoieppplhpaaDoorRegexGroup
import Derived.WalkKit
import Derived.OwnWalk
import Derived.ProofKit
import Derived.WalkLawsBesides
import Derived.IntWalk
import Derived.RegionTactic
import Derived.BigRegion
import Derived.ChangeAlike
import Derived.Deep.QuietTactic
import Derived.BigQuiet
import Derived.Deep.RegionHeld3
import Derived.Deep.DrawnRows
import Derived.Outline
import Derived.Deep.DeepCutAuto
namespace Go.Proofs.YtgidoieppplhpaaDoor
open Go.RowKit
set_option linter.unusedVariables false





theorem Went.far {g d : Nat} {bs r : List UInt8} {a b w : World} (h : Only g a b) (k : Went g bs d r b w) : Went g bs d r a w := ⟨k.at_, h.trans k.only⟩
theorem read_six {g d : Nat} {bs : List UInt8} {x : R Re} {w w1 w3 : World} {h : Hd} {ok : Bool} (hg : g < w.heap.size) (h1 : w.heap.size < w1.heap.size) (ho : Only g w w1)
    (hok : ok = true → ∃ r, x.1 = some r ∧ IsRe w3 w1.heap.size h r) (hno : ok = false → x.1 = none) (hw : Went g bs d x.2 w1 w3) (u0 u1 u2 u3 u4 u5 : Value) :
    ReadPost g bs d x w (.returned (.tuple #[hdV h, .bool ok])) ((((((w3.setCell ⟨w.heap.size, 0, none⟩ u0).setCell ⟨w.heap.size, 1, none⟩ u1).setCell ⟨w.heap.size, 2, none⟩ u2).setCell ⟨w.heap.size, 3, none⟩ u3).setCell ⟨w.heap.size, 4, none⟩ u4).setCell ⟨w.heap.size, 5, none⟩ u5) := by
  refine ⟨h, ok, rfl, fun e => ?_, hno, (hw.far ho).six (by omega) (Nat.le_refl _) _ _ _ _ _ _⟩
  obtain ⟨r, e1, e2⟩ := hok e
  exact ⟨r, e1, (e2.keep fun j hj _ => six_far (by omega)).low (by omega)⟩
section
variable {d : Nat} {grp : List UInt8 → R Re}
set_option maxHeartbeats 800000 in
theorem atom_group (HG : Spec1 66 d grp) {g i : Nat} {bs : List UInt8} {w : World} (h : Ps w g bs i d) (hlt : i < bs.length) (hx : nx 40 (bs.drop i) = true) :
    Calls Tryd.prog 62 #[.pointer (some ⟨g, 0, none⟩)] w (ReadPost g bs d (atomF grp (bs.drop i)) w) := by
  have HF : Hid (atomF grp (bs.drop i) = grp (bs.drop i)) := keepHid (by unfold atomF; rw [if_pos hx])
  rw [HF.out]
  clear HF
  have HGR := keepHid HG
  clear HG
  obtain ⟨w1, hw1⟩ : ∃ w1, w.alloc (.cells #[.int .i64 0, .int .u64 0, .int .u64 0, .int .u64 0, .int .u64 0, .slice none 0 0] 32) = w1 := ⟨_, rfl⟩
  have HG := keepHid h.lt
  have hp1 : Ps w1 g bs i d := by rw [← hw1]; exact h.alloc _
  have HZ1 := keepHid (node_new hw1)
  have HO1 : Hid (Only g w w1) := keepHid (by rw [← hw1]; exact (Only.refl w g).alloc _)
  have HL1 : Hid (w.heap.size < w1.heap.size) := keepHid (by rw [← hw1]; simp)
  have HP1 := keepHid hp1
  have HLT := keepHid hlt
  obtain ⟨c0, c1, c2, cf⟩ := hp1.cells
  have hle : bs.length ≤ 64 := h.max
  obtain ⟨x', hx0, hdr⟩ := head_of hlt
  obtain rfl : x' = 40 := by rw [hdr, nx_cons] at hx; simpa using hx
  have hix := fun w => run_idx hx0 (i : Int) rfl w
  rw [show (((40 : UInt8)).toNat : Int) = 40 from rfl] at hix
  clear h hp1 hlt hx hdr hx0
  have hsz : (strB bs).size = bs.length := strB_size bs
  generalize strB bs = S at *
  go_enter Tryd.func62, Tryd.ntmps62
  go_wp2
  go_quiet (fail)
  have HP2 := keepHid (HP1.out.drewN nq)
  have HZ2 := keepHid (HZ1.out.drewN nq)
  have HO2 := keepHid (HO1.out.drewN nq)
  have HL2 : Hid (w.heap.size < (w1.drewN nq).heap.size) := keepHid HL1.out
  generalize w1.drewN nq = w2 at *
  clear c0 c1 c2 cf HP1 HZ1 HO1 HL1 hw1
  go_wp2_with fail
  refine (HGR.out g bs i w2 HP2.out HLT.out).mono ?_
  rintro e w3 ⟨n, ok, rfl, hok, hno, hwent⟩
  have HZ3 := keepHid (HZ2.out.only hwent.only (by have := HG.out; intro e; injection e; omega))
  have K := keepHid (read_six HG.out HL2.out HO2.out hok hno hwent)
  clear hok hno hwent
  obtain ⟨z0, z1, z2, z3, z4, z5, zf⟩ := blk6 HZ3.out
  unfold hdV
  go_wp2
  exact ⟨by rfl, .tuple #[hdV n, .bool ok], by rw [results_cell_tmp rfl]; go_simp; rfl, K.out _ _ _ _ _ _⟩
set_option maxHeartbeats 800000 in
theorem atom_class {g i : Nat} {bs : List UInt8} {w : World} (h : Ps w g bs i d) (hlt : i < bs.length) (hx : nx 91 (bs.drop i) = true) :
    Calls Tryd.prog 62 #[.pointer (some ⟨g, 0, none⟩)] w (ReadPost g bs d (atomF grp (bs.drop i)) w) := by
  have h40 : nx 40 (bs.drop i) = false := by
    obtain ⟨x, _, hdr⟩ := head_of hlt
    rw [hdr, nx_cons] at hx ⊢
    obtain rfl : x = 91 := by simpa using hx
    rfl
  have HF : Hid (atomF grp (bs.drop i) = clsF (bs.drop i)) := keepHid (by unfold atomF; rw [h40, if_neg (by simp), if_pos hx])
  rw [HF.out]
  clear HF h40
  obtain ⟨w1, hw1⟩ : ∃ w1, w.alloc (.cells #[.int .i64 0, .int .u64 0, .int .u64 0, .int .u64 0, .int .u64 0, .slice none 0 0] 32) = w1 := ⟨_, rfl⟩
  have HG := keepHid h.lt
  have hp1 : Ps w1 g bs i d := by rw [← hw1]; exact h.alloc _
  have HZ1 := keepHid (node_new hw1)
  have HO1 : Hid (Only g w w1) := keepHid (by rw [← hw1]; exact (Only.refl w g).alloc _)
  have HL1 : Hid (w.heap.size < w1.heap.size) := keepHid (by rw [← hw1]; simp)
  have HP1 := keepHid hp1
  have HLT := keepHid hlt
  obtain ⟨c0, c1, c2, cf⟩ := hp1.cells
  have hle : bs.length ≤ 64 := h.max
  obtain ⟨x', hx0, hdr⟩ := head_of hlt
  obtain rfl : x' = 91 := by rw [hdr, nx_cons] at hx; simpa using hx
  have hix := fun w => run_idx hx0 (i : Int) rfl w
  rw [show (((91 : UInt8)).toNat : Int) = 91 from rfl] at hix
  clear h hp1 hlt hx hdr hx0
  have hsz : (strB bs).size = bs.length := strB_size bs
  generalize strB bs = S at *
  go_enter Tryd.func62, Tryd.ntmps62
  go_wp2
  go_quiet (fail)
  have HP2 := keepHid (HP1.out.drewN nq)
  have HZ2 := keepHid (HZ1.out.drewN nq)
  have HO2 := keepHid (HO1.out.drewN nq)
  have HL2 : Hid (w.heap.size < (w1.drewN nq).heap.size) := keepHid HL1.out
  generalize w1.drewN nq = w2 at *
  clear c0 c1 c2 cf HP1 HZ1 HO1 HL1 hw1
  go_wp2_with fail
  refine (class_any HP2.out HLT.out).mono ?_
  rintro e w3 ⟨n, ok, rfl, hok, hno, hwent⟩
  have HZ3 := keepHid (HZ2.out.only hwent.only (by have := HG.out; intro e; injection e; omega))
  have K := keepHid (read_six HG.out HL2.out HO2.out hok hno hwent)
  clear hok hno hwent
  obtain ⟨z0, z1, z2, z3, z4, z5, zf⟩ := blk6 HZ3.out
  unfold hdV
  go_wp2
  exact ⟨by rfl, .tuple #[hdV n, .bool ok], by rw [results_cell_tmp rfl]; go_simp; rfl, K.out _ _ _ _ _ _⟩
end






section
variable {d : Nat} {grp : List UInt8 → R Re}
theorem nx_other {bs : List UInt8} {i : Nat} (hlt : i < bs.length) (a b : UInt8) (hx : nx a (bs.drop i) = true) (hab : a ≠ b) : nx b (bs.drop i) = false := by
  obtain ⟨x, _, hdr⟩ := head_of hlt
  rw [hdr, nx_cons] at hx ⊢
  obtain rfl : x = a := by simpa using hx
  simpa using hab
set_option maxHeartbeats 800000 in
theorem atom_no93 {g i : Nat} {bs : List UInt8} {w : World} (h : Ps w g bs i d) (hlt : i < bs.length) (hx : nx 93 (bs.drop i) = true) :
    Calls Tryd.prog 62 #[.pointer (some ⟨g, 0, none⟩)] w (ReadPost g bs d (atomF grp (bs.drop i)) w) := by
  have HF : Hid (atomF grp (bs.drop i) = (none, bs.drop i)) := keepHid (by
    unfold atomF
    rw [nx_other hlt 93 40 hx (by decide), nx_other hlt 93 91 hx (by decide)]
    simp [hx])
  obtain ⟨w1, hw1⟩ : ∃ w1, w.alloc (.cells #[.int .i64 0, .int .u64 0, .int .u64 0, .int .u64 0, .int .u64 0, .slice none 0 0] 32) = w1 := ⟨_, rfl⟩
  have HG := keepHid h.lt
  have hp1 : Ps w1 g bs i d := by rw [← hw1]; exact h.alloc _
  have HZ1 := keepHid (node_new hw1)
  have HO1 : Hid (Only g w w1) := keepHid (by rw [← hw1]; exact (Only.refl w g).alloc _)
  have HL1 : Hid (w.heap.size < w1.heap.size) := keepHid (by rw [← hw1]; simp)
  have HP1 := keepHid hp1
  have HLT := keepHid hlt
  obtain ⟨c0, c1, c2, cf⟩ := hp1.cells
  have hle : bs.length ≤ 64 := h.max
  obtain ⟨x', hx0, hdr⟩ := head_of hlt
  obtain rfl : x' = 93 := by rw [hdr, nx_cons] at hx; simpa using hx
  have hix := fun w => run_idx hx0 (i : Int) rfl w
  rw [show (((93 : UInt8)).toNat : Int) = 93 from rfl] at hix
  clear h hp1 hlt hx hdr hx0
  have hsz : (strB bs).size = bs.length := strB_size bs
  generalize strB bs = S at *
  go_enter Tryd.func62, Tryd.ntmps62
  go_wp2
  go_quiet (fail)
  have HP2 := keepHid (HP1.out.drewN nq)
  have HZ2 := keepHid (HZ1.out.drewN nq)
  have HO2 := keepHid (HO1.out.drewN nq)
  have HL2 : Hid (w.heap.size < (w1.drewN nq).heap.size) := keepHid HL1.out
  generalize w1.drewN nq = w2 at *
  clear c0 c1 c2 cf HP1 HZ1 HO1 HL1 hw1
  obtain ⟨z0, z1, z2, z3, z4, z5, zf⟩ := blk6 HZ2.out
  have K := keepHid (read_six (x := (none, bs.drop i)) (h := hd0) (ok := false) HG.out HL2.out HO2.out (fun h => by cases h) (fun _ => rfl) ⟨⟨i, rfl, HP2.out⟩, Only.refl w2 g⟩)
  go_wp2
  exact ⟨by rfl, .tuple #[hdV hd0, .bool false], by rw [results_cell_tmp rfl]; go_simp; rfl, by rw [HF.out]; exact K.out _ _ _ _ _ _⟩
set_option maxHeartbeats 800000 in
theorem atom_no42 {g i : Nat} {bs : List UInt8} {w : World} (h : Ps w g bs i d) (hlt : i < bs.length) (hx : nx 42 (bs.drop i) = true) :
    Calls Tryd.prog 62 #[.pointer (some ⟨g, 0, none⟩)] w (ReadPost g bs d (atomF grp (bs.drop i)) w) := by
  have HF : Hid (atomF grp (bs.drop i) = (none, bs.drop i)) := keepHid (by
    unfold atomF
    rw [nx_other hlt 42 40 hx (by decide), nx_other hlt 42 91 hx (by decide)]
    simp [hx])
  obtain ⟨w1, hw1⟩ : ∃ w1, w.alloc (.cells #[.int .i64 0, .int .u64 0, .int .u64 0, .int .u64 0, .int .u64 0, .slice none 0 0] 32) = w1 := ⟨_, rfl⟩
  have HG := keepHid h.lt
  have hp1 : Ps w1 g bs i d := by rw [← hw1]; exact h.alloc _
  have HZ1 := keepHid (node_new hw1)
  have HO1 : Hid (Only g w w1) := keepHid (by rw [← hw1]; exact (Only.refl w g).alloc _)
  have HL1 : Hid (w.heap.size < w1.heap.size) := keepHid (by rw [← hw1]; simp)
  have HP1 := keepHid hp1
  have HLT := keepHid hlt
  obtain ⟨c0, c1, c2, cf⟩ := hp1.cells
  have hle : bs.length ≤ 64 := h.max
  obtain ⟨x', hx0, hdr⟩ := head_of hlt
  obtain rfl : x' = 42 := by rw [hdr, nx_cons] at hx; simpa using hx
  have hix := fun w => run_idx hx0 (i : Int) rfl w
  rw [show (((42 : UInt8)).toNat : Int) = 42 from rfl] at hix
  clear h hp1 hlt hx hdr hx0
  have hsz : (strB bs).size = bs.length := strB_size bs
  generalize strB bs = S at *
  go_enter Tryd.func62, Tryd.ntmps62
  go_wp2
  go_quiet (fail)
  have HP2 := keepHid (HP1.out.drewN nq)
  have HZ2 := keepHid (HZ1.out.drewN nq)
  have HO2 := keepHid (HO1.out.drewN nq)
  have HL2 : Hid (w.heap.size < (w1.drewN nq).heap.size) := keepHid HL1.out
  generalize w1.drewN nq = w2 at *
  clear c0 c1 c2 cf HP1 HZ1 HO1 HL1 hw1
  obtain ⟨z0, z1, z2, z3, z4, z5, zf⟩ := blk6 HZ2.out
  have K := keepHid (read_six (x := (none, bs.drop i)) (h := hd0) (ok := false) HG.out HL2.out HO2.out (fun h => by cases h) (fun _ => rfl) ⟨⟨i, rfl, HP2.out⟩, Only.refl w2 g⟩)
  go_wp2
  exact ⟨by rfl, .tuple #[hdV hd0, .bool false], by rw [results_cell_tmp rfl]; go_simp; rfl, by rw [HF.out]; exact K.out _ _ _ _ _ _⟩
set_option maxHeartbeats 800000 in
theorem atom_no43 {g i : Nat} {bs : List UInt8} {w : World} (h : Ps w g bs i d) (hlt : i < bs.length) (hx : nx 43 (bs.drop i) = true) :
    Calls Tryd.prog 62 #[.pointer (some ⟨g, 0, none⟩)] w (ReadPost g bs d (atomF grp (bs.drop i)) w) := by
  have HF : Hid (atomF grp (bs.drop i) = (none, bs.drop i)) := keepHid (by
    unfold atomF
    rw [nx_other hlt 43 40 hx (by decide), nx_other hlt 43 91 hx (by decide)]
    simp [hx])
  obtain ⟨w1, hw1⟩ : ∃ w1, w.alloc (.cells #[.int .i64 0, .int .u64 0, .int .u64 0, .int .u64 0, .int .u64 0, .slice none 0 0] 32) = w1 := ⟨_, rfl⟩
  have HG := keepHid h.lt
  have hp1 : Ps w1 g bs i d := by rw [← hw1]; exact h.alloc _
  have HZ1 := keepHid (node_new hw1)
  have HO1 : Hid (Only g w w1) := keepHid (by rw [← hw1]; exact (Only.refl w g).alloc _)
  have HL1 : Hid (w.heap.size < w1.heap.size) := keepHid (by rw [← hw1]; simp)
  have HP1 := keepHid hp1
  have HLT := keepHid hlt
  obtain ⟨c0, c1, c2, cf⟩ := hp1.cells
  have hle : bs.length ≤ 64 := h.max
  obtain ⟨x', hx0, hdr⟩ := head_of hlt
  obtain rfl : x' = 43 := by rw [hdr, nx_cons] at hx; simpa using hx
  have hix := fun w => run_idx hx0 (i : Int) rfl w
  rw [show (((43 : UInt8)).toNat : Int) = 43 from rfl] at hix
  clear h hp1 hlt hx hdr hx0
  have hsz : (strB bs).size = bs.length := strB_size bs
  generalize strB bs = S at *
  go_enter Tryd.func62, Tryd.ntmps62
  go_wp2
  go_quiet (fail)
  have HP2 := keepHid (HP1.out.drewN nq)
  have HZ2 := keepHid (HZ1.out.drewN nq)
  have HO2 := keepHid (HO1.out.drewN nq)
  have HL2 : Hid (w.heap.size < (w1.drewN nq).heap.size) := keepHid HL1.out
  generalize w1.drewN nq = w2 at *
  clear c0 c1 c2 cf HP1 HZ1 HO1 HL1 hw1
  obtain ⟨z0, z1, z2, z3, z4, z5, zf⟩ := blk6 HZ2.out
  have K := keepHid (read_six (x := (none, bs.drop i)) (h := hd0) (ok := false) HG.out HL2.out HO2.out (fun h => by cases h) (fun _ => rfl) ⟨⟨i, rfl, HP2.out⟩, Only.refl w2 g⟩)
  go_wp2
  exact ⟨by rfl, .tuple #[hdV hd0, .bool false], by rw [results_cell_tmp rfl]; go_simp; rfl, by rw [HF.out]; exact K.out _ _ _ _ _ _⟩
set_option maxHeartbeats 800000 in
theorem atom_no63 {g i : Nat} {bs : List UInt8} {w : World} (h : Ps w g bs i d) (hlt : i < bs.length) (hx : nx 63 (bs.drop i) = true) :
    Calls Tryd.prog 62 #[.pointer (some ⟨g, 0, none⟩)] w (ReadPost g bs d (atomF grp (bs.drop i)) w) := by
  have HF : Hid (atomF grp (bs.drop i) = (none, bs.drop i)) := keepHid (by
    unfold atomF
    rw [nx_other hlt 63 40 hx (by decide), nx_other hlt 63 91 hx (by decide)]
    simp [hx])
  obtain ⟨w1, hw1⟩ : ∃ w1, w.alloc (.cells #[.int .i64 0, .int .u64 0, .int .u64 0, .int .u64 0, .int .u64 0, .slice none 0 0] 32) = w1 := ⟨_, rfl⟩
  have HG := keepHid h.lt
  have hp1 : Ps w1 g bs i d := by rw [← hw1]; exact h.alloc _
  have HZ1 := keepHid (node_new hw1)
  have HO1 : Hid (Only g w w1) := keepHid (by rw [← hw1]; exact (Only.refl w g).alloc _)
  have HL1 : Hid (w.heap.size < w1.heap.size) := keepHid (by rw [← hw1]; simp)
  have HP1 := keepHid hp1
  have HLT := keepHid hlt
  obtain ⟨c0, c1, c2, cf⟩ := hp1.cells
  have hle : bs.length ≤ 64 := h.max
  obtain ⟨x', hx0, hdr⟩ := head_of hlt
  obtain rfl : x' = 63 := by rw [hdr, nx_cons] at hx; simpa using hx
  have hix := fun w => run_idx hx0 (i : Int) rfl w
  rw [show (((63 : UInt8)).toNat : Int) = 63 from rfl] at hix
  clear h hp1 hlt hx hdr hx0
  have hsz : (strB bs).size = bs.length := strB_size bs
  generalize strB bs = S at *
  go_enter Tryd.func62, Tryd.ntmps62
  go_wp2
  go_quiet (fail)
  have HP2 := keepHid (HP1.out.drewN nq)
  have HZ2 := keepHid (HZ1.out.drewN nq)
  have HO2 := keepHid (HO1.out.drewN nq)
  have HL2 : Hid (w.heap.size < (w1.drewN nq).heap.size) := keepHid HL1.out
  generalize w1.drewN nq = w2 at *
  clear c0 c1 c2 cf HP1 HZ1 HO1 HL1 hw1
  obtain ⟨z0, z1, z2, z3, z4, z5, zf⟩ := blk6 HZ2.out
  have K := keepHid (read_six (x := (none, bs.drop i)) (h := hd0) (ok := false) HG.out HL2.out HO2.out (fun h => by cases h) (fun _ => rfl) ⟨⟨i, rfl, HP2.out⟩, Only.refl w2 g⟩)
  go_wp2
  exact ⟨by rfl, .tuple #[hdV hd0, .bool false], by rw [results_cell_tmp rfl]; go_simp; rfl, by rw [HF.out]; exact K.out _ _ _ _ _ _⟩
set_option maxHeartbeats 800000 in
theorem atom_dot {g i : Nat} {bs : List UInt8} {w : World} (h : Ps w g bs i d) (hlt : i < bs.length) (hx : nx 46 (bs.drop i) = true) :
    Calls Tryd.prog 62 #[.pointer (some ⟨g, 0, none⟩)] w (ReadPost g bs d (atomF grp (bs.drop i)) w) := by
  have HF : Hid (atomF grp (bs.drop i) = (some (.one (notS st0)), (bs.drop i).tail)) := keepHid (by
    unfold atomF
    rw [nx_other hlt 46 40 hx (by decide), nx_other hlt 46 91 hx (by decide), nx_other hlt 46 93 hx (by decide), nx_other hlt 46 42 hx (by decide), nx_other hlt 46 43 hx (by decide), nx_other hlt 46 63 hx (by decide)]
    simp [hx])
  have HX := keepHid hx
  obtain ⟨w1, hw1⟩ : ∃ w1, w.alloc (.cells #[.int .i64 0, .int .u64 0, .int .u64 0, .int .u64 0, .int .u64 0, .slice none 0 0] 32) = w1 := ⟨_, rfl⟩
  have HG := keepHid h.lt
  have hp1 : Ps w1 g bs i d := by rw [← hw1]; exact h.alloc _
  have HZ1 := keepHid (node_new hw1)
  have HO1 : Hid (Only g w w1) := keepHid (by rw [← hw1]; exact (Only.refl w g).alloc _)
  have HL1 : Hid (w.heap.size < w1.heap.size) := keepHid (by rw [← hw1]; simp)
  have HP1 := keepHid hp1
  have HLT := keepHid hlt
  obtain ⟨c0, c1, c2, cf⟩ := hp1.cells
  have hle : bs.length ≤ 64 := h.max
  obtain ⟨x', hx0, hdr⟩ := head_of hlt
  obtain rfl : x' = 46 := by rw [hdr, nx_cons] at hx; simpa using hx
  have hix := fun w => run_idx hx0 (i : Int) rfl w
  rw [show (((46 : UInt8)).toNat : Int) = 46 from rfl] at hix
  clear h hp1 hlt hx hdr hx0
  have hsz : (strB bs).size = bs.length := strB_size bs
  generalize strB bs = S at *
  go_enter Tryd.func62, Tryd.ntmps62
  go_wp2
  go_quiet (fail)
  have HP2 := keepHid (HP1.out.drewN nq)
  have HZ2 := keepHid (HZ1.out.drewN nq)
  have HO2 := keepHid (HO1.out.drewN nq)
  have HL2 : Hid (w.heap.size < (w1.drewN nq).heap.size) := keepHid HL1.out
  generalize w1.drewN nq = w2 at *
  clear c0 c1 c2 cf HP1 HZ1 HO1 HL1 hw1
  have HT := keepHid (take_any HP2.out 46 46 rfl)
  unfold TakePost at HT
  rw [HX.out] at HT
  simp only [if_true] at HT
  go_wp2_with fail
  refine HT.out.mono ?_
  rintro e w3 ⟨rfl, hw3⟩
  have HW3 := keepHid hw3
  have HZ3 := keepHid (HZ2.out.only hw3.only (by have := HG.out; intro e; injection e; omega))
  clear hw3
  go_wp2_with fail
  refine (all_any w3).mono ?_
  rintro e w4 ⟨rfl, hb4⟩
  go_wp2_with fail
  refine (one_any (notS st0) w4).mono ?_
  rintro e w5 ⟨rfl, hb5⟩
  have hb35 := hb4.trans (hb5.mono hb4.size)
  have HZ5 := keepHid (HZ3.out.below hb35 HZ3.out.lt)
  have hwent : Went g bs d (bs.drop i).tail w2 w5 := by
    obtain ⟨⟨j, hj, hp⟩, ho⟩ := HW3.out
    exact ⟨⟨j, hj, hp.below hb35 hp.lt⟩, ho.trans (Only.of_below hb35)⟩
  have K := keepHid (read_six (x := (some (.one (notS st0)), (bs.drop i).tail)) (h := ⟨1, notS st0, none, 0, 0⟩) (ok := true) HG.out HL2.out HO2.out (fun _ => ⟨_, rfl, rfl⟩) (fun h => by cases h) hwent)
  clear hb4 hb5 hb35 hwent
  obtain ⟨z0, z1, z2, z3, z4, z5, zf⟩ := blk6 HZ5.out
  unfold hdV
  go_wp2
  exact ⟨by rfl, .tuple #[hdV ⟨1, notS st0, none, 0, 0⟩, .bool true], by rw [results_cell_tmp rfl]; go_simp; rfl, by rw [HF.out]; exact K.out _ _ _ _ _ _⟩
theorem with0 (v : Nat) (hv : v < 256) (w : World) : Calls Tryd.prog 31 #[.agg #[.int .u64 0, .int .u64 0, .int .u64 0, .int .u64 0], .int .u8 (v : Int)] w fun e w' => e = .returned (stV (withS st0 v)) ∧ Below w.heap.size w w' := with_any st0 v hv w
set_option maxHeartbeats 800000 in
theorem atom_letter {g i : Nat} {bs : List UInt8} {w : World} (h : Ps w g bs i d) (hlt : i < bs.length) (h40 : nx 40 (bs.drop i) = false) (h91 : nx 91 (bs.drop i) = false) (h93 : nx 93 (bs.drop i) = false) (h42 : nx 42 (bs.drop i) = false)
    (h43 : nx 43 (bs.drop i) = false) (h63 : nx 63 (bs.drop i) = false) (h46 : nx 46 (bs.drop i) = false) :
    Calls Tryd.prog 62 #[.pointer (some ⟨g, 0, none⟩)] w (ReadPost g bs d (atomF grp (bs.drop i)) w) := by
  have HF : Hid (atomF grp (bs.drop i) = match letF (bs.drop i) with | (none, r) => (none, r) | (some c, r) => (some (.one (withS st0 c.toNat)), r)) := keepHid (by
    unfold atomF
    simp [h40, h91, h93, h42, h43, h63, h46]
    generalize letF (bs.drop i) = y
    obtain ⟨o, q⟩ := y
    cases o <;> rfl)
  have HX := keepHid h46
  obtain ⟨w1, hw1⟩ : ∃ w1, w.alloc (.cells #[.int .i64 0, .int .u64 0, .int .u64 0, .int .u64 0, .int .u64 0, .slice none 0 0] 32) = w1 := ⟨_, rfl⟩
  have HG := keepHid h.lt
  have hp1 : Ps w1 g bs i d := by rw [← hw1]; exact h.alloc _
  have HZ1 := keepHid (node_new hw1)
  have HO1 : Hid (Only g w w1) := keepHid (by rw [← hw1]; exact (Only.refl w g).alloc _)
  have HL1 : Hid (w.heap.size < w1.heap.size) := keepHid (by rw [← hw1]; simp)
  have HP1 := keepHid hp1
  have HLT := keepHid hlt
  obtain ⟨c0, c1, c2, cf⟩ := hp1.cells
  have hle : bs.length ≤ 64 := h.max
  obtain ⟨x', hx0, hdr⟩ := head_of hlt
  have hne : ∀ (b : UInt8), nx b (bs.drop i) = false → x'.toNat ≠ b.toNat := fun b hb he => by
    rw [hdr, nx_cons] at hb
    rw [UInt8.toNat_inj.1 he] at hb
    simp at hb
  have n40 := hne 40 h40
  have n91 := hne 91 h91
  have n93 := hne 93 h93
  have n42 := hne 42 h42
  have n43 := hne 43 h43
  have n63 := hne 63 h63
  have hix := fun w => run_idx hx0 (i : Int) rfl w
  generalize x'.toNat = y at *
  have m40 : ¬ (y : Int) = 40 := fun e => n40 (by show y = 40; omega)
  have m91 : ¬ (y : Int) = 91 := fun e => n91 (by show y = 91; omega)
  have m93 : ¬ (y : Int) = 93 := fun e => n93 (by show y = 93; omega)
  have m42 : ¬ (y : Int) = 42 := fun e => n42 (by show y = 42; omega)
  have m43 : ¬ (y : Int) = 43 := fun e => n43 (by show y = 43; omega)
  have m63 : ¬ (y : Int) = 63 := fun e => n63 (by show y = 63; omega)
  clear h hp1 hlt hdr hx0 h40 h91 h93 h42 h43 h63 h46 hne n40 n91 n93 n42 n43 n63
  have hsz : (strB bs).size = bs.length := strB_size bs
  generalize strB bs = S at *
  go_enter Tryd.func62, Tryd.ntmps62
  go_wp2
  go_quiet (fail)
  have HP2 := keepHid (HP1.out.drewN nq)
  have HZ2 := keepHid (HZ1.out.drewN nq)
  have HO2 := keepHid (HO1.out.drewN nq)
  have HL2 : Hid (w.heap.size < (w1.drewN nq).heap.size) := keepHid HL1.out
  generalize w1.drewN nq = w2 at *
  clear c0 c1 c2 cf HP1 HZ1 HO1 HL1 hw1
  have HT := keepHid (take_any HP2.out 46 46 rfl)
  unfold TakePost at HT
  rw [HX.out] at HT
  simp only [Bool.false_eq_true, if_false] at HT
  go_wp2_with fail
  refine HT.out.mono ?_
  rintro e w3 ⟨rfl, ⟨⟨j3, hj3, hp3⟩, ho3⟩⟩
  have HL3 := keepHid (letter_any hp3)
  rw [hj3] at HL3
  have HZ3 := keepHid (HZ2.out.only ho3 (by have := HG.out; intro e; injection e; omega))
  have HO3 := keepHid ho3
  clear hj3 hp3 ho3 m40 m91 m93 m42 m43 m63 HT
  go_wp2_with fail
  refine HL3.out.mono ?_
  rintro e w4 ⟨v, ok, rfl, hv, hok, hno, hw4⟩
  have HW4 : Hid (Went g bs d (letF (bs.drop i)).2 w2 w4) := keepHid (Went.far HO3.out hw4)
  have hzl : w.heap.size < w3.heap.size := HZ3.out.lt
  have HZ4 := keepHid (HZ3.out.only hw4.only (by have := HG.out; intro e; injection e; omega))
  clear hw4 hzl
  cases ok
  · have HE : Hid (atomF grp (bs.drop i) = (none, (letF (bs.drop i)).2)) := keepHid (by
      have := hno rfl
      rw [HF.out]
      generalize letF (bs.drop i) = x at *
      obtain ⟨o, r⟩ := x
      simp only at this
      subst this; rfl)
    have K := keepHid (read_six (x := (none, (letF (bs.drop i)).2)) (h := hd0) (ok := false) HG.out HL2.out HO2.out (fun h => by cases h) (fun _ => rfl) HW4.out)
    clear hok hno
    obtain ⟨z0, z1, z2, z3, z4, z5, zf⟩ := blk6 HZ4.out
    go_wp2
    exact ⟨by rfl, .tuple #[hdV hd0, .bool false], by rw [results_cell_tmp rfl]; go_simp; rfl, by rw [HE.out]; exact K.out _ _ _ _ _ _⟩
  · obtain ⟨c, hc, hl⟩ := hok rfl
    have HE : Hid (atomF grp (bs.drop i) = (some (.one (withS st0 v)), (letF (bs.drop i)).2)) := keepHid (by
      rw [HF.out]
      generalize letF (bs.drop i) = x at *
      obtain ⟨o, r⟩ := x
      simp only at hl
      subst hl
      rw [← hc])
    have HV := keepHid hv
    clear hok hno hc hl hv
    go_wp2_with fail
    refine (with0 v HV.out w4).mono ?_
    rintro e w5 ⟨rfl, hb5⟩
    go_wp2_with fail
    refine (one_any (withS st0 v) w5).mono ?_
    rintro e w6 ⟨rfl, hb6⟩
    have hb46 := hb5.trans (hb6.mono hb5.size)
    have HZ6 := keepHid (HZ4.out.below hb46 HZ4.out.lt)
    have hwent : Went g bs d (letF (bs.drop i)).2 w2 w6 := by
      obtain ⟨⟨j, hj, hp⟩, ho⟩ := HW4.out
      exact ⟨⟨j, hj, hp.below hb46 hp.lt⟩, ho.trans (Only.of_below hb46)⟩
    have K := keepHid (read_six (x := (some (.one (withS st0 v)), (letF (bs.drop i)).2)) (h := ⟨1, withS st0 v, none, 0, 0⟩) (ok := true) HG.out HL2.out HO2.out (fun _ => ⟨_, rfl, rfl⟩) (fun h => by cases h) hwent)
    clear hb5 hb6 hb46 hwent
    obtain ⟨z0, z1, z2, z3, z4, z5, zf⟩ := blk6 HZ6.out
    unfold hdV
    go_wp2
    exact ⟨by rfl, .tuple #[hdV ⟨1, withS st0 v, none, 0, 0⟩, .bool true], by rw [results_cell_tmp rfl]; go_simp; rfl, by rw [HE.out]; exact K.out _ _ _ _ _ _⟩
theorem atom_any (HG : Spec1 66 d grp) : Spec1 62 d (atomF grp) := by
  intro g bs i w h hlt
  cases h40 : nx 40 (bs.drop i)
  · cases h91 : nx 91 (bs.drop i)
    · cases h93 : nx 93 (bs.drop i)
      · cases h42 : nx 42 (bs.drop i)
        · cases h43 : nx 43 (bs.drop i)
          · cases h63 : nx 63 (bs.drop i)
            · cases h46 : nx 46 (bs.drop i)
              · exact atom_letter h hlt h40 h91 h93 h42 h43 h63 h46
              · exact atom_dot h hlt h46
            · exact atom_no63 h hlt h63
          · exact atom_no43 h hlt h43
        · exact atom_no42 h hlt h42
      · exact atom_no93 h hlt h93
    · exact atom_class h hlt h91
  · exact atom_group HG h hlt h40
end
end Go.Proofs.YtgidoieppplhpaaDoor
