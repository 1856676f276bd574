/-
  Package regex's Set, by contracts.
-/
import Derived.Test.YtgidoieppplhpaaDoorProg
import Derived.Test.YtgidoieppplhpaaDoorRegexPlain
import Derived.Test.YtgidoieppplhpaaDoorBits
import Derived.WalkKit
import Derived.ProofKit
import Derived.WalkLawsBesides
import Derived.IntWalk
import Derived.RegionTactic
import Derived.BigRegion
import Derived.ChangeAlike
import Derived.Deep.QuietTactic
import Derived.BigQuiet
import Derived.Deep.RegionHeld3
import Derived.Deep.DrawnRows
import Derived.Outline
namespace Go.Proofs.YtgidoieppplhpaaDoor
open Go.RowKit
set_option linter.unusedVariables false

theorem results_cell_one {fn : Func} {p : Tmp} {ty : TypeId} (h : fn.results = #[.cell p ty]) (tmps : Array Value) (P : Program) (w : World) :
    (results fn tmps).run P w = ((asAddr (tmps.getD p undef)).run P w).andThen fun a w₁ => (loadVar ty a).run P w₁ := by
  simp only [results, h]
  simp [Sem.run_bind, Result.andThen]
/-- A set, as a value. -/
def stV (s : St) : Value := .agg #[.int .u64 (s.a.toNat : Int), .int .u64 (s.b.toNat : Int), .int .u64 (s.c.toNat : Int), .int .u64 (s.d.toNat : Int)]
theorem or_bit (x : BitVec 64) (j : Nat) (hj : j < 64) : bits .or .u64 (x.toNat : Int) (IntKind.u64.wrap (1 * 2 ^ j)) = ((x ||| (1#64 <<< j)).toNat : Int) := by
  have h1 : IntKind.u64.wrap (1 * 2 ^ j) = ((2 ^ j : Nat) : Int) := by
    have hlt : 2 ^ j < 18446744073709551616 := by
      have := Nat.pow_lt_pow_right (a := 2) (by omega) hj
      simpa using this
    have e : (1 * 2 ^ j : Int) = ((2 ^ j : Nat) : Int) := by rw [Int.one_mul]; push_cast; rfl
    rw [e]
    generalize 2 ^ j = m at *
    simp [IntKind.wrap, IntKind.bits, IntKind.signed]
    omega
  have hlt : 2 ^ j < 18446744073709551616 := by
    have := Nat.pow_lt_pow_right (a := 2) (by omega) hj
    simpa using this
  rw [h1, u64_or_nat _ _ (by have := x.isLt; simpa using this) hlt, BitVec.toNat_or, BitVec.toNat_shiftLeft]
  congr 2
  rw [Nat.shiftLeft_eq, show (1#64).toNat = 1 from rfl, Nat.one_mul, Nat.mod_eq_of_lt (by simpa using hlt)]
theorem not_bits (x : BitVec 64) : bits .xor .u64 IntKind.u64.max (x.toNat : Int) = ((~~~x).toNat : Int) := by
  have h := x.isLt
  rw [show IntKind.u64.max = ((18446744073709551615 : Nat) : Int) from rfl, u64_xor_nat _ _ (by omega) (by simpa using h)]
  have : (18446744073709551615 : Nat) = (BitVec.allOnes 64).toNat := by decide
  rw [this, ← BitVec.toNat_xor, BitVec.allOnes_xor]
theorem bit_of (x : BitVec 64) (j : Nat) (hj : j < 64) : (bits .and .u64 ((x.toNat : Int) / 2 ^ j) 1 == 1) = x.getLsbD j := by
  have h := x.isLt
  have e : (x.toNat : Int) / 2 ^ j = ((x.toNat / 2 ^ j : Nat) : Int) := by push_cast; rfl
  have hlt : x.toNat / 2 ^ j < 18446744073709551616 := Nat.lt_of_le_of_lt (Nat.div_le_self _ _) (by simpa using h)
  have k := u64_and_nat (x.toNat / 2 ^ j) 1 hlt (by omega)
  rw [e, show (1 : Int) = ((1 : Nat) : Int) from rfl, k, Nat.and_one_is_mod]
  rw [← BitVec.testBit_toNat, Nat.testBit_eq_decide_div_mod_eq]
  have : x.toNat / 2 ^ j % 2 < 2 := Nat.mod_lt _ (by omega)
  by_cases h2 : x.toNat / 2 ^ j % 2 = 1
  · rw [h2]; rfl
  · have h0 : x.toNat / 2 ^ j % 2 = 0 := by omega
    rw [h0]; rfl

set_option maxHeartbeats 4000000 in
theorem with_any (s : St) (c : Nat) (hc : c < 256) (w : World) :
    Calls Tryd.prog 31 #[stV s, .int .u8 (c : Int)] w fun e w' => e = .returned (stV (withS s c)) ∧ Below w.heap.size w w' := by
  have hj : c % 64 < 64 := Nat.mod_lt _ (by omega)
  have hi : c / 64 < 4 := by omega
  unfold withS
  have e1 : (c : Int) / 64 = ((c / 64 : Nat) : Int) := by omega
  have e2 : (c : Int) % 64 = ((c % 64 : Nat) : Int) := by omega
  generalize c % 64 = j at *
  generalize c / 64 = i at *
  unfold stV
  obtain ⟨a, b, d, f⟩ := s
  have i0 : (0 : Int) ≤ (c : Int) := by omega
  have i1 : (c : Int) ≤ 255 := by omega
  have HC := keepHid hc
  clear hc
  rcases (by omega : i = 0 ∨ i = 1 ∨ i = 2 ∨ i = 3) with rfl | rfl | rfl | rfl
  all_goals
    simp only [St.get, St.put]
    rw [← or_bit _ j hj]
    go_enter Tryd.func31, Tryd.ntmps31
    go_wp2
    refine bodyPost_ret (by rw [results_cell_one rfl]; go_simp) rfl ⟨rfl, ?_⟩
    exact ((Below.refl _ _).alloc (Nat.le_refl _) _).alloc (by simp) _

set_option maxHeartbeats 4000000 in
theorem has_any (s : St) (c : Nat) (hc : c < 256) (w : World) :
    Calls Tryd.prog 43 #[stV s, .int .u8 (c : Int)] w fun e w' => e = .returned (.bool (hasS s c)) ∧ Below w.heap.size w w' := by
  have hj : c % 64 < 64 := Nat.mod_lt _ (by omega)
  have hi : c / 64 < 4 := by omega
  unfold hasS
  have e1 : (c : Int) / 64 = ((c / 64 : Nat) : Int) := by omega
  have e2 : (c : Int) % 64 = ((c % 64 : Nat) : Int) := by omega
  generalize c % 64 = j at *
  generalize c / 64 = i at *
  unfold stV
  obtain ⟨a, b, d, f⟩ := s
  have i0 : (0 : Int) ≤ (c : Int) := by omega
  have i1 : (c : Int) ≤ 255 := by omega
  have HC := keepHid hc
  clear hc
  rcases (by omega : i = 0 ∨ i = 1 ∨ i = 2 ∨ i = 3) with rfl | rfl | rfl | rfl
  all_goals
    simp only [St.get]
    rw [← bit_of _ j hj]
    go_enter Tryd.func43, Tryd.ntmps43
    go_wp2
    go_ret
    refine ⟨rfl, ?_⟩
    exact (Below.refl _ _).alloc (Nat.le_refl _) _

/-- A block of four, of six cells. -/
theorem blk4 {w : World} {g : Nat} {t : TypeId} {a0 a1 a2 a3 : Value} (h : Blk w g t #[a0, a1, a2, a3]) :
    w.cell? ⟨g, 0, none⟩ = some a0 ∧ w.cell? ⟨g, 1, none⟩ = some a1 ∧ w.cell? ⟨g, 2, none⟩ = some a2 ∧ w.cell? ⟨g, 3, none⟩ = some a3 ∧ ∀ i, w.frozen? ⟨g, i, none⟩ = false :=
  ⟨h.cell 0, h.cell 1, h.cell 2, h.cell 3, h.frozen⟩
theorem blk6 {w : World} {g : Nat} {t : TypeId} {a0 a1 a2 a3 a4 a5 : Value} (h : Blk w g t #[a0, a1, a2, a3, a4, a5]) :
    w.cell? ⟨g, 0, none⟩ = some a0 ∧ w.cell? ⟨g, 1, none⟩ = some a1 ∧ w.cell? ⟨g, 2, none⟩ = some a2 ∧ w.cell? ⟨g, 3, none⟩ = some a3 ∧ w.cell? ⟨g, 4, none⟩ = some a4 ∧ w.cell? ⟨g, 5, none⟩ = some a5 ∧ ∀ i, w.frozen? ⟨g, i, none⟩ = false :=
  ⟨h.cell 0, h.cell 1, h.cell 2, h.cell 3, h.cell 4, h.cell 5, h.frozen⟩

set_option maxHeartbeats 4000000 in
theorem not_any (s : St) (w : World) :
    Calls Tryd.prog 30 #[stV s] w fun e w' => e = .returned (stV (notS s)) ∧ Below w.heap.size w w' := by
  obtain ⟨a, b, d, f⟩ := s
  unfold notS stV
  simp only
  have q1 := not_bits a
  have q2 := not_bits b
  have q3 := not_bits d
  have q4 := not_bits f
  generalize (~~~a).toNat = na at *
  generalize (~~~b).toNat = nb at *
  generalize (~~~d).toNat = nd at *
  generalize (~~~f).toNat = nf at *
  have hs : IntKind.u64.signed = false := rfl
  go_enter Tryd.func30, Tryd.ntmps30
  go_wp2
  refine bodyPost_ret (v := .agg #[.int .u64 (na : Int), .int .u64 (nb : Int), .int .u64 (nd : Int), .int .u64 (nf : Int)]) (by rw [results_cell_one rfl]; go_simp) rfl ⟨rfl, ?_⟩
  exact ((Below.refl _ _).alloc (Nat.le_refl _) _).alloc (by simp) _

theorem all_any (w : World) : Calls Tryd.prog 69 #[] w fun e w' => e = .returned (stV (notS st0)) ∧ Below w.heap.size w w' := by
  obtain ⟨w1, hw1⟩ : ∃ w1, w.alloc (.cells #[.int .u64 0, .int .u64 0, .int .u64 0, .int .u64 0] 30) = w1 := ⟨_, rfl⟩
  have hk1 : Blk w1 w.heap.size 30 #[.int .u64 0, .int .u64 0, .int .u64 0, .int .u64 0] := by rw [← hw1]; exact Blk.new _ _ _
  have hb1 : Below w.heap.size w w1 := by rw [← hw1]; exact (Below.refl _ _).alloc (Nat.le_refl _) _
  have H := not_any st0 w1
  unfold stV at H ⊢
  generalize (notS st0).a.toNat = a at *
  generalize (notS st0).b.toNat = b at *
  generalize (notS st0).c.toNat = c at *
  generalize (notS st0).d.toNat = d at *
  go_enter Tryd.func69, Tryd.ntmps69
  go_wp2_with fail
  refine H.mono ?_
  rintro e w' ⟨rfl, hb⟩
  have hk := hk1.below hb hk1.lt
  have HB := keepHid (hb1.trans (hb.mono hb1.size))
  obtain ⟨r0, r1, r2, r3, rf⟩ := blk4 hk
  clear hk hk1 hb hb1 hw1
  go_wp2
  refine bodyPost_ret (v := .agg #[.int .u64 (a : Int), .int .u64 (b : Int), .int .u64 (c : Int), .int .u64 (d : Int)]) (by rw [results_cell_one rfl]; go_simp) rfl ⟨rfl, ?_⟩
  exact (((HB.out.setCell (Nat.le_refl _) _).setCell (Nat.le_refl _) _).setCell (Nat.le_refl _) _).setCell (Nat.le_refl _) _
end Go.Proofs.YtgidoieppplhpaaDoor
