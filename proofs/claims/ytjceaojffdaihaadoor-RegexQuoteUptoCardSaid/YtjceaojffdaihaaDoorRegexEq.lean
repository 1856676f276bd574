/-
  Two sets compared.
-/
import Derived.Test.YtjceaojffdaihaaDoorRegexTree
import Derived.ChangeKeysEq
import Derived.Laws.StructEq
import Derived.WalkKit
import Derived.ProofKit
namespace Go.Proofs.YtjceaojffdaihaaDoor
open Go.RowKit
set_option linter.unusedVariables false

theorem cells64 : Tryd.prog.cellsOf 25 = 1 := by kernel_rfl
theorem set_info : (Tryd.prog.info? 25).isSome = true := by kernel_rfl
theorem toNat_beq (x y : BitVec 64) : ((x.toNat : Int) == (y.toNat : Int)) = decide (x = y) := by
  by_cases h : x = y
  · subst h; simp
  · have : x.toNat ≠ y.toNat := fun e => h (BitVec.eq_of_toNat_eq e)
    have h2 : ((x.toNat : Int) == (y.toNat : Int)) = false := by simp only [beq_eq_false_iff_ne, ne_eq]; omega
    rw [h2]; simp [h]
theorem run_eq_set (s t : St) (W : World) : (Op.equalIn 10000 27 (stV s) (stV t)).run Tryd.prog W = .ok (decide (s = t)) W := by
  obtain ⟨i, hi⟩ := Option.isSome_iff_exists.1 set_info
  unfold stV
  rw [run_equalIn_array W 9999 (e := 25) (n := 4) _ _ Tryd.underlying27 hi, cells64]
  have hr : List.range 4 = [0, 1, 2, 3] := rfl
  rw [hr]
  have hu := Tryd.underlying25
  have he : ∀ (a b : Int) W, (Op.equalIn 9999 25 (.int .u64 a) (.int .u64 b)).run Tryd.prog W = .ok (a == b) W := fun a b W => run_equalIn_int W 9998 _ _ _ a b hu
  have hpt : ∀ (xs : Array Value) (k : Nat) (v : Value) W, xs[k]? = some v → (part 25 xs k).run Tryd.prog W = .ok v W := fun xs k v W h => by
    simp [part, isAgg, underlying, hu, h]
  obtain ⟨a, b, c, d⟩ := s
  obtain ⟨a', b', c', d'⟩ := t
  have p := fun (x0 x1 x2 x3 : Value) W => (⟨hpt #[x0, x1, x2, x3] (0 * 1) x0 W rfl, hpt #[x0, x1, x2, x3] (1 * 1) x1 W rfl, hpt #[x0, x1, x2, x3] (2 * 1) x2 W rfl, hpt #[x0, x1, x2, x3] (3 * 1) x3 W rfl⟩ :
    (part 25 #[x0, x1, x2, x3] (0 * 1)).run Tryd.prog W = .ok x0 W ∧ (part 25 #[x0, x1, x2, x3] (1 * 1)).run Tryd.prog W = .ok x1 W ∧ (part 25 #[x0, x1, x2, x3] (2 * 1)).run Tryd.prog W = .ok x2 W ∧ (part 25 #[x0, x1, x2, x3] (3 * 1)).run Tryd.prog W = .ok x3 W)
  have e : ∀ x y : BitVec 64, decide (x = y) = true ↔ x = y := fun x y => decide_eq_true_iff
  simp only [Op.eqItems, Sem.run_bind, (p _ _ _ _ _).1, Result.andThen_ok, he, toNat_beq]
  by_cases h1 : a = a' <;> by_cases h2 : b = b' <;> by_cases h3 : c = c' <;> by_cases h4 : d = d' <;>
    simp [h1, h2, h3, h4, he, toNat_beq, (p _ _ _ _ _).2.1, (p _ _ _ _ _).2.2.1, (p _ _ _ _ _).2.2.2, Sem.run_bind]
theorem eq_set (s t : St) (W : World) : (binOp .eql 27 (stV s) (stV t)).run Tryd.prog W = .ok (.bool (decide (s = t))) W := by
  have h := run_eq_set s t W
  unfold stV at h ⊢
  rw [run_eql_struct, h]
  rfl
theorem neq_set (s t : St) (W : World) : (binOp .neq 27 (stV s) (stV t)).run Tryd.prog W = .ok (.bool (!decide (s = t))) W := by
  have h := run_eq_set s t W
  unfold stV at h ⊢
  rw [run_neq_struct, h]
  rfl
end Go.Proofs.YtjceaojffdaihaaDoor
