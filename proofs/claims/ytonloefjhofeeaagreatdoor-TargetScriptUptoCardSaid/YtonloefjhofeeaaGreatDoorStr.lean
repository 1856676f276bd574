/-
  Strings, generic: a byte of one, parts of one.
-/
import Derived.Test.YtonloefjhofeeaaGreatDoorProg
import Derived.Test.YtonloefjhofeeaaGreatDoorTurn
import Derived.Test.YtonloefjhofeeaaGreatDoorMake
import Derived.WalkKit
import Derived.ProofKit
import Derived.WalkLawsBesides
import Derived.IntWalk
import Derived.RegionTactic
import Derived.BigRegion
import Derived.ChangeAlike
import Derived.Deep.QuietTactic
import Derived.BigQuiet
import Derived.Deep.RegionHeld3
import Derived.Deep.DrawnRows
import Derived.Outline
namespace Go.Proofs.YtonloefjhofeeaaGreatDoor
open Go.RowKit
set_option linter.unusedVariables false

theorem blk4 {w : World} {g : Nat} {t : TypeId} {a0 a1 a2 a3 : Value} (h : Blk w g t #[a0, a1, a2, a3]) :
    w.cell? ⟨g, 0, none⟩ = some a0 ∧ w.cell? ⟨g, 1, none⟩ = some a1 ∧ w.cell? ⟨g, 2, none⟩ = some a2 ∧ w.cell? ⟨g, 3, none⟩ = some a3 ∧ ∀ i, w.frozen? ⟨g, i, none⟩ = false :=
  ⟨h.cell 0, h.cell 1, h.cell 2, h.cell 3, h.frozen⟩
theorem ret_bool {a b : Bool} (h : a = b) : Ending.returned (.bool a) = .returned (.bool b) := by rw [h]
/-- A byte of a string. -/
theorem run_idx {l : List UInt8} {k : Nat} {c : UInt8} (h : l[k]? = some c) (i : Int) (hi : i = (k : Int)) (w : World) :
    (Instr.index 9 (.string (strB l)) (.int .i64 i)).run Tryz.prog w = .ok (.int .u8 (c.toNat : Int)) w := by
  subst hi
  have hk : k < l.length := (List.getElem?_eq_some_iff.1 h).1
  rw [run_index_string w 9 (strB l) .i64 k Tryz.underlying9, dif_pos ⟨by omega, by rw [strB_size]; omega⟩]
  have key : ∀ (i : Nat) (hi : i < (strB l).size), i = k → (strB l)[i] = c := by
    rintro i hi rfl
    have h2 : (strB l).data[i]? = some c := by show l.toArray[i]? = some c; simpa using h
    exact (Array.getElem?_eq_some_iff.1 h2).2
  rw [key _ _ (by omega)]
theorem run_mid {l : List UInt8} {i j : Nat} (hi : i ≤ j) (hj : j ≤ l.length) (kx ky : IntKind) (x y : Int) (hx : x = (i : Int)) (hy : y = (j : Int)) (w : World) :
    (Instr.slice 9 (.string (strB l)) (some (.int kx x)) (some (.int ky y)) none).run Tryz.prog w = .ok (.string (strB ((l.drop i).take (j - i)))) w := by
  subst hx hy
  rw [run_slice_string w 9 (strB l) kx ky (i : Int) (j : Int) Tryz.underlying9 (by omega) (by omega) (by rw [strB_size]; omega)]
  have e : (strB l).extract i j = strB ((l.drop i).take (j - i)) := by
    apply ByteArray.ext
    apply Array.toList_inj.1
    simp [strB, ByteArray.data_extract]
  show Result.ok (Value.string ((strB l).extract ((i : Int)).toNat ((j : Int)).toNat)) w = _
  rw [show ((i : Int)).toNat = i by omega, show ((j : Int)).toNat = j by omega, e]
theorem run_cut1 {l : List UInt8} {k : Nat} {c : UInt8} (h : l[k]? = some c) (x y : Int) (hx : x = (k : Int)) (hy : y = (k : Int) + 1) (w : World) :
    (Instr.slice 9 (.string (strB l)) (some (.int .i64 x)) (some (.int .i64 y)) none).run Tryz.prog w = .ok (.string (strB [c])) w := by
  have hk : k < l.length := (List.getElem?_eq_some_iff.1 h).1
  rw [run_mid (i := k) (j := k + 1) (by omega) hk .i64 .i64 x y hx (by omega) w, show k + 1 - k = 1 by omega]
  have : (l.drop k).take 1 = [c] := by
    rw [List.drop_eq_getElem_cons hk]
    have := (List.getElem?_eq_some_iff.1 h).2
    simp [this]
  rw [this]
theorem run_from {l : List UInt8} {k : Nat} (hk : k ≤ l.length) (x : Int) (hx : x = (k : Int)) (w : World) :
    (Instr.slice 9 (.string (strB l)) (some (.int .i64 x)) none none).run Tryz.prog w = .ok (.string (strB (l.drop k))) w := by
  subst hx
  rw [run_slice_string_from_if (P := Tryz.prog) (w := w) 9 (strB l) .i64 (k : Int) Tryz.underlying9, if_pos ⟨by omega, by rw [strB_size]; omega⟩]
  show Result.ok (Value.string ((strB l).extract ((k : Int)).toNat (strB l).size)) w = _
  rw [show ((k : Int)).toNat = k by omega, strB_size, strB_drop]
theorem run_upto {l : List UInt8} {k : Nat} (hk : k ≤ l.length) (x : Int) (hx : x = (k : Int)) (w : World) :
    (Instr.slice 9 (.string (strB l)) none (some (.int .i64 x)) none).run Tryz.prog w = .ok (.string (strB (l.take k))) w := by
  subst hx
  rw [run_slice_string_to_if (P := Tryz.prog) (w := w) 9 (strB l) .i64 (k : Int) Tryz.underlying9, if_pos ⟨by omega, by rw [strB_size]; omega⟩]
  show Result.ok (Value.string ((strB l).extract 0 ((k : Int)).toNat)) w = _
  rw [show ((k : Int)).toNat = k by omega, strB_take]

end Go.Proofs.YtonloefjhofeeaaGreatDoor
