/-
  The law's own table of what stands behind a backslash.
-/
import Derived.Test.YtgokejoieafgiaaDoorTokenOps
import Derived.Maps.Own
import Derived.Maps.OwnOps
import Derived.Maps.StringElems
import Derived.OwnWalk
namespace Go.Proofs.YtgokejoieafgiaaDoor
open Go.RowKit Go.Maps Go.ChangeMaps Go.WideMaps
set_option linter.unusedVariables false

theorem strKeyed : Keyed Tryd.prog 9 := string_keyed Tryd.underlying9
theorem zeroStr (w : World) : (zeroValue 9).run Tryd.prog w = .ok (.string ⟨#[]⟩) w := by kernel_rfl
theorem esc_five (e d : UInt8) (h : escD e = some d) : (e = 114 ∧ d = 13) ∨ (e = 110 ∧ d = 10) ∨ (e = 34 ∧ d = 34) ∨ (e = 92 ∧ d = 92) := by
  unfold escD at h
  split at h
  · cases h; rename_i k; exact .inr (.inr (.inl ⟨k, rfl⟩))
  · split at h
    · cases h; rename_i k; exact .inr (.inr (.inr ⟨k, rfl⟩))
    · split at h
      · cases h; rename_i k; exact .inl ⟨k, rfl⟩
      · split at h
        · cases h; rename_i k; exact .inr (.inl ⟨k, rfl⟩)
        · cases h
theorem esc_map (e d : UInt8) (h : escD e = some d) (w : World) : ∃ w1 w2 w3 w4, (Instr.mapUpdate 74 (.map (some w.heap.size)) (.string ⟨#[114]⟩) (.string ⟨#[13]⟩)).run Tryd.prog (w.alloc (.map #[] 0)) = .ok () w1 ∧
    (Instr.mapUpdate 74 (.map (some w.heap.size)) (.string ⟨#[110]⟩) (.string ⟨#[10]⟩)).run Tryd.prog w1 = .ok () w2 ∧ (Instr.mapUpdate 74 (.map (some w.heap.size)) (.string ⟨#[34]⟩) (.string ⟨#[34]⟩)).run Tryd.prog w2 = .ok () w3 ∧
    (Instr.mapUpdate 74 (.map (some w.heap.size)) (.string ⟨#[92]⟩) (.string ⟨#[92]⟩)).run Tryd.prog w3 = .ok () w4 ∧
    (Instr.lookup 74 (.map (some w.heap.size)) (.string (strB [e])) false).run Tryd.prog w4 = .ok (.string (strB [d])) w4 ∧ Below w.heap.size w w4 := by
  have hU := Tryd.underlying9
  have hM := Tryd.underlying74
  have h0 := World.ownsMap_made w Tryd.prog 9 (plainElem (H := Unit) Tryd.prog 9)
  obtain ⟨w1, r1, o1, g1⟩ := h0.update strKeyed hM (by unfold maxLen; omega) (key := .string ⟨#[114]⟩) (val := .string ⟨#[13]⟩) (keyOf_string_mk hU (by decide)) (plainElem_string hU (by decide))
  obtain ⟨w2, r2, o2, g2⟩ := o1.update strKeyed hM (by unfold maxLen; omega) (key := .string ⟨#[110]⟩) (val := .string ⟨#[10]⟩) (keyOf_string_mk hU (by decide)) (plainElem_string hU (by decide))
  obtain ⟨w3, r3, o3, g3⟩ := o2.update strKeyed hM (by unfold maxLen; omega) (key := .string ⟨#[34]⟩) (val := .string ⟨#[34]⟩) (keyOf_string_mk hU (by decide)) (plainElem_string hU (by decide))
  obtain ⟨w4, r4, o4, g4⟩ := o3.update strKeyed hM (by unfold maxLen; omega) (key := .string ⟨#[92]⟩) (val := .string ⟨#[92]⟩) (keyOf_string_mk hU (by decide)) (plainElem_string hU (by decide))
  have hs0 : (w.alloc (.map #[] 0)).heap.size = w.heap.size + 1 := by simp
  have hb : Below w.heap.size w w4 := by
    have hb0 : Below w.heap.size w (w.alloc (.map #[] 0)) := (Below.refl _ _).alloc (Nat.le_refl _) _
    refine hb0.trans ⟨?_, ?_, ?_, ?_, ?_⟩
    · rw [g4.os, g3.os, g2.os, g1.os]
    · rw [g4.tape, g3.tape, g2.tape, g1.tape]
    · rw [g4.output, g3.output, g2.output, g1.output]
    · exact Nat.le_trans (World.grownBy.size g1) (Nat.le_trans (World.grownBy.size g2) (Nat.le_trans (World.grownBy.size g3) (World.grownBy.size g4)))
    · intro i hi
      have s1 := World.grownBy.size g1
      have s2 := World.grownBy.size g2
      have s3 := World.grownBy.size g3
      have hne : some i ≠ some w.heap.size := fun e => by injection e; omega
      rw [g4.block i (by omega) hne, g3.block i (by omega) hne, g2.block i (by omega) hne, g1.block i (by omega) hne]
  refine ⟨w1, w2, w3, w4, r1, r2, r3, r4, ?_, hb⟩
  obtain ⟨v, ps, hrun, hv⟩ := o4.lookup strKeyed hM (zeroStr _) (plainElem_string hU (by decide)) (key := .string (strB [e])) (keyOf_string_mk hU (by rw [strB_size]; show 1 ≤ maxLen; decide))
  obtain ⟨s, rfl, hz⟩ := plainElem_string_inv hU hv
  have hc := congrArg Prod.fst hz.1
  have hl : s.data.toList = [d] := by
    clear hrun hv
    rcases esc_five e d h with ⟨rfl, rfl⟩ | ⟨rfl, rfl⟩ | ⟨rfl, rfl⟩ | ⟨rfl, rfl⟩
    all_goals exact (congrArg (fun d : DataW Unit => match d with | .lit (.string z) => z | _ => []) hc).symm
  have hs : s = strB [d] := ByteArray.ext (Array.toList_inj.1 (by rw [hl]; rfl))
  rw [hrun, hs]
end Go.Proofs.YtgokejoieafgiaaDoor
