/-
  Counts of numbers, in a map of the call's own: map[int]int.
-/
import Derived.Test.YtdhipkfiigiicaaProg
import Derived.Test.YtdhipkfiigiicaaMem
import Derived.WalkKit
import Derived.IntWalk
import Derived.Maps.OwnSet
import Derived.Maps.Keyed
namespace Go.Proofs.Ytdhipkfiigiicaa
open Go.RowKit
set_option linter.unusedVariables false

theorem cnt_law : Maps.Keyed Try.prog 3 := Maps.int_keyed Try.underlying3
theorem cnt_key (p : Nat) (hp : p ≤ 9223372036854775807) : keyOf Try.prog 3 (.int .i64 (p : Int)) = some (.int .i64 (p : Int)) := Maps.keyOf_int_mk Try.underlying3 (WalkArith.wf_i64 (by omega))
/-- The map in block M, written c times, holds f. -/
def CountM (w : World) (M c : Nat) (f : Nat → Nat) : Prop :=
  ∃ D : DataW Unit, w.ownsMap Try.prog 3 (plainElem Try.prog 3) M c D ∧ ∀ p : Nat, D.atKey (.int .i64 (p : Int)) (.lit (.int .i64 0)) = .lit (.int .i64 (f p : Int))
theorem CountM.made (w : World) (M : Nat) (hM : M = w.heap.size) : CountM (w.alloc (.map #[] 0)) M 0 (fun _ => 0) := by
  subst hM
  exact ⟨.map [], World.ownsMap_made w _ _ _, fun p => Maps.atKey_of_not_has (by simp [Maps.has]) _⟩
theorem CountM.lt {w : World} {M c : Nat} {f : Nat → Nat} (h : CountM w M c f) : M < w.heap.size := by obtain ⟨D, h1, _⟩ := h; exact h1.lt
theorem CountM.keep {w w' : World} {M c : Nat} {f : Nat → Nat} (h : CountM w M c f) (hk : w'.heap[M]? = w.heap[M]?) : CountM w' M c f := by
  obtain ⟨D, ⟨es, cl, h1, h2⟩, h3⟩ := h
  exact ⟨D, ⟨es, cl, hk.trans h1, h2⟩, h3⟩
set_option maxRecDepth 100000 in
theorem CountM.put {w : World} {M c : Nat} {f : Nat → Nat} (h : CountM w M c f) (p n : Nat) (hp : p ≤ 9223372036854775807) (hn : n ≤ 9223372036854775807) (hc : c < 9223372036854775807) :
    ∃ w', (Instr.mapUpdate 38 (.map (some M)) (.int .i64 (p : Int)) (.int .i64 (n : Int))).run Try.prog w = .ok () w' ∧ CountM w' M (c + 1) (fun j => if j = p then n else f j) ∧ w.grownBy w' (some M) := by
  obtain ⟨D, h1, h5⟩ := h
  have hk := cnt_key p hp
  obtain ⟨w', hrun, r1, r2⟩ := h1.update cnt_law Try.underlying38 (by unfold maxLen; omega) hk (plainElem_int Try.underlying3 (a := (n : Int)) (WalkArith.wf_i64 (by omega)))
  have hm : Maps.IsMap D := h1.isMap
  have hkl := cnt_law.key hk
  refine ⟨w', hrun, ⟨_, r1, fun q => ?_⟩, r2⟩
  by_cases e : q = p
  · subst e
    rw [Maps.atKey_put_same hm hkl]
    simp
  · rw [Maps.atKey_put_other (fun he => e (by injection he with _ he; exact Int.ofNat.inj he)), h5 q]
    simp [e]
set_option maxRecDepth 100000 in
theorem CountM.look {w : World} {M c : Nat} {f : Nat → Nat} (h : CountM w M c f) (p : Nat) (hp : p ≤ 9223372036854775807) :
    (Instr.lookup 38 (.map (some M)) (.int .i64 (p : Int)) false).run Try.prog w = .ok (.int .i64 (f p : Int)) w := by
  obtain ⟨D, h1, h5⟩ := h
  have hz : (zeroValue 3).run Try.prog w = .ok (.int .i64 0) w := by rfl
  obtain ⟨v, ps, hrun, hv⟩ := h1.lookup cnt_law Try.underlying38 hz (plainElem_int Try.underlying3 (a := 0) (WalkArith.wf_i64 (by omega))) (cnt_key p hp)
  rw [h5 p] at hv
  obtain ⟨a, rfl, e, _⟩ := plainElem_int_inv Try.underlying3 hv
  have e1 : (f p : Int) = a := by injection e with e _; injection e with e; injection e with _ e
  rw [hrun, e1]
end Go.Proofs.Ytdhipkfiigiicaa
