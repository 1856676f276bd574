/-
  Slices that read as lists, of any one-cell elements.
-/
import Derived.Test.YtgndcgknedmalaaGreatDoorMake
namespace Go.Proofs.YtgndcgknedmalaaGreatDoor
open Go.RowKit
set_option linter.unusedVariables false

def natV (n : Nat) : Value := .int .i64 (n : Int)
/-- The slice value '.slice A n _' reads as the list xs. -/
def Sl {α : Type} (f : α → Value) (w : World) (A : Option Addr) (n : Nat) (xs : List α) : Prop :=
  xs.length = n ∧ n ≤ maxLen ∧ ∀ k x, xs[k]? = some x → ∃ ad, A = some ad ∧ ad.block < w.heap.size ∧ w.cell? (ad.add k) = some (f x)
namespace Sl
variable {α : Type} {f : α → Value} {w w' : World} {A : Option Addr} {n : Nat} {xs : List α}
theorem nil : Sl f w none 0 [] := ⟨rfl, Nat.zero_le _, fun k x h => by simp at h⟩
theorem len (h : Sl f w A n xs) : xs.length = n := h.1
theorem max (h : Sl f w A n xs) : n ≤ 9223372036854775807 := by have := h.2.1; unfold maxLen at this; exact this
theorem keep (h : Sl f w A n xs) (hs : w.heap.size ≤ w'.heap.size) (hk : ∀ ad, A = some ad → w'.heap[ad.block]? = w.heap[ad.block]?) : Sl f w' A n xs :=
  ⟨h.1, h.2.1, fun k x hx => by
    obtain ⟨ad, e, hb, hc⟩ := h.2.2 k x hx
    exact ⟨ad, e, Nat.lt_of_lt_of_le hb hs, (World.cell?_of_block (by rw [ad_block]; exact hk ad e)).trans hc⟩⟩
theorem below (h : Sl f w A n xs) (hb : Below w.heap.size w w') : Sl f w' A n xs :=
  ⟨h.1, h.2.1, fun k x hx => by
    obtain ⟨ad, e, hl, hc⟩ := h.2.2 k x hx
    exact ⟨ad, e, Nat.lt_of_lt_of_le hl hb.size, (World.cell?_of_block (by rw [ad_block]; exact hb.block _ hl)).trans hc⟩⟩
theorem drew (h : Sl f w A n xs) : Sl f w.drew A n xs := h
theorem drewN (h : Sl f w A n xs) (k : Nat) : Sl f (w.drewN k) A n xs := h
/-- Of a row that a call has made. -/
theorem of_own {base : Nat} {e : TypeId} {c : Nat} (h : w.ownsRow base e 1 (.slice A n c) n (xs.map f)) (hm : n ≤ maxLen) : Sl f w A n xs := by
  have hl : xs.length = n := by have := h.1; simpa using this
  refine ⟨hl, hm, fun k x hx => ?_⟩
  rcases h.2 with ⟨_, h0⟩ | ⟨g, cap, cur, hv, _⟩
  · rw [h0] at hl
    have : xs = [] := List.eq_nil_of_length_eq_zero hl
    subst this; simp at hx
  · obtain rfl : A = some ⟨g, 0, none⟩ := by injection hv
    exact ⟨_, rfl, (h.lt g rfl).2, h.cells rfl k _ (by rw [List.getElem?_map, hx]; rfl)⟩
/-- Of a block that is known whole. -/
theorem of_blk {g : Nat} {t : TypeId} (hb : Blk w g t (xs.map f).toArray) (hn : xs.length = n) (hm : n ≤ maxLen) : Sl f w (some ⟨g, 0, none⟩) n xs := by
  refine ⟨hn, hm, fun k x hx => ⟨_, rfl, hb.lt, ?_⟩⟩
  have e : (⟨g, 0, none⟩ : Addr).add k = ⟨g, k, none⟩ := by unfold Addr.add; split <;> simp_all
  rw [e, hb.cell]
  simp [hx]
end Sl
end Go.Proofs.YtgndcgknedmalaaGreatDoor
