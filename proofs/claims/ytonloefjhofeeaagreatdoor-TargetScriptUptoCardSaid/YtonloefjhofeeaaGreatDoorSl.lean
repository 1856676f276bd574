/-
  Slices that read as lists, of any one-cell elements.
-/
import Derived.Test.YtonloefjhofeeaaGreatDoorMake
import Derived.Maps.AppendAt
import Derived.WalkKit
import Derived.OwnWalk
import Derived.ProofKit
import Derived.WalkLawsBesides
import Derived.IntWalk
import Derived.Outline
namespace Go.Proofs.YtonloefjhofeeaaGreatDoor
open Go.RowKit
set_option linter.unusedVariables false

def natV (n : Nat) : Value := .int .i64 (n : Int)
/-- The slice value '.slice A n _' reads as the list xs. -/
def Sl {α : Type} (f : α → Value) (w : World) (A : Option Addr) (n : Nat) (xs : List α) : Prop :=
  xs.length = n ∧ n ≤ maxLen ∧ ∀ k x, xs[k]? = some x → ∃ ad, A = some ad ∧ ad.block < w.heap.size ∧ w.cell? (ad.add k) = some (f x)
namespace Sl
variable {α : Type} {f : α → Value} {w w' : World} {A : Option Addr} {n : Nat} {xs : List α}
theorem nil : Sl f w none 0 [] := ⟨rfl, Nat.zero_le _, fun k x h => by simp at h⟩
theorem len (h : Sl f w A n xs) : xs.length = n := h.1
theorem max (h : Sl f w A n xs) : n ≤ 9223372036854775807 := by have := h.2.1; unfold maxLen at this; exact this
theorem keep (h : Sl f w A n xs) (hs : w.heap.size ≤ w'.heap.size) (hk : ∀ ad, A = some ad → w'.heap[ad.block]? = w.heap[ad.block]?) : Sl f w' A n xs :=
  ⟨h.1, h.2.1, fun k x hx => by
    obtain ⟨ad, e, hb, hc⟩ := h.2.2 k x hx
    exact ⟨ad, e, Nat.lt_of_lt_of_le hb hs, (World.cell?_of_block (by rw [ad_block]; exact hk ad e)).trans hc⟩⟩
theorem below (h : Sl f w A n xs) (hb : Below w.heap.size w w') : Sl f w' A n xs :=
  ⟨h.1, h.2.1, fun k x hx => by
    obtain ⟨ad, e, hl, hc⟩ := h.2.2 k x hx
    exact ⟨ad, e, Nat.lt_of_lt_of_le hl hb.size, (World.cell?_of_block (by rw [ad_block]; exact hb.block _ hl)).trans hc⟩⟩
theorem drew (h : Sl f w A n xs) : Sl f w.drew A n xs := h
theorem drewN (h : Sl f w A n xs) (k : Nat) : Sl f (w.drewN k) A n xs := h
/-- Of a row that a call has made. -/
theorem of_own {base : Nat} {e : TypeId} {c : Nat} (h : w.ownsRow base e 1 (.slice A n c) n (xs.map f)) (hm : n ≤ maxLen) : Sl f w A n xs := by
  have hl : xs.length = n := by have := h.1; simpa using this
  refine ⟨hl, hm, fun k x hx => ?_⟩
  rcases h.2 with ⟨_, h0⟩ | ⟨g, cap, cur, hv, _⟩
  · rw [h0] at hl
    have : xs = [] := List.eq_nil_of_length_eq_zero hl
    subst this; simp at hx
  · obtain rfl : A = some ⟨g, 0, none⟩ := by injection hv
    exact ⟨_, rfl, (h.lt g rfl).2, h.cells rfl k _ (by rw [List.getElem?_map, hx]; rfl)⟩
/-- Of a block that is known whole. -/
theorem of_blk {g : Nat} {t : TypeId} (hb : Blk w g t (xs.map f).toArray) (hn : xs.length = n) (hm : n ≤ maxLen) : Sl f w (some ⟨g, 0, none⟩) n xs := by
  refine ⟨hn, hm, fun k x hx => ⟨_, rfl, hb.lt, ?_⟩⟩
  have e : (⟨g, 0, none⟩ : Addr).add k = ⟨g, k, none⟩ := by unfold Addr.add; split <;> simp_all
  rw [e, hb.cell]
  simp [hx]
end Sl


theorem own_keep {w w' : World} {base : Nat} {e : TypeId} {size n : Nat} {v : Value} {xs : List Value} (h : w.ownsRow base e size v n xs) (hk : ∀ i, v.ownBlock = some i → i < w.heap.size → w'.heap[i]? = w.heap[i]?) : w'.ownsRow base e size v n xs := by
  refine ⟨h.1, ?_⟩
  rcases h.2 with h0 | ⟨g, cap, cur, hv, hb, hgg, r⟩
  · exact .inl h0
  · exact .inr ⟨g, cap, cur, hv, hb, by rw [hk g (by rw [hv]; rfl) (Array.getElem?_eq_some_iff.1 hgg).1]; exact hgg, r⟩
theorem own_obj {w : World} {base : Nat} {e : TypeId} {size n : Nat} {v : Value} {xs : List Value} (h : w.ownsRow base e size v n xs) {i : Nat} (hi : v.ownBlock = some i) : ∃ cur, Blk w i e cur := by
  rcases h.2 with ⟨rfl, _⟩ | ⟨g, cap, cur, rfl, hb, hgg, r⟩
  · simp [Value.ownBlock] at hi
  · simp [Value.ownBlock] at hi
    subst hi
    exact ⟨cur, hgg⟩
theorem own_val {w : World} {base : Nat} {e : TypeId} {size n : Nat} {v : Value} {xs : List Value} (h : w.ownsRow base e size v n xs) : ∃ A c, v = .slice A n c ∧ n ≤ c ∧ c ≤ maxLen := by
  rcases h.2 with ⟨rfl, rfl⟩ | ⟨g, cap, cur, rfl, hb, hgg, h1, h2, _⟩
  · exact ⟨none, 0, rfl, Nat.le_refl _, Nat.zero_le _⟩
  · exact ⟨_, cap, rfl, h1, h2⟩
theorem below_grown {base : Nat} {a w : World} {row : Option Nat} (h : a.grownBy w row) (hr : ∀ i, row = some i → base ≤ i) (hs : base ≤ a.heap.size) : Below base a w :=
  ⟨h.os, h.tape, h.output, h.size, fun i hi => h.block i (by omega) (fun e => by have := hr i e.symm; omega)⟩
theorem wpList_append_cell {sl e : TypeId} {z : Value} {bytes : Nat} (hU : Tryz.prog.underlying sl = some (.slice e)) (hI : (Tryz.prog.info? e).map (fun i => (i.zero, i.size, i.bytes)) = some (some z, 1, bytes)) (hz1 : z.cells.size = 1) (hby : bytes ≤ 100)
    (w : World) {ops : Array Oper} {rest : List Oper} {o : Oper} {a : Act} {Q : Exit → Act → World → Prop} (hgd : o.guard = none) (s x : Operand)
    (ho : o.op = .call { callee := .builtin .append, args := #[s, x], argTypes := #[sl, sl] })
    (base : Nat) (v : Value) (n : Nat) (vals : List Value) (hs : a.eval s = v) (hown : w.ownsRow base e 1 v n vals)
    (g : Nat) (hx : a.eval x = .slice (some ⟨g, 0, none⟩) 1 1) (u : Value) (hcell : w.cell? ⟨g, 0, none⟩ = some u) (hu : u.oneCell' = true)
    (hn : n < 1000000000) (hbase : base ≤ w.heap.size)
    (h : ∀ P cap w', w'.ownsRow base e 1 (.slice P (n + 1) cap) (n + 1) (vals ++ [u]) → w.grownBy w' v.ownBlock → ((Value.slice P (n + 1) cap).ownBlock = v.ownBlock ∨ (Value.slice P (n + 1) cap).ownBlock = some w.heap.size) →
      wpList Tryz.prog ops Q rest (a.put o.dst (.slice P (n + 1) cap)) w') : wpList Tryz.prog ops Q (o :: rest) a w := by
  obtain ⟨i, hi⟩ : ∃ i, Tryz.prog.info? e = some i := by
    cases h : Tryz.prog.info? e with
    | none => rw [h] at hI; cases hI
    | some i => exact ⟨i, rfl⟩
  rw [hi] at hI
  simp only [Option.map_some, Option.some.injEq, Prod.mk.injEq] at hI
  obtain ⟨hz, hsz, hb⟩ := hI
  refine wpList_append_own_at w hgd s x sl ho base e i z 1 bytes hU hi hz hsz hb hz1 (by omega) v n vals hs hown ⟨g, 0, none⟩ 1 1 [u] hx rfl ?_ ?_ (by unfold maxLen; omega) ?_ hbase ?_
  · intro j y hj
    match j with
    | 0 => simp at hj; subst hj; exact hcell
    | j + 1 => simp at hj
  · intro y hy; simp at hy; subst hy; exact hu
  · have := Nat.mul_le_mul (show n + 1 ≤ 1000000000 by omega) hby
    omega
  · intro v' w' ho' hg' _ hv'
    obtain ⟨P, cap, rfl, _, _⟩ := own_val ho'
    exact h P cap w' ho' hg' hv'
theorem own_low {w : World} {base base' : Nat} {e : TypeId} {size n : Nat} {v : Value} {xs : List Value} (h : w.ownsRow base e size v n xs) (hl : base' ≤ base) : w.ownsRow base' e size v n xs := by
  refine ⟨h.1, ?_⟩
  rcases h.2 with h0 | ⟨g, cap, cur, hv, hg, r⟩
  · exact .inl h0
  · exact .inr ⟨g, cap, cur, hv, Nat.le_trans hl hg, r⟩
end Go.Proofs.YtonloefjhofeeaaGreatDoor
