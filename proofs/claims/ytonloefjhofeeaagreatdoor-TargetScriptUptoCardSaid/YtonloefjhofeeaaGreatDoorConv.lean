/-
  '[]byte(s)' of a string that is no constant: a new row of the call's own, its capacity drawn.
-/
import Derived.Test.YtonloefjhofeeaaGreatDoorTurn
import Derived.Laws.IdiomStrings
namespace Go.Proofs.YtonloefjhofeeaaGreatDoor
open Go.RowKit
set_option linter.unusedVariables false

structure StrRow (w w' : World) (g : Nat) (bs : List UInt8) (c : Nat) : Prop where
  below : Below w.heap.size w w'
  bys : Bys w' (g + 1) (some ⟨g, 0, none⟩) bs.length bs
  froz : ∀ j, j < bs.length → w'.frozen? ⟨g, j, none⟩ = false
  cap : bs.length ≤ c ∧ c ≤ 9223372036854775807
  lt : g < w'.heap.size
  old : g = w.heap.size
theorem run_str_bytes {P : Program} (w : World) (src dst e : TypeId) (bs : List UInt8) (hs : P.underlying src = some .string) (hd : P.underlying dst = some (.slice e)) (he : P.underlying e = some (.int .u8)) (hm : bs.length ≤ 9223372036854775807) :
    ∃ c w', (convert src dst (.string (strB bs))).run P w = .ok (.slice (some ⟨w.heap.size, 0, none⟩) bs.length c) w' ∧ StrRow w w' w.heap.size bs c := by
  have h := run_bytes_of_string (P := P) w src dst e (strB bs) hs hd he
  rw [strB_size] at h
  generalize hc : grownCap w bs.length 0 e = c at h
  have h1 : bs.length ≤ c := by rw [← hc]; exact grownCap_ge _ _ _ _
  have h2 : c ≤ maxLen := by rw [← hc]; exact grownCap_le_maxLen _ _ _ _ (by unfold maxLen; exact hm)
  refine ⟨c, _, h, ?_⟩
  have hcells : ∀ (j : Nat) (u : UInt8), bs[j]? = some u → (bytesRow (strB bs) c)[j]? = some (Value.int .u8 (u.toNat : Int)) := by
    intro j u hu
    have hj : j < bs.length := by
      rcases Nat.lt_or_ge j bs.length with h | h
      · exact h
      · rw [List.getElem?_eq_none h] at hu; cases hu
    unfold bytesRow strB
    rw [Array.getElem?_append_left (by simpa using hj)]
    simp [hu]
  have hsz : bs.length ≤ (bytesRow (strB bs) c).size := by
    unfold bytesRow strB
    simp
  have hblk : (w.drew.alloc (.cells (bytesRow (strB bs) c) e ((bytesRow (strB bs) c).size, (bytesRow (strB bs) c).size + 1))).heap[w.heap.size]? = some (.cells (bytesRow (strB bs) c) e ((bytesRow (strB bs) c).size, (bytesRow (strB bs) c).size + 1)) := heap_alloc_new w.drew _
  refine ⟨(Below.refl _ _).drew.alloc (Nat.le_refl _) _, ⟨rfl, by unfold maxLen; exact hm, fun k u hk => ⟨_, rfl, Nat.lt_succ_self _, ?_⟩⟩, fun j hj => ?_, ⟨h1, by unfold maxLen at h2; exact h2⟩, (Array.getElem?_eq_some_iff.1 hblk).1, rfl⟩
  · have e' : (⟨w.heap.size, 0, none⟩ : Addr).add k = ⟨w.heap.size, k, none⟩ := by unfold Addr.add; split <;> simp_all
    rw [e']
    have hlt := (Array.getElem?_eq_some_iff.1 (hcells k u hk)).1
    simp only [World.cell?, hblk]
    exact hcells k u hk
  · unfold World.frozen?
    rw [hblk]
    have hx : ¬ (bytesRow (strB bs) c).size ≤ j := by omega
    simp [hx]

/-- A byte of a row is stored. -/
theorem bys_set {w : World} {B g n k : Nat} {bs : List UInt8} {c : UInt8} (h : Bys w B (some ⟨g, 0, none⟩) n bs) (hc : bs[k]? = some c) (u : UInt8) :
    Bys (w.setCell ⟨g, k, none⟩ (.int .u8 (u.toNat : Int))) B (some ⟨g, 0, none⟩) n (bs.set k u) := by
  refine ⟨by rw [List.length_set]; exact h.1, h.2.1, fun j d hd => ?_⟩
  have e : ∀ j, (⟨g, 0, none⟩ : Addr).add j = ⟨g, j, none⟩ := fun j => by unfold Addr.add; split <;> simp_all
  have hk : k < bs.length := by
    rcases Nat.lt_or_ge k bs.length with h | h
    · exact h
    · rw [List.getElem?_eq_none h] at hc; cases hc
  by_cases hj : k = j
  · subst hj
    rw [List.getElem?_set_self hk] at hd
    obtain rfl := Option.some.inj hd
    obtain ⟨ad, ea, hb, hcell⟩ := h.2.2 k c hc
    obtain rfl := Option.some.inj ea
    refine ⟨_, rfl, hb, ?_⟩
    rw [e] at hcell ⊢
    exact World.cell?_setCell_same w _ _ (by rw [hcell])
  · rw [List.getElem?_set_ne hj] at hd
    obtain ⟨ad, ea, hb, hcell⟩ := h.2.2 j d hd
    obtain rfl := Option.some.inj ea
    refine ⟨_, rfl, hb, ?_⟩
    rw [e] at hcell ⊢
    rw [World.cell?_setCell_other w _ _ _ (by intro hh; injection hh with _ h2; exact hj h2)]
    exact hcell
end Go.Proofs.YtonloefjhofeeaaGreatDoor
