/-
  Tokens that are read, from an address on; an error or none as a value.
-/
import Derived.Test.YtgndcgknedmalaaGreatDoorTokenRows
import Derived.Test.YtgndcgknedmalaaGreatDoorErrWrap
namespace Go.Proofs.YtgndcgknedmalaaGreatDoor
open Go.RowKit
set_option linter.unusedVariables false

/-- Tokens that are read, from an address on. -/
def TkA (w : World) (ad : Addr) (ts : List Tk) : Prop := ∀ (j : Nat) (z : Tk), ts[j]? = some z → ad.block < w.heap.size ∧ w.cell? (ad.add (j * 4)) = some (.int .i64 (z.kind : Int)) ∧ w.cell? ⟨(ad.add (j * 4)).block, (ad.add (j * 4)).off + 1, none⟩ = some (.string (strB z.text)) ∧
  w.cell? ⟨(ad.add (j * 4)).block, (ad.add (j * 4)).off + 2, none⟩ = some (.int .i64 (z.val : Int)) ∧ w.cell? ⟨(ad.add (j * 4)).block, (ad.add (j * 4)).off + 3, none⟩ = some (.int .i64 (z.pos : Int))
theorem TkA.below {w w' : World} {B : Nat} {ad : Addr} {ts : List Tk} (h : TkA w ad ts) (hb : Below B w w') (hB : w.heap.size ≤ B) : TkA w' ad ts := fun j z hz => by
  obtain ⟨h0, h1, h2, h3, h4⟩ := h j z hz
  exact ⟨Nat.lt_of_lt_of_le h0 hb.size, (hb.cell (by rw [ad_block]; omega)).trans h1, (hb.cell (by show (ad.add _).block < B; rw [ad_block]; omega)).trans h2, (hb.cell (by show (ad.add _).block < B; rw [ad_block]; omega)).trans h3, (hb.cell (by show (ad.add _).block < B; rw [ad_block]; omega)).trans h4⟩
theorem TkS.tka {w : World} {g : Nat} {ts : List Tk} (h : TkS w g ts) (k : Nat) : TkA w ⟨g, k * 4, none⟩ (ts.drop k) := fun j z hz => by
  rw [List.getElem?_drop] at hz
  obtain ⟨h0, h1, h2, h3⟩ := h.at_ _ z hz
  have e : (⟨g, k * 4, none⟩ : Addr).add (j * 4) = ⟨g, (k + j) * 4, none⟩ := by
    unfold Addr.add
    split
    · rw [show k * 4 = (k + j) * 4 by omega]
    · rw [show k * 4 + j * 4 = (k + j) * 4 by omega]
  rw [e]
  exact ⟨h.lt, h0, h1, h2, h3⟩
def errM (x : Option (Nat × Nat)) : Value := match x with
  | none => .nilIface
  | some x => faultV (x.1 : Int) (x.2 : Int)
end Go.Proofs.YtgndcgknedmalaaGreatDoor
