/-
  Two files compared.
-/
import Derived.Test.YtipajdjcmgkcbaaDoorHeaderAwake
import Derived.Laws.StructEq
import Derived.WalkKit
import Derived.ProofKit
import Derived.WalkLawsBesides
import Derived.IntWalk
import Derived.RegionTactic
import Derived.BigRegion
import Derived.ChangeAlike
import Derived.Deep.QuietTactic
import Derived.BigQuiet
import Derived.Deep.RegionHeld3
import Derived.Deep.DrawnRows
import Derived.Outline
namespace Go.Proofs.YtipajdjcmgkcbaaDoor
open Go.RowKit
set_option linter.unusedVariables false

theorem strB_inj {a b : List UInt8} (h : strB a = strB b) : a = b := by
  have := congrArg ByteArray.toList h
  rwa [strB_toList, strB_toList] at this
theorem eq_file (f g : Fl) (W : World) : (binOp .eql 23 (flV f) (flV g)).run Tryd.prog W = .ok (.bool (decide (f = g))) W := by
  obtain ⟨l, a, b, c⟩ := f
  obtain ⟨m, x, y, z⟩ := g
  unfold flV
  rw [run_eql_struct, run_equalIn_agg W 9999 23 _ _ (by kernel_rfl) (by kernel_rfl)]
  unfold flCells
  go_simp
  rw [strB_toList, strB_toList]
  by_cases h1 : l = m <;> by_cases h2 : a = x <;> by_cases h3 : b = y <;> by_cases h4 : c = z <;> simp [h1, h2, h3, h4]

/-- What lies in a file's four cells. -/
structure FileAt (w : World) (g : Nat) (f : Fl) : Prop where
  c0 : w.cell? ⟨g, 0, none⟩ = some (.string (strB f.name))
  c1 : w.cell? ⟨g, 1, none⟩ = some (.int .i64 f.size)
  c2 : w.cell? ⟨g, 2, none⟩ = some (.int .i64 f.time)
  c3 : w.cell? ⟨g, 3, none⟩ = some (.int .i64 f.mode)
theorem fileAt_blk {w : World} {g : Nat} {t : TypeId} {f : Fl} (h : Blk w g t (flCells f)) : FileAt w g f := ⟨h.cell 0, h.cell 1, h.cell 2, h.cell 3⟩
theorem FileAt.lt {w : World} {g : Nat} {f : Fl} (h : FileAt w g f) : g < w.heap.size := lt_of_cell h.c0
theorem FileAt.below {w w' : World} {B g : Nat} {f : Fl} (h : FileAt w g f) (hb : Below B w w') (hg : g < B) : FileAt w' g f :=
  ⟨(hb.cell (show g < B from hg)).trans h.c0, (hb.cell (show g < B from hg)).trans h.c1, (hb.cell (show g < B from hg)).trans h.c2, (hb.cell (show g < B from hg)).trans h.c3⟩

/-- What 'Make' answers, whatever file it is given. -/
def MakePost (w : World) (f : Fl) (e : Ending) (w' : World) : Prop :=
  (∃ A n c bs, e = .returned (.tuple #[.slice A n c, .bool (mayB f)]) ∧ Bys w' w'.heap.size A n bs ∧ n ≤ c ∧ c ≤ 128 ∧ bs = (if mayB f then encL f else [])) ∧ Below w.heap.size w w'
theorem make_any (f : Fl) (hl : f.name.length ≤ 9223372036854775807) (w : World) (hT : Tabs w) : Calls Tryd.prog 11 #[flV f] w (MakePost w f) := by
  by_cases h : mayB f = true
  · refine (hmake_ok f ((mayB_iff f).1 h) w hT).mono ?_
    rintro e w' ⟨g, rfl, hg, hk, hb⟩
    exact ⟨⟨_, 128, 128, _, by rw [h], (mk_bys hk (enc_len ((mayB_iff f).1 h))).more (by have := hk.lt; omega), Nat.le_refl _, Nat.le_refl _, by rw [if_pos h]⟩, hb⟩
  · have h' : mayB f = false := by simpa using h
    refine (hmake_none f hl h' w).mono ?_
    rintro e w' ⟨rfl, hb⟩
    exact ⟨⟨none, 0, 0, [], by rw [h'], Bys.none_, Nat.le_refl _, by omega, by rw [h']; rfl⟩, hb⟩
end Go.Proofs.YtipajdjcmgkcbaaDoor
