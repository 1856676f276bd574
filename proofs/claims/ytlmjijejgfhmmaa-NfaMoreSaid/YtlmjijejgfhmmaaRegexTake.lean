/-
  The reader of patterns: a byte is taken, a piece's end, a letter.
-/
import Derived.Test.YtlmjijejgfhmmaaRegexRead
import Derived.WalkKit
import Derived.ProofKit
import Derived.WalkLawsBesides
import Derived.IntWalk
import Derived.RegionTactic
import Derived.BigRegion
import Derived.ChangeAlike
import Derived.Deep.QuietTactic
import Derived.BigQuiet
import Derived.Deep.RegionHeld3
import Derived.Deep.DrawnRows
import Derived.Outline
namespace Go.Proofs.Ytlmjijejgfhmmaa
open Go.RowKit
set_option linter.unusedVariables false

def TakePost (g : Nat) (bs : List UInt8) (d : Nat) (c : UInt8) (r : List UInt8) (w : World) (e : Ending) (w' : World) : Prop :=
  e = .returned (.bool (nx c r)) ∧ Went g bs d (if nx c r then r.tail else r) w w'
set_option maxHeartbeats 4000000 in
theorem take_any {g i d : Nat} {bs : List UInt8} {w : World} (h : Ps w g bs i d) (k : Int) (c : UInt8) (hk : k = (c.toNat : Int)) :
    Calls Try.prog 42 #[.pointer (some ⟨g, 0, none⟩), .int .u8 k] w (TakePost g bs d c (bs.drop i) w) := by
  have HN := keepHid (next_any h k c hk)
  have HP := keepHid h
  have hle := h.le
  have hmx := h.max
  have hlt : nx c (bs.drop i) = true → i < bs.length := fun hn => by
    rcases Nat.lt_or_ge i bs.length with hl | hl
    · exact hl
    · rw [List.drop_eq_nil_of_le hl] at hn; cases hn
  have htl : (bs.drop i).tail = bs.drop (i + 1) := by rw [List.tail_drop]
  obtain ⟨b, hb⟩ : ∃ b, nx c (bs.drop i) = b := ⟨_, rfl⟩
  unfold TakePost
  rw [hb] at HN hlt ⊢
  rw [htl]
  clear hb htl h hk
  cases b
  · go_enter Try.func42, Try.ntmps42
    go_wp2_with fail
    refine HN.out.mono ?_
    rintro e w' ⟨rfl, m, rfl⟩
    go_wp2
    go_ret
    exact ⟨rfl, went_of_drew HP.out⟩
  · have hlt' := hlt rfl
    clear hlt
    go_enter Try.func42, Try.ntmps42
    go_wp2_with fail
    refine HN.out.mono ?_
    rintro e w' ⟨rfl, m, rfl⟩
    have HP1 := keepHid (HP.out.drewN m)
    have HO1 := keepHid ((Only.refl w g).drewN m)
    generalize w.drewN m = w1 at *
    obtain ⟨c0, c1, c2, cf⟩ := HP1.out.cells
    go_wp2
    go_ret
    refine ⟨rfl, ⟨i + 1, rfl, ?_⟩, HO1.out.setCell (.inl rfl) _⟩
    have := HP1.out.put (i + 1) hlt'
    simpa using this
end Go.Proofs.Ytlmjijejgfhmmaa
