/-
  How many blocks were taken.
-/
import Derived.Test.YtdhipkfiigiicaaSenderOf
namespace Go.Proofs.Ytdhipkfiigiicaa
open Go.RowKit
set_option linter.unusedVariables false

theorem sent_any {G : Nat} {T W : Nat} {cl : Bool} {s : Sd} {v : Value} {w : World} (h : Blk w G 60 (sndC T W cl v s)) :
    Calls Try.prog 17 #[.pointer (some ⟨G, 0, none⟩)] w fun e w' => e = .returned (.int .i64 (s.k : Int)) ∧ w = w' := by
  have c9 : w.cell? ⟨G, 9, none⟩ = some (.int .i64 (s.k : Int)) := h.cell 9
  clear h
  go_enter Try.func17, Try.ntmps17
  go_wp2
  go_ret
  exact ⟨rfl, rfl⟩
theorem sent_sndH {w : World} {Hb G : Nat} {bl : Bks} {T W : Nat} {cl : Bool} {s : Sd} (h : SndH w Hb G bl T W cl s) :
    Calls Try.prog 17 #[.pointer (some ⟨G, 0, none⟩)] w fun e w' => e = .returned (.int .i64 (s.k : Int)) ∧ w = w' := by
  obtain ⟨⟨v, h1, h2⟩, _⟩ := h
  exact sent_any h1
theorem sent_snd {w : World} {G : Nat} {bl : Bks} {T W : Nat} {cl : Bool} {s : Sd} (h : Snd w G bl T W cl s) :
    Calls Try.prog 17 #[.pointer (some ⟨G, 0, none⟩)] w fun e w' => e = .returned (.int .i64 (s.k : Int)) ∧ w = w' := by
  obtain ⟨_, h⟩ := h
  exact sent_sndH h
end Go.Proofs.Ytdhipkfiigiicaa
