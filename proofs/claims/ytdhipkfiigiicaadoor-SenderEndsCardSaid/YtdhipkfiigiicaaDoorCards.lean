/-
  DERIVED. GIVEN WITH THE SEED: THE CARDS: each row of YtdhipkfiigiicaaDoorRows.lean that lists a variable, with what it lists TIED to the program's text (the seventh form; the later family's looks); each row that meets fmt, with fmt's text TOLD by the authors' own Lean function (tested against real Go, not proved from fmt's source: count such statements apart). THE CARD IS WHAT COUNTS. Prove the row's statement (the work); the ties are given (YtdhipkfiigiicaaDoorTie.lean); close each card by the builder's one call (the guide's Derived/Test/ToyasCard.lean, 'card_holds'). Laid BY PROGRAM, IN A SANDBOX (cutbox-door.mjs). By AI agents, Wed Nov 11 2026. No macro, syntax, notation, axiom, sorry.
-/
import Derived.Test.YtdhipkfiigiicaaDoorRows
import GoSem.ClaimSeven
namespace Go.Proofs.YtdhipkfiigiicaaDoor
namespace Rows

/-- THE TIED CARD OF 'lifelinelaw10.SenderEnds'. -/
def senderEndsCard : Claim7 := { stood := { row := senderEndsRow, standIns := [], harness := (true, "e9d470238cf8432723912625e4dff33976ac2681f5df1d63b47a09ce4e6aa050"), looks := true }, kinds := [], alts := [], laidByText := true, laidKinds := [.handle], laidTests := true, laidLooks := .later }
def SenderEndsCardSaid : Prop := Claim7.holds Tryd.pinned (.plain (OpenSpec.ofChange senderEndsSpec)) senderEndsCard

/-- THE TIED CARD OF 'lifelinelaw10.SenderCancel'. -/
def senderCancelCard : Claim7 := { stood := { row := senderCancelRow, standIns := [], harness := (true, "e9d470238cf8432723912625e4dff33976ac2681f5df1d63b47a09ce4e6aa050"), looks := true }, kinds := [], alts := [], laidByText := true, laidKinds := [.handle], laidTests := true, laidLooks := .later }
def SenderCancelCardSaid : Prop := Claim7.holds Tryd.pinned (.plain (OpenSpec.ofChange senderCancelSpec)) senderCancelCard

/-- THE SECOND FORM's CARD OF 'lifelinelaw10.SenderEnds'. -/
def senderEndsUptoCard : Claim7 := { stood := { row := senderEndsUptoRow, standIns := [], harness := (true, "e9d470238cf8432723912625e4dff33976ac2681f5df1d63b47a09ce4e6aa050"), looks := true }, kinds := [], alts := [], laidByText := true, laidKinds := [.handle], laidTests := true, laidLooks := .later }
def SenderEndsUptoCardSaid : Prop := Claim7.holds Tryd.pinned (.plain (OpenSpec.upto senderEndsSpec)) senderEndsUptoCard

/-- THE SECOND FORM's CARD OF 'lifelinelaw10.SenderCancel'. -/
def senderCancelUptoCard : Claim7 := { stood := { row := senderCancelUptoRow, standIns := [], harness := (true, "e9d470238cf8432723912625e4dff33976ac2681f5df1d63b47a09ce4e6aa050"), looks := true }, kinds := [], alts := [], laidByText := true, laidKinds := [.handle], laidTests := true, laidLooks := .later }
def SenderCancelUptoCardSaid : Prop := Claim7.holds Tryd.pinned (.plain (OpenSpec.upto senderCancelSpec)) senderCancelUptoCard
end Rows
end Go.Proofs.YtdhipkfiigiicaaDoor
