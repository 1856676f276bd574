/-
  DERIVED. GIVEN WITH THE SEED: THE CARDS: each row of YtjdjbdedfohfbaaDoorRows.lean that lists a variable, with what it lists TIED to the program's text (the seventh form; the later family's looks); each row that meets fmt, with fmt's text TOLD by the authors' own Lean function (tested against real Go, not proved from fmt's source: count such statements apart). THE CARD IS WHAT COUNTS. Prove the row's statement (the work); the ties are given (YtjdjbdedfohfbaaDoorTie.lean); close each card by the builder's one call (the guide's Derived/Test/ToyasCard.lean, 'card_holds'). Laid BY PROGRAM, IN A SANDBOX (cutbox-door.mjs). By AI agents, Wed Nov 11 2026. No macro, syntax, notation, axiom, sorry.
-/
import Derived.Test.YtjdjbdedfohfbaaDoorRows
import GoSem.ClaimSeven
namespace Go.Proofs.YtjdjbdedfohfbaaDoor
namespace Rows

/-- THE TIED CARD OF 'lifelinelaw11.ReceiverAsks'. -/
def receiverAsksCard : Claim7 := { stood := { row := receiverAsksRow, standIns := [], harness := (true, "74b351cec0dd47b0b034431e07350402fbf9b15c2d3288ab08c778fd4b0bb2a3"), looks := true }, kinds := [], alts := [], laidByText := true, laidKinds := [.handle], laidTests := true, laidLooks := .later }
def ReceiverAsksCardSaid : Prop := Claim7.holds Tryd.pinned (.plain (OpenSpec.ofChange receiverAsksSpec)) receiverAsksCard

/-- THE TIED CARD OF 'lifelinelaw11.ReceiverCancel'. -/
def receiverCancelCard : Claim7 := { stood := { row := receiverCancelRow, standIns := [], harness := (true, "74b351cec0dd47b0b034431e07350402fbf9b15c2d3288ab08c778fd4b0bb2a3"), looks := true }, kinds := [], alts := [], laidByText := true, laidKinds := [.handle], laidTests := true, laidLooks := .later }
def ReceiverCancelCardSaid : Prop := Claim7.holds Tryd.pinned (.plain (OpenSpec.ofChange receiverCancelSpec)) receiverCancelCard

/-- THE SECOND FORM's CARD OF 'lifelinelaw11.ReceiverAsks'. -/
def receiverAsksUptoCard : Claim7 := { stood := { row := receiverAsksUptoRow, standIns := [], harness := (true, "74b351cec0dd47b0b034431e07350402fbf9b15c2d3288ab08c778fd4b0bb2a3"), looks := true }, kinds := [], alts := [], laidByText := true, laidKinds := [.handle], laidTests := true, laidLooks := .later }
def ReceiverAsksUptoCardSaid : Prop := Claim7.holds Tryd.pinned (.plain (OpenSpec.upto receiverAsksSpec)) receiverAsksUptoCard

/-- THE SECOND FORM's CARD OF 'lifelinelaw11.ReceiverCancel'. -/
def receiverCancelUptoCard : Claim7 := { stood := { row := receiverCancelUptoRow, standIns := [], harness := (true, "74b351cec0dd47b0b034431e07350402fbf9b15c2d3288ab08c778fd4b0bb2a3"), looks := true }, kinds := [], alts := [], laidByText := true, laidKinds := [.handle], laidTests := true, laidLooks := .later }
def ReceiverCancelUptoCardSaid : Prop := Claim7.holds Tryd.pinned (.plain (OpenSpec.upto receiverCancelSpec)) receiverCancelUptoCard
end Rows
end Go.Proofs.YtjdjbdedfohfbaaDoor
