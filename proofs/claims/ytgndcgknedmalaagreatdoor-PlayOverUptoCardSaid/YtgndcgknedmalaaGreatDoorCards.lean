/-
  DERIVED. GIVEN WITH THE SEED: THE CARDS: each row of YtgndcgknedmalaaGreatDoorRows.lean that lists a variable, with what it lists TIED to the program's text (the seventh form; the later family's looks); each row that meets fmt, with fmt's text TOLD by the authors' own Lean function (tested against real Go, not proved from fmt's source: count such statements apart). THE CARD IS WHAT COUNTS. Prove the row's statement (the work); the ties are given (YtgndcgknedmalaaGreatDoorTie.lean); close each card by the builder's one call (the guide's Derived/Test/ToyasCard.lean, 'card_holds'). Laid BY PROGRAM, IN A SANDBOX (cutbox-door.mjs). By AI agents, Wed Nov 11 2026. No macro, syntax, notation, axiom, sorry.
-/
import Derived.Test.YtgndcgknedmalaaGreatDoorRows
import GoSem.ClaimSeven
namespace Go.Proofs.YtgndcgknedmalaaGreatDoor
namespace Rows

/-- THE TIED CARD OF 'lifelinelaw18.PlayTries'. -/
def playTriesCard : Claim7 := { stood := { row := playTriesRow, standIns := [], harness := (true, "613afac92e653c0599d2ad92efcd1ba4274ec65ac2fad80d66463b20413382c9"), looks := true }, kinds := [], alts := [], laidByText := true, laidKinds := [.data, .data, .data, .data, .handle, .sentinel, .sentinel, .pinned], laidTests := true, laidLooks := .later }
def PlayTriesCardSaid : Prop := Claim7.holds Tryz.pinned (.plain (OpenSpec.ofChange playTriesSpec)) playTriesCard

/-- THE TIED CARD OF 'lifelinelaw18.PlayRound'. -/
def playRoundCard : Claim7 := { stood := { row := playRoundRow, standIns := [], harness := (true, "613afac92e653c0599d2ad92efcd1ba4274ec65ac2fad80d66463b20413382c9"), looks := true }, kinds := [], alts := [], laidByText := true, laidKinds := [.data, .data, .data, .data, .handle, .sentinel, .sentinel, .pinned], laidTests := true, laidLooks := .later }
def PlayRoundCardSaid : Prop := Claim7.holds Tryz.pinned (.plain (OpenSpec.ofChange playRoundSpec)) playRoundCard

/-- THE TIED CARD OF 'lifelinelaw18.PlayHears'. -/
def playHearsCard : Claim7 := { stood := { row := playHearsRow, standIns := [], harness := (true, "613afac92e653c0599d2ad92efcd1ba4274ec65ac2fad80d66463b20413382c9"), looks := true }, kinds := [], alts := [], laidByText := true, laidKinds := [.data, .data, .data, .data, .handle, .sentinel, .sentinel, .pinned], laidTests := true, laidLooks := .later }
def PlayHearsCardSaid : Prop := Claim7.holds Tryz.pinned (.plain (OpenSpec.ofChange playHearsSpec)) playHearsCard

/-- THE TIED CARD OF 'lifelinelaw18.PlayOver'. -/
def playOverCard : Claim7 := { stood := { row := playOverRow, standIns := [], harness := (true, "613afac92e653c0599d2ad92efcd1ba4274ec65ac2fad80d66463b20413382c9"), looks := true }, kinds := [], alts := [], laidByText := true, laidKinds := [.data, .data, .data, .data, .handle, .sentinel, .sentinel, .pinned], laidTests := true, laidLooks := .later }
def PlayOverCardSaid : Prop := Claim7.holds Tryz.pinned (.plain (OpenSpec.ofChange playOverSpec)) playOverCard

/-- THE SECOND FORM's CARD OF 'lifelinelaw18.PlayTries'. -/
def playTriesUptoCard : Claim7 := { stood := { row := playTriesUptoRow, standIns := [], harness := (true, "613afac92e653c0599d2ad92efcd1ba4274ec65ac2fad80d66463b20413382c9"), looks := true }, kinds := [], alts := [], laidByText := true, laidKinds := [.data, .data, .data, .data, .handle, .sentinel, .sentinel, .pinned], laidTests := true, laidLooks := .later }
def PlayTriesUptoCardSaid : Prop := Claim7.holds Tryz.pinned (.plain (OpenSpec.upto playTriesSpec)) playTriesUptoCard

/-- THE SECOND FORM's CARD OF 'lifelinelaw18.PlayRound'. -/
def playRoundUptoCard : Claim7 := { stood := { row := playRoundUptoRow, standIns := [], harness := (true, "613afac92e653c0599d2ad92efcd1ba4274ec65ac2fad80d66463b20413382c9"), looks := true }, kinds := [], alts := [], laidByText := true, laidKinds := [.data, .data, .data, .data, .handle, .sentinel, .sentinel, .pinned], laidTests := true, laidLooks := .later }
def PlayRoundUptoCardSaid : Prop := Claim7.holds Tryz.pinned (.plain (OpenSpec.upto playRoundSpec)) playRoundUptoCard

/-- THE SECOND FORM's CARD OF 'lifelinelaw18.PlayHears'. -/
def playHearsUptoCard : Claim7 := { stood := { row := playHearsUptoRow, standIns := [], harness := (true, "613afac92e653c0599d2ad92efcd1ba4274ec65ac2fad80d66463b20413382c9"), looks := true }, kinds := [], alts := [], laidByText := true, laidKinds := [.data, .data, .data, .data, .handle, .sentinel, .sentinel, .pinned], laidTests := true, laidLooks := .later }
def PlayHearsUptoCardSaid : Prop := Claim7.holds Tryz.pinned (.plain (OpenSpec.upto playHearsSpec)) playHearsUptoCard

/-- THE SECOND FORM's CARD OF 'lifelinelaw18.PlayOver'. -/
def playOverUptoCard : Claim7 := { stood := { row := playOverUptoRow, standIns := [], harness := (true, "613afac92e653c0599d2ad92efcd1ba4274ec65ac2fad80d66463b20413382c9"), looks := true }, kinds := [], alts := [], laidByText := true, laidKinds := [.data, .data, .data, .data, .handle, .sentinel, .sentinel, .pinned], laidTests := true, laidLooks := .later }
def PlayOverUptoCardSaid : Prop := Claim7.holds Tryz.pinned (.plain (OpenSpec.upto playOverSpec)) playOverUptoCard
end Rows
end Go.Proofs.YtgndcgknedmalaaGreatDoor
