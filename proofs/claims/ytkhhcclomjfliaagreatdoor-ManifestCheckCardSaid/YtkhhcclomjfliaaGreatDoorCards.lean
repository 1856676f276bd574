/-
  DERIVED. GIVEN WITH THE SEED: THE CARDS: each row of YtkhhcclomjfliaaGreatDoorRows.lean that lists a variable, with what it lists TIED to the program's text (the seventh form; the later family's looks); each row that meets fmt, with fmt's text TOLD by the authors' own Lean function (tested against real Go, not proved from fmt's source: count such statements apart). THE CARD IS WHAT COUNTS. Prove the row's statement (the work); the ties are given (YtkhhcclomjfliaaGreatDoorTie.lean); close each card by the builder's one call (the guide's Derived/Test/ToyasCard.lean, 'card_holds'). Laid BY PROGRAM, IN A SANDBOX (cutbox-door.mjs). By AI agents, Wed Nov 11 2026. No macro, syntax, notation, axiom, sorry.
-/
import Derived.Test.YtkhhcclomjfliaaGreatDoorRows
import GoSem.ClaimSeven
namespace Go.Proofs.YtkhhcclomjfliaaGreatDoor
namespace Rows

/-- THE TIED CARD OF 'lifelinelaw16.ManifestAgain'. -/
def manifestAgainCard : Claim7 := { stood := { row := manifestAgainRow, standIns := [], harness := (true, "abe7e79072383fbbd7f4cdd277e073bbf81e917548f6b16420fc02c277171297"), looks := true }, kinds := [], alts := [], laidByText := true, laidKinds := [.data, .data, .data, .data, .handle, .sentinel, .sentinel, .pinned], laidTests := true, laidLooks := .later }
def ManifestAgainCardSaid : Prop := Claim7.holds Tryz.pinned (.plain (OpenSpec.ofChange manifestAgainSpec)) manifestAgainCard

/-- THE TIED CARD OF 'lifelinelaw16.ManifestCheck'. -/
def manifestCheckCard : Claim7 := { stood := { row := manifestCheckRow, standIns := [], harness := (true, "abe7e79072383fbbd7f4cdd277e073bbf81e917548f6b16420fc02c277171297"), looks := true }, kinds := [], alts := [], laidByText := true, laidKinds := [.data, .data, .data, .data, .handle, .sentinel, .sentinel, .pinned], laidTests := true, laidLooks := .later }
def ManifestCheckCardSaid : Prop := Claim7.holds Tryz.pinned (.plain (OpenSpec.ofChange manifestCheckSpec)) manifestCheckCard

/-- THE SECOND FORM's CARD OF 'lifelinelaw16.ManifestAgain'. -/
def manifestAgainUptoCard : Claim7 := { stood := { row := manifestAgainUptoRow, standIns := [], harness := (true, "abe7e79072383fbbd7f4cdd277e073bbf81e917548f6b16420fc02c277171297"), looks := true }, kinds := [], alts := [], laidByText := true, laidKinds := [.data, .data, .data, .data, .handle, .sentinel, .sentinel, .pinned], laidTests := true, laidLooks := .later }
def ManifestAgainUptoCardSaid : Prop := Claim7.holds Tryz.pinned (.plain (OpenSpec.upto manifestAgainSpec)) manifestAgainUptoCard

/-- THE SECOND FORM's CARD OF 'lifelinelaw16.ManifestCheck'. -/
def manifestCheckUptoCard : Claim7 := { stood := { row := manifestCheckUptoRow, standIns := [], harness := (true, "abe7e79072383fbbd7f4cdd277e073bbf81e917548f6b16420fc02c277171297"), looks := true }, kinds := [], alts := [], laidByText := true, laidKinds := [.data, .data, .data, .data, .handle, .sentinel, .sentinel, .pinned], laidTests := true, laidLooks := .later }
def ManifestCheckUptoCardSaid : Prop := Claim7.holds Tryz.pinned (.plain (OpenSpec.upto manifestCheckSpec)) manifestCheckUptoCard
end Rows
end Go.Proofs.YtkhhcclomjfliaaGreatDoor
