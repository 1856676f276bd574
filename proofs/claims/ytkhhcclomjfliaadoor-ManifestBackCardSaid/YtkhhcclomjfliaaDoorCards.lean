/-
  DERIVED. GIVEN WITH THE SEED: THE CARDS: each row of YtkhhcclomjfliaaDoorRows.lean that lists a variable, with what it lists TIED to the program's text (the seventh form; the later family's looks); each row that meets fmt, with fmt's text TOLD by the authors' own Lean function (tested against real Go, not proved from fmt's source: count such statements apart). THE CARD IS WHAT COUNTS. Prove the row's statement (the work); the ties are given (YtkhhcclomjfliaaDoorTie.lean); close each card by the builder's one call (the guide's Derived/Test/ToyasCard.lean, 'card_holds'). Laid BY PROGRAM, IN A SANDBOX (cutbox-door.mjs). By AI agents, Wed Nov 11 2026. No macro, syntax, notation, axiom, sorry.
-/
import Derived.Test.YtkhhcclomjfliaaDoorRows
import GoSem.ClaimSeven
namespace Go.Proofs.YtkhhcclomjfliaaDoor
namespace Rows

/-- THE TIED CARD OF 'lifelinelaw16.ManifestBack'. -/
def manifestBackCard : Claim7 := { stood := { row := manifestBackRow, standIns := [], harness := (true, "a7ef8e9cd870febd53c6befafea8c333b7e0f822b0c9e2913b3adfeb6b742c99"), looks := true }, kinds := [], alts := [], laidByText := true, laidKinds := [.data, .data, .data, .data, .sentinel, .sentinel, .pinned], laidTests := true, laidLooks := .later }
def ManifestBackCardSaid : Prop := Claim7.holds Tryd.pinned (.plain (OpenSpec.ofChange manifestBackSpec)) manifestBackCard

/-- THE TIED CARD OF 'lifelinelaw16.ManifestText'. -/
def manifestTextCard : Claim7 := { stood := { row := manifestTextRow, standIns := [], harness := (true, "a7ef8e9cd870febd53c6befafea8c333b7e0f822b0c9e2913b3adfeb6b742c99"), looks := true }, kinds := [], alts := [], laidByText := true, laidKinds := [.data, .data, .data, .data, .sentinel, .sentinel, .pinned], laidTests := true, laidLooks := .later }
def ManifestTextCardSaid : Prop := Claim7.holds Tryd.pinned (.plain (OpenSpec.ofChange manifestTextSpec)) manifestTextCard

/-- THE TIED CARD OF 'lifelinelaw16.ManifestRoom'. -/
def manifestRoomCard : Claim7 := { stood := { row := manifestRoomRow, standIns := [], harness := (true, "a7ef8e9cd870febd53c6befafea8c333b7e0f822b0c9e2913b3adfeb6b742c99"), looks := true }, kinds := [], alts := [], laidByText := true, laidKinds := [.data, .data, .data, .data, .sentinel, .sentinel, .pinned], laidTests := true, laidLooks := .later }
def ManifestRoomCardSaid : Prop := Claim7.holds Tryd.pinned (.plain (OpenSpec.ofChange manifestRoomSpec)) manifestRoomCard

/-- THE TIED CARD OF 'lifelinelaw16.ManifestCut'. -/
def manifestCutCard : Claim7 := { stood := { row := manifestCutRow, standIns := [], harness := (true, "a7ef8e9cd870febd53c6befafea8c333b7e0f822b0c9e2913b3adfeb6b742c99"), looks := true }, kinds := [], alts := [], laidByText := true, laidKinds := [.data, .data, .data, .data, .sentinel, .sentinel, .pinned], laidTests := true, laidLooks := .later }
def ManifestCutCardSaid : Prop := Claim7.holds Tryd.pinned (.plain (OpenSpec.ofChange manifestCutSpec)) manifestCutCard

/-- THE SECOND FORM's CARD OF 'lifelinelaw16.ManifestBack'. -/
def manifestBackUptoCard : Claim7 := { stood := { row := manifestBackUptoRow, standIns := [], harness := (true, "a7ef8e9cd870febd53c6befafea8c333b7e0f822b0c9e2913b3adfeb6b742c99"), looks := true }, kinds := [], alts := [], laidByText := true, laidKinds := [.data, .data, .data, .data, .sentinel, .sentinel, .pinned], laidTests := true, laidLooks := .later }
def ManifestBackUptoCardSaid : Prop := Claim7.holds Tryd.pinned (.plain (OpenSpec.upto manifestBackSpec)) manifestBackUptoCard

/-- THE SECOND FORM's CARD OF 'lifelinelaw16.ManifestText'. -/
def manifestTextUptoCard : Claim7 := { stood := { row := manifestTextUptoRow, standIns := [], harness := (true, "a7ef8e9cd870febd53c6befafea8c333b7e0f822b0c9e2913b3adfeb6b742c99"), looks := true }, kinds := [], alts := [], laidByText := true, laidKinds := [.data, .data, .data, .data, .sentinel, .sentinel, .pinned], laidTests := true, laidLooks := .later }
def ManifestTextUptoCardSaid : Prop := Claim7.holds Tryd.pinned (.plain (OpenSpec.upto manifestTextSpec)) manifestTextUptoCard

/-- THE SECOND FORM's CARD OF 'lifelinelaw16.ManifestRoom'. -/
def manifestRoomUptoCard : Claim7 := { stood := { row := manifestRoomUptoRow, standIns := [], harness := (true, "a7ef8e9cd870febd53c6befafea8c333b7e0f822b0c9e2913b3adfeb6b742c99"), looks := true }, kinds := [], alts := [], laidByText := true, laidKinds := [.data, .data, .data, .data, .sentinel, .sentinel, .pinned], laidTests := true, laidLooks := .later }
def ManifestRoomUptoCardSaid : Prop := Claim7.holds Tryd.pinned (.plain (OpenSpec.upto manifestRoomSpec)) manifestRoomUptoCard

/-- THE SECOND FORM's CARD OF 'lifelinelaw16.ManifestCut'. -/
def manifestCutUptoCard : Claim7 := { stood := { row := manifestCutUptoRow, standIns := [], harness := (true, "a7ef8e9cd870febd53c6befafea8c333b7e0f822b0c9e2913b3adfeb6b742c99"), looks := true }, kinds := [], alts := [], laidByText := true, laidKinds := [.data, .data, .data, .data, .sentinel, .sentinel, .pinned], laidTests := true, laidLooks := .later }
def ManifestCutUptoCardSaid : Prop := Claim7.holds Tryd.pinned (.plain (OpenSpec.upto manifestCutSpec)) manifestCutUptoCard
end Rows
end Go.Proofs.YtkhhcclomjfliaaDoor
