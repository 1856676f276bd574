/-
  DERIVED. GIVEN WITH THE SEED: THE CARDS: each row of YtgidoieppplhpaaDoorRows.lean that lists a variable, with what it lists TIED to the program's text (the seventh form; the later family's looks); each row that meets fmt, with fmt's text TOLD by the authors' own Lean function (tested against real Go, not proved from fmt's source: count such statements apart). THE CARD IS WHAT COUNTS. Prove the row's statement (the work); the ties are given (YtgidoieppplhpaaDoorTie.lean); close each card by the builder's one call (the guide's Derived/Test/ToyasCard.lean, 'card_holds'). Laid BY PROGRAM, IN A SANDBOX (cutbox-door.mjs). By AI agents, Wed Nov 11 2026. No macro, syntax, notation, axiom, sorry.
-/
import Derived.Test.YtgidoieppplhpaaDoorRows
import GoSem.ClaimSeven
namespace Go.Proofs.YtgidoieppplhpaaDoor
namespace Rows

/-- THE TIED CARD OF 'lifelinelaw09.ExpectFirst'. -/
def expectFirstCard : Claim7 := { stood := { row := expectFirstRow, standIns := [], harness := (true, "7b1a2c9de7ee61da2ab8d8e3727c292ed2c499c362995d47a7314c6cbf90bba5"), looks := true }, kinds := [], alts := [], laidByText := true, laidKinds := [.handle], laidTests := true, laidLooks := .later }
def ExpectFirstCardSaid : Prop := Claim7.holds Tryd.pinned (.plain (OpenSpec.ofChange expectFirstSpec)) expectFirstCard

/-- THE TIED CARD OF 'lifelinelaw09.ExpectWrong'. -/
def expectWrongCard : Claim7 := { stood := { row := expectWrongRow, standIns := [], harness := (true, "7b1a2c9de7ee61da2ab8d8e3727c292ed2c499c362995d47a7314c6cbf90bba5"), looks := true }, kinds := [], alts := [], laidByText := true, laidKinds := [.handle], laidTests := true, laidLooks := .later }
def ExpectWrongCardSaid : Prop := Claim7.holds Tryd.pinned (.plain (OpenSpec.ofChange expectWrongSpec)) expectWrongCard

/-- THE SECOND FORM's CARD OF 'lifelinelaw09.ExpectFirst'. -/
def expectFirstUptoCard : Claim7 := { stood := { row := expectFirstUptoRow, standIns := [], harness := (true, "7b1a2c9de7ee61da2ab8d8e3727c292ed2c499c362995d47a7314c6cbf90bba5"), looks := true }, kinds := [], alts := [], laidByText := true, laidKinds := [.handle], laidTests := true, laidLooks := .later }
def ExpectFirstUptoCardSaid : Prop := Claim7.holds Tryd.pinned (.plain (OpenSpec.upto expectFirstSpec)) expectFirstUptoCard

/-- THE SECOND FORM's CARD OF 'lifelinelaw09.ExpectWrong'. -/
def expectWrongUptoCard : Claim7 := { stood := { row := expectWrongUptoRow, standIns := [], harness := (true, "7b1a2c9de7ee61da2ab8d8e3727c292ed2c499c362995d47a7314c6cbf90bba5"), looks := true }, kinds := [], alts := [], laidByText := true, laidKinds := [.handle], laidTests := true, laidLooks := .later }
def ExpectWrongUptoCardSaid : Prop := Claim7.holds Tryd.pinned (.plain (OpenSpec.upto expectWrongSpec)) expectWrongUptoCard
end Rows
end Go.Proofs.YtgidoieppplhpaaDoor
