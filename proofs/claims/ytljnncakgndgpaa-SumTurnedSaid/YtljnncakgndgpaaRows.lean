/-
  No cell of these rows narrows 'for every input' (looked for: loops, veiled, ifaces, maps, wideKeys, modest, calm, conditions, laid).
  DERIVED. THE GIVEN ROWS OF THIS SEAT. 6 by the template 'for every input the law returns true; each argument reads behind the call as it read before'; 0 by the template 'total and deterministic' (their statements: YtljnncakgndgpaaTotals.lean).
  GIVEN WITH THE SEED: the statements are not yours to turn. If you find one false, say at which input.
  Laid BY PROGRAM, IN A SANDBOX (cutbox-rows.mjs): the forced cells as the released guide's own fill.sh prints them over the translation 1522bc50039d82ca… (all of the seat's roots in one cut). By AI agents, Wed Nov 11 2026. No macro, syntax, notation, axiom, sorry.
-/
import Derived.Test.YtljnncakgndgpaaChecked
import GoSem.Claim
import GoSem.ClaimJoined
import GoSem.ClaimMapViews
import Derived.JoinedTies
import Derived.KernelRfl
namespace Go.Proofs.Ytljnncakgndgpaa
/- THE CELL 'sum', in the pinned program and in every row, IS THE sha256 OF THE DUMP (.gsa) THAT YtljnncakgndgpaaProg.lean LOADS. Nothing in Lean hashes anything: it is a label: what it is worth is what the hold of that sum in a sandbox is worth. -/
noncomputable def Try.pinned : Pinned := { name := "ytljnncakgndgpaa", sum := "1522bc50039d82ca4fe06547a83787f2a7969d155008d327de4dfb3a394df4bf", checked := Try.checked }
namespace Rows
def none {H : Type} : Left H := { results := [], args := [] }

/-- 'lifelinelaw01.SumCheck': WHATEVER THE INPUT: true; the input reads as it did. -/
def sumCheckSpec : ChangeSpec := { name := "sumCheck", fn := fun _ => fun
  | [d] => { results := [.lit (.bool true)], args := [d] }
  | _ => none }
def sumCheckRow : OpenClaim := { program := "ytljnncakgndgpaa", sum := "1522bc50039d82ca4fe06547a83787f2a7969d155008d327de4dfb3a394df4bf", func := "lifeline/lifelinelaw01.SumCheck", spec := "sumCheck", apart := false }
def SumCheckSaid : Prop := sumCheckRow.holds Try.pinned (OpenSpec.ofChange sumCheckSpec)

/-- ITS FALSE NEIGHBOUR: 'it returns false'. Refute it at one input. -/
def sumCheckWrong : ChangeSpec := { name := "sumCheck", fn := fun _ => fun
  | [d] => { results := [.lit (.bool false)], args := [d] }
  | _ => none }
def SumCheckWrongFalsely : Prop := sumCheckRow.holds Try.pinned (OpenSpec.ofChange sumCheckWrong)

/-- 'lifelinelaw01.SumCrc': WHATEVER THE INPUT: true; the input reads as it did. -/
def sumCrcSpec : ChangeSpec := { name := "sumCrc", fn := fun _ => fun
  | [d] => { results := [.lit (.bool true)], args := [d] }
  | _ => none }
def sumCrcRow : OpenClaim := { program := "ytljnncakgndgpaa", sum := "1522bc50039d82ca4fe06547a83787f2a7969d155008d327de4dfb3a394df4bf", func := "lifeline/lifelinelaw01.SumCrc", spec := "sumCrc", apart := false }
def SumCrcSaid : Prop := sumCrcRow.holds Try.pinned (OpenSpec.ofChange sumCrcSpec)

/-- ITS FALSE NEIGHBOUR: 'it returns false'. Refute it at one input. -/
def sumCrcWrong : ChangeSpec := { name := "sumCrc", fn := fun _ => fun
  | [d] => { results := [.lit (.bool false)], args := [d] }
  | _ => none }
def SumCrcWrongFalsely : Prop := sumCrcRow.holds Try.pinned (OpenSpec.ofChange sumCrcWrong)

/-- 'lifelinelaw01.SumTable': WHATEVER THE INPUT: true; the input reads as it did. -/
def sumTableSpec : ChangeSpec := { name := "sumTable", fn := fun _ => fun
  | [d1, d2, d3] => { results := [.lit (.bool true)], args := [d1, d2, d3] }
  | _ => none }
def sumTableRow : OpenClaim := { program := "ytljnncakgndgpaa", sum := "1522bc50039d82ca4fe06547a83787f2a7969d155008d327de4dfb3a394df4bf", func := "lifeline/lifelinelaw01.SumTable", spec := "sumTable", apart := false }
def SumTableSaid : Prop := sumTableRow.holds Try.pinned (OpenSpec.ofChange sumTableSpec)

/-- ITS FALSE NEIGHBOUR: 'it returns false'. Refute it at one input. -/
def sumTableWrong : ChangeSpec := { name := "sumTable", fn := fun _ => fun
  | [d1, d2, d3] => { results := [.lit (.bool false)], args := [d1, d2, d3] }
  | _ => none }
def SumTableWrongFalsely : Prop := sumTableRow.holds Try.pinned (OpenSpec.ofChange sumTableWrong)

/-- 'lifelinelaw01.SumPrint': WHATEVER THE INPUT: true; the input reads as it did. -/
def sumPrintSpec : ChangeSpec := { name := "sumPrint", fn := fun _ => fun
  | [d1, d2] => { results := [.lit (.bool true)], args := [d1, d2] }
  | _ => none }
def sumPrintRow : OpenClaim := { program := "ytljnncakgndgpaa", sum := "1522bc50039d82ca4fe06547a83787f2a7969d155008d327de4dfb3a394df4bf", func := "lifeline/lifelinelaw01.SumPrint", spec := "sumPrint", apart := false }
def SumPrintSaid : Prop := sumPrintRow.holds Try.pinned (OpenSpec.ofChange sumPrintSpec)

/-- ITS FALSE NEIGHBOUR: 'it returns false'. Refute it at one input. -/
def sumPrintWrong : ChangeSpec := { name := "sumPrint", fn := fun _ => fun
  | [d1, d2] => { results := [.lit (.bool false)], args := [d1, d2] }
  | _ => none }
def SumPrintWrongFalsely : Prop := sumPrintRow.holds Try.pinned (OpenSpec.ofChange sumPrintWrong)

/-- 'lifelinelaw01.SumTurned': WHATEVER THE INPUT: true; the input reads as it did. -/
def sumTurnedSpec : ChangeSpec := { name := "sumTurned", fn := fun _ => fun
  | [d1, d2, d3] => { results := [.lit (.bool true)], args := [d1, d2, d3] }
  | _ => none }
def sumTurnedRow : OpenClaim := { program := "ytljnncakgndgpaa", sum := "1522bc50039d82ca4fe06547a83787f2a7969d155008d327de4dfb3a394df4bf", func := "lifeline/lifelinelaw01.SumTurned", spec := "sumTurned", apart := false }
def SumTurnedSaid : Prop := sumTurnedRow.holds Try.pinned (OpenSpec.ofChange sumTurnedSpec)

/-- ITS FALSE NEIGHBOUR: 'it returns false'. Refute it at one input. -/
def sumTurnedWrong : ChangeSpec := { name := "sumTurned", fn := fun _ => fun
  | [d1, d2, d3] => { results := [.lit (.bool false)], args := [d1, d2, d3] }
  | _ => none }
def SumTurnedWrongFalsely : Prop := sumTurnedRow.holds Try.pinned (OpenSpec.ofChange sumTurnedWrong)

/-- 'lifelinelaw01.SumTwo': WHATEVER THE INPUT: true; the input reads as it did. -/
def sumTwoSpec : ChangeSpec := { name := "sumTwo", fn := fun _ => fun
  | [d1, d2] => { results := [.lit (.bool true)], args := [d1, d2] }
  | _ => none }
def sumTwoRow : OpenClaim := { program := "ytljnncakgndgpaa", sum := "1522bc50039d82ca4fe06547a83787f2a7969d155008d327de4dfb3a394df4bf", func := "lifeline/lifelinelaw01.SumTwo", spec := "sumTwo", apart := false }
def SumTwoSaid : Prop := sumTwoRow.holds Try.pinned (OpenSpec.ofChange sumTwoSpec)

/-- ITS FALSE NEIGHBOUR: 'it returns false'. Refute it at one input. -/
def sumTwoWrong : ChangeSpec := { name := "sumTwo", fn := fun _ => fun
  | [d1, d2] => { results := [.lit (.bool false)], args := [d1, d2] }
  | _ => none }
def SumTwoWrongFalsely : Prop := sumTwoRow.holds Try.pinned (OpenSpec.ofChange sumTwoWrong)

/- THE SECOND FORM. 'bulk': how many values and letters a reading holds, each counted each time it is reached (what is shared counts as often as it is met; a slice's spare places count too). A statement '..UptoSaid' is the law's where the arguments, and the package variables that the reading takes, are together of bulk at most 1048576: NARROWER than '..Said'. Prove '..Said' where nothing that the law and all that it calls make is longer than what came in: it says more and counts as full. Else prove '..UptoSaid'. A law counts once. -/
mutual
def uptoBulk {H : Type} : DataW H → Nat
  | .lit (.string bytes) => bytes.length + 1
  | .lit _ => 1
  | .nil => 1
  | .ptr d => uptoBulk d + 1
  | .slice elems spare => uptoBulkAll elems + uptoBulkAll spare + 1
  | .agg parts => uptoBulkAll parts + 1
  | .iface _ d => uptoBulk d + 1
  | .map entries => uptoBulkEntries entries + 1
  | .held _ => 1
def uptoBulkAll {H : Type} : List (DataW H) → Nat
  | [] => 0
  | d :: r => uptoBulk d + uptoBulkAll r
def uptoBulkEntries {H : Type} : List (Lit × DataW H) → Nat
  | [] => 0
  | x :: r => uptoBulkEntry x + uptoBulkEntries r
def uptoBulkEntry {H : Type} : Lit × DataW H → Nat
  | (.string bytes, d) => bytes.length + uptoBulk d + 1
  | (_, d) => uptoBulk d + 1
 end
def uptoSmall : (H : Type) → List (DataW H) → Bool := fun _ ds => decide (uptoBulkAll ds ≤ 1048576)
def OpenSpec.upto (s : _root_.Go.ChangeSpec) : _root_.Go.OpenSpec := { _root_.Go.OpenSpec.ofChange s with cond := some uptoSmall }

/-- 'lifelinelaw01.SumCheck', WHERE WHAT IT READS IS OF BULK AT MOST 1048576: true; the input reads as it did. -/
def sumCheckUptoRow : OpenClaim := { program := "ytljnncakgndgpaa", sum := "1522bc50039d82ca4fe06547a83787f2a7969d155008d327de4dfb3a394df4bf", func := "lifeline/lifelinelaw01.SumCheck", spec := "sumCheck", apart := false, narrowed := true }
def SumCheckUptoSaid : Prop := sumCheckUptoRow.holds Try.pinned (OpenSpec.upto sumCheckSpec)

/-- 'lifelinelaw01.SumCrc', WHERE WHAT IT READS IS OF BULK AT MOST 1048576: true; the input reads as it did. -/
def sumCrcUptoRow : OpenClaim := { program := "ytljnncakgndgpaa", sum := "1522bc50039d82ca4fe06547a83787f2a7969d155008d327de4dfb3a394df4bf", func := "lifeline/lifelinelaw01.SumCrc", spec := "sumCrc", apart := false, narrowed := true }
def SumCrcUptoSaid : Prop := sumCrcUptoRow.holds Try.pinned (OpenSpec.upto sumCrcSpec)

/-- 'lifelinelaw01.SumTable', WHERE WHAT IT READS IS OF BULK AT MOST 1048576: true; the input reads as it did. -/
def sumTableUptoRow : OpenClaim := { program := "ytljnncakgndgpaa", sum := "1522bc50039d82ca4fe06547a83787f2a7969d155008d327de4dfb3a394df4bf", func := "lifeline/lifelinelaw01.SumTable", spec := "sumTable", apart := false, narrowed := true }
def SumTableUptoSaid : Prop := sumTableUptoRow.holds Try.pinned (OpenSpec.upto sumTableSpec)

/-- 'lifelinelaw01.SumPrint', WHERE WHAT IT READS IS OF BULK AT MOST 1048576: true; the input reads as it did. -/
def sumPrintUptoRow : OpenClaim := { program := "ytljnncakgndgpaa", sum := "1522bc50039d82ca4fe06547a83787f2a7969d155008d327de4dfb3a394df4bf", func := "lifeline/lifelinelaw01.SumPrint", spec := "sumPrint", apart := false, narrowed := true }
def SumPrintUptoSaid : Prop := sumPrintUptoRow.holds Try.pinned (OpenSpec.upto sumPrintSpec)

/-- 'lifelinelaw01.SumTurned', WHERE WHAT IT READS IS OF BULK AT MOST 1048576: true; the input reads as it did. -/
def sumTurnedUptoRow : OpenClaim := { program := "ytljnncakgndgpaa", sum := "1522bc50039d82ca4fe06547a83787f2a7969d155008d327de4dfb3a394df4bf", func := "lifeline/lifelinelaw01.SumTurned", spec := "sumTurned", apart := false, narrowed := true }
def SumTurnedUptoSaid : Prop := sumTurnedUptoRow.holds Try.pinned (OpenSpec.upto sumTurnedSpec)

/-- 'lifelinelaw01.SumTwo', WHERE WHAT IT READS IS OF BULK AT MOST 1048576: true; the input reads as it did. -/
def sumTwoUptoRow : OpenClaim := { program := "ytljnncakgndgpaa", sum := "1522bc50039d82ca4fe06547a83787f2a7969d155008d327de4dfb3a394df4bf", func := "lifeline/lifelinelaw01.SumTwo", spec := "sumTwo", apart := false, narrowed := true }
def SumTwoUptoSaid : Prop := sumTwoUptoRow.holds Try.pinned (OpenSpec.upto sumTwoSpec)

end Rows
end Go.Proofs.Ytljnncakgndgpaa
