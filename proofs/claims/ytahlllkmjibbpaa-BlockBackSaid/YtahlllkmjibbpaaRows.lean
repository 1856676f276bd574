/-
  No cell of these rows narrows 'for every input' (looked for: loops, veiled, ifaces, maps, wideKeys, modest, calm, conditions, laid).
  DERIVED. THE GIVEN ROWS OF THIS SEAT. 7 by the template 'for every input the law returns true; each argument reads behind the call as it read before'; 0 by the template 'total and deterministic' (their statements: YtahlllkmjibbpaaTotals.lean).
  GIVEN WITH THE SEED: the statements are not yours to turn. If you find one false, say at which input.
  Laid BY PROGRAM, IN A SANDBOX (cutbox-rows.mjs): the forced cells as the released guide's own fill.sh prints them over the translation cd6d4d8305a31bef… (all of the seat's roots in one cut). By AI agents, Wed Nov 11 2026. No macro, syntax, notation, axiom, sorry.
-/
import Derived.Test.YtahlllkmjibbpaaChecked
import GoSem.Claim
import GoSem.ClaimJoined
import GoSem.ClaimMapViews
import Derived.JoinedTies
import Derived.KernelRfl
namespace Go.Proofs.Ytahlllkmjibbpaa
/- THE CELL 'sum', in the pinned program and in every row, IS THE sha256 OF THE DUMP (.gsa) THAT YtahlllkmjibbpaaProg.lean LOADS. Nothing in Lean hashes anything: it is a label: what it is worth is what the hold of that sum in a sandbox is worth. -/
noncomputable def Try.pinned : Pinned := { name := "ytahlllkmjibbpaa", sum := "cd6d4d8305a31bef842a3a86dd520732f835310bbdc4f92a8cd4bcc37867bc96", checked := Try.checked }
namespace Rows
def none {H : Type} : Left H := { results := [], args := [] }

/-- 'lifelinelaw04.BlockMake': WHATEVER THE INPUT: true; the input reads as it did. -/
def blockMakeSpec : ChangeSpec := { name := "blockMake", fn := fun _ => fun
  | [d1, d2, d3, d4] => { results := [.lit (.bool true)], args := [d1, d2, d3, d4] }
  | _ => none }
def blockMakeRow : OpenClaim := { program := "ytahlllkmjibbpaa", sum := "cd6d4d8305a31bef842a3a86dd520732f835310bbdc4f92a8cd4bcc37867bc96", func := "lifeline/lifelinelaw04.BlockMake", spec := "blockMake", apart := false }
def BlockMakeSaid : Prop := blockMakeRow.holds Try.pinned (OpenSpec.ofChange blockMakeSpec)

/-- ITS FALSE NEIGHBOUR: 'it returns false'. Refute it at one input. -/
def blockMakeWrong : ChangeSpec := { name := "blockMake", fn := fun _ => fun
  | [d1, d2, d3, d4] => { results := [.lit (.bool false)], args := [d1, d2, d3, d4] }
  | _ => none }
def BlockMakeWrongFalsely : Prop := blockMakeRow.holds Try.pinned (OpenSpec.ofChange blockMakeWrong)

/-- 'lifelinelaw04.BlockScan': WHATEVER THE INPUT: true; the input reads as it did. -/
def blockScanSpec : ChangeSpec := { name := "blockScan", fn := fun _ => fun
  | [d1, d2, d3, d4, d5, d6] => { results := [.lit (.bool true)], args := [d1, d2, d3, d4, d5, d6] }
  | _ => none }
def blockScanRow : OpenClaim := { program := "ytahlllkmjibbpaa", sum := "cd6d4d8305a31bef842a3a86dd520732f835310bbdc4f92a8cd4bcc37867bc96", func := "lifeline/lifelinelaw04.BlockScan", spec := "blockScan", apart := false }
def BlockScanSaid : Prop := blockScanRow.holds Try.pinned (OpenSpec.ofChange blockScanSpec)

/-- ITS FALSE NEIGHBOUR: 'it returns false'. Refute it at one input. -/
def blockScanWrong : ChangeSpec := { name := "blockScan", fn := fun _ => fun
  | [d1, d2, d3, d4, d5, d6] => { results := [.lit (.bool false)], args := [d1, d2, d3, d4, d5, d6] }
  | _ => none }
def BlockScanWrongFalsely : Prop := blockScanRow.holds Try.pinned (OpenSpec.ofChange blockScanWrong)

/-- 'lifelinelaw04.BlockTurned': WHATEVER THE INPUT: true; the input reads as it did. -/
def blockTurnedSpec : ChangeSpec := { name := "blockTurned", fn := fun _ => fun
  | [d1, d2, d3, d4, d5, d6] => { results := [.lit (.bool true)], args := [d1, d2, d3, d4, d5, d6] }
  | _ => none }
def blockTurnedRow : OpenClaim := { program := "ytahlllkmjibbpaa", sum := "cd6d4d8305a31bef842a3a86dd520732f835310bbdc4f92a8cd4bcc37867bc96", func := "lifeline/lifelinelaw04.BlockTurned", spec := "blockTurned", apart := false }
def BlockTurnedSaid : Prop := blockTurnedRow.holds Try.pinned (OpenSpec.ofChange blockTurnedSpec)

/-- ITS FALSE NEIGHBOUR: 'it returns false'. Refute it at one input. -/
def blockTurnedWrong : ChangeSpec := { name := "blockTurned", fn := fun _ => fun
  | [d1, d2, d3, d4, d5, d6] => { results := [.lit (.bool false)], args := [d1, d2, d3, d4, d5, d6] }
  | _ => none }
def BlockTurnedWrongFalsely : Prop := blockTurnedRow.holds Try.pinned (OpenSpec.ofChange blockTurnedWrong)

/-- 'lifelinelaw04.BlockAny': WHATEVER THE INPUT: true; the input reads as it did. -/
def blockAnySpec : ChangeSpec := { name := "blockAny", fn := fun _ => fun
  | [d1, d2] => { results := [.lit (.bool true)], args := [d1, d2] }
  | _ => none }
def blockAnyRow : OpenClaim := { program := "ytahlllkmjibbpaa", sum := "cd6d4d8305a31bef842a3a86dd520732f835310bbdc4f92a8cd4bcc37867bc96", func := "lifeline/lifelinelaw04.BlockAny", spec := "blockAny", apart := false }
def BlockAnySaid : Prop := blockAnyRow.holds Try.pinned (OpenSpec.ofChange blockAnySpec)

/-- ITS FALSE NEIGHBOUR: 'it returns false'. Refute it at one input. -/
def blockAnyWrong : ChangeSpec := { name := "blockAny", fn := fun _ => fun
  | [d1, d2] => { results := [.lit (.bool false)], args := [d1, d2] }
  | _ => none }
def BlockAnyWrongFalsely : Prop := blockAnyRow.holds Try.pinned (OpenSpec.ofChange blockAnyWrong)

/-- 'lifelinelaw04.BlockSplit': WHATEVER THE INPUT: true; the input reads as it did. -/
def blockSplitSpec : ChangeSpec := { name := "blockSplit", fn := fun _ => fun
  | [d1, d2, d3] => { results := [.lit (.bool true)], args := [d1, d2, d3] }
  | _ => none }
def blockSplitRow : OpenClaim := { program := "ytahlllkmjibbpaa", sum := "cd6d4d8305a31bef842a3a86dd520732f835310bbdc4f92a8cd4bcc37867bc96", func := "lifeline/lifelinelaw04.BlockSplit", spec := "blockSplit", apart := false }
def BlockSplitSaid : Prop := blockSplitRow.holds Try.pinned (OpenSpec.ofChange blockSplitSpec)

/-- ITS FALSE NEIGHBOUR: 'it returns false'. Refute it at one input. -/
def blockSplitWrong : ChangeSpec := { name := "blockSplit", fn := fun _ => fun
  | [d1, d2, d3] => { results := [.lit (.bool false)], args := [d1, d2, d3] }
  | _ => none }
def BlockSplitWrongFalsely : Prop := blockSplitRow.holds Try.pinned (OpenSpec.ofChange blockSplitWrong)

/-- 'lifelinelaw04.BlockWhole': WHATEVER THE INPUT: true; the input reads as it did. -/
def blockWholeSpec : ChangeSpec := { name := "blockWhole", fn := fun _ => fun
  | [d1, d2] => { results := [.lit (.bool true)], args := [d1, d2] }
  | _ => none }
def blockWholeRow : OpenClaim := { program := "ytahlllkmjibbpaa", sum := "cd6d4d8305a31bef842a3a86dd520732f835310bbdc4f92a8cd4bcc37867bc96", func := "lifeline/lifelinelaw04.BlockWhole", spec := "blockWhole", apart := false }
def BlockWholeSaid : Prop := blockWholeRow.holds Try.pinned (OpenSpec.ofChange blockWholeSpec)

/-- ITS FALSE NEIGHBOUR: 'it returns false'. Refute it at one input. -/
def blockWholeWrong : ChangeSpec := { name := "blockWhole", fn := fun _ => fun
  | [d1, d2] => { results := [.lit (.bool false)], args := [d1, d2] }
  | _ => none }
def BlockWholeWrongFalsely : Prop := blockWholeRow.holds Try.pinned (OpenSpec.ofChange blockWholeWrong)

/-- 'lifelinelaw04.BlockBack': WHATEVER THE INPUT: true; the input reads as it did. -/
def blockBackSpec : ChangeSpec := { name := "blockBack", fn := fun _ => fun
  | [d] => { results := [.lit (.bool true)], args := [d] }
  | _ => none }
def blockBackRow : OpenClaim := { program := "ytahlllkmjibbpaa", sum := "cd6d4d8305a31bef842a3a86dd520732f835310bbdc4f92a8cd4bcc37867bc96", func := "lifeline/lifelinelaw04.BlockBack", spec := "blockBack", apart := false }
def BlockBackSaid : Prop := blockBackRow.holds Try.pinned (OpenSpec.ofChange blockBackSpec)

/-- ITS FALSE NEIGHBOUR: 'it returns false'. Refute it at one input. -/
def blockBackWrong : ChangeSpec := { name := "blockBack", fn := fun _ => fun
  | [d] => { results := [.lit (.bool false)], args := [d] }
  | _ => none }
def BlockBackWrongFalsely : Prop := blockBackRow.holds Try.pinned (OpenSpec.ofChange blockBackWrong)

/- THE SECOND FORM. 'bulk': how many values and letters a reading holds, each counted each time it is reached (what is shared counts as often as it is met; a slice's spare places count too). A statement '..UptoSaid' is the law's where the arguments, and the package variables that the reading takes, are together of bulk at most 1048576: NARROWER than '..Said'. Prove '..Said' where nothing that the law and all that it calls make is longer than what came in: it says more and counts as full. Else prove '..UptoSaid'. A law counts once. -/
mutual
def uptoBulk {H : Type} : DataW H → Nat
  | .lit (.string bytes) => bytes.length + 1
  | .lit _ => 1
  | .nil => 1
  | .ptr d => uptoBulk d + 1
  | .slice elems spare => uptoBulkAll elems + uptoBulkAll spare + 1
  | .agg parts => uptoBulkAll parts + 1
  | .iface _ d => uptoBulk d + 1
  | .map entries => uptoBulkEntries entries + 1
  | .held _ => 1
def uptoBulkAll {H : Type} : List (DataW H) → Nat
  | [] => 0
  | d :: r => uptoBulk d + uptoBulkAll r
def uptoBulkEntries {H : Type} : List (Lit × DataW H) → Nat
  | [] => 0
  | x :: r => uptoBulkEntry x + uptoBulkEntries r
def uptoBulkEntry {H : Type} : Lit × DataW H → Nat
  | (.string bytes, d) => bytes.length + uptoBulk d + 1
  | (_, d) => uptoBulk d + 1
 end
def uptoSmall : (H : Type) → List (DataW H) → Bool := fun _ ds => decide (uptoBulkAll ds ≤ 1048576)
def OpenSpec.upto (s : _root_.Go.ChangeSpec) : _root_.Go.OpenSpec := { _root_.Go.OpenSpec.ofChange s with cond := some uptoSmall }

/-- 'lifelinelaw04.BlockMake', WHERE WHAT IT READS IS OF BULK AT MOST 1048576: true; the input reads as it did. -/
def blockMakeUptoRow : OpenClaim := { program := "ytahlllkmjibbpaa", sum := "cd6d4d8305a31bef842a3a86dd520732f835310bbdc4f92a8cd4bcc37867bc96", func := "lifeline/lifelinelaw04.BlockMake", spec := "blockMake", apart := false, narrowed := true }
def BlockMakeUptoSaid : Prop := blockMakeUptoRow.holds Try.pinned (OpenSpec.upto blockMakeSpec)

/-- 'lifelinelaw04.BlockScan', WHERE WHAT IT READS IS OF BULK AT MOST 1048576: true; the input reads as it did. -/
def blockScanUptoRow : OpenClaim := { program := "ytahlllkmjibbpaa", sum := "cd6d4d8305a31bef842a3a86dd520732f835310bbdc4f92a8cd4bcc37867bc96", func := "lifeline/lifelinelaw04.BlockScan", spec := "blockScan", apart := false, narrowed := true }
def BlockScanUptoSaid : Prop := blockScanUptoRow.holds Try.pinned (OpenSpec.upto blockScanSpec)

/-- 'lifelinelaw04.BlockTurned', WHERE WHAT IT READS IS OF BULK AT MOST 1048576: true; the input reads as it did. -/
def blockTurnedUptoRow : OpenClaim := { program := "ytahlllkmjibbpaa", sum := "cd6d4d8305a31bef842a3a86dd520732f835310bbdc4f92a8cd4bcc37867bc96", func := "lifeline/lifelinelaw04.BlockTurned", spec := "blockTurned", apart := false, narrowed := true }
def BlockTurnedUptoSaid : Prop := blockTurnedUptoRow.holds Try.pinned (OpenSpec.upto blockTurnedSpec)

/-- 'lifelinelaw04.BlockAny', WHERE WHAT IT READS IS OF BULK AT MOST 1048576: true; the input reads as it did. -/
def blockAnyUptoRow : OpenClaim := { program := "ytahlllkmjibbpaa", sum := "cd6d4d8305a31bef842a3a86dd520732f835310bbdc4f92a8cd4bcc37867bc96", func := "lifeline/lifelinelaw04.BlockAny", spec := "blockAny", apart := false, narrowed := true }
def BlockAnyUptoSaid : Prop := blockAnyUptoRow.holds Try.pinned (OpenSpec.upto blockAnySpec)

/-- 'lifelinelaw04.BlockSplit', WHERE WHAT IT READS IS OF BULK AT MOST 1048576: true; the input reads as it did. -/
def blockSplitUptoRow : OpenClaim := { program := "ytahlllkmjibbpaa", sum := "cd6d4d8305a31bef842a3a86dd520732f835310bbdc4f92a8cd4bcc37867bc96", func := "lifeline/lifelinelaw04.BlockSplit", spec := "blockSplit", apart := false, narrowed := true }
def BlockSplitUptoSaid : Prop := blockSplitUptoRow.holds Try.pinned (OpenSpec.upto blockSplitSpec)

/-- 'lifelinelaw04.BlockWhole', WHERE WHAT IT READS IS OF BULK AT MOST 1048576: true; the input reads as it did. -/
def blockWholeUptoRow : OpenClaim := { program := "ytahlllkmjibbpaa", sum := "cd6d4d8305a31bef842a3a86dd520732f835310bbdc4f92a8cd4bcc37867bc96", func := "lifeline/lifelinelaw04.BlockWhole", spec := "blockWhole", apart := false, narrowed := true }
def BlockWholeUptoSaid : Prop := blockWholeUptoRow.holds Try.pinned (OpenSpec.upto blockWholeSpec)

/-- 'lifelinelaw04.BlockBack', WHERE WHAT IT READS IS OF BULK AT MOST 1048576: true; the input reads as it did. -/
def blockBackUptoRow : OpenClaim := { program := "ytahlllkmjibbpaa", sum := "cd6d4d8305a31bef842a3a86dd520732f835310bbdc4f92a8cd4bcc37867bc96", func := "lifeline/lifelinelaw04.BlockBack", spec := "blockBack", apart := false, narrowed := true }
def BlockBackUptoSaid : Prop := blockBackUptoRow.holds Try.pinned (OpenSpec.upto blockBackSpec)

end Rows
end Go.Proofs.Ytahlllkmjibbpaa
