/-
  No cell of these rows narrows 'for every input' (looked for: loops, veiled, ifaces, maps, wideKeys, modest, calm, conditions, laid).
  DERIVED. THE GIVEN ROWS OF THIS SEAT. 4 by the template 'for every input the law returns true; each argument reads behind the call as it read before'; 0 by the template 'total and deterministic' (their statements: YtjdjbdedfohfbaaTotals.lean).
  GIVEN WITH THE SEED: the statements are not yours to turn. If you find one false, say at which input.
  Laid BY PROGRAM, IN A SANDBOX (cutbox-rows.mjs): the forced cells as the released guide's own fill.sh prints them over the translation 9e71d857f8cb3bf2… (all of the seat's roots in one cut). By AI agents, Wed Nov 11 2026. No macro, syntax, notation, axiom, sorry.
-/
import Derived.Test.YtjdjbdedfohfbaaChecked
import GoSem.Claim
import GoSem.ClaimJoined
import GoSem.ClaimMapViews
import Derived.JoinedTies
import Derived.KernelRfl
namespace Go.Proofs.Ytjdjbdedfohfbaa
/- THE CELL 'sum', in the pinned program and in every row, IS THE sha256 OF THE DUMP (.gsa) THAT YtjdjbdedfohfbaaProg.lean LOADS. Nothing in Lean hashes anything: it is a label: what it is worth is what the hold of that sum in a sandbox is worth. -/
noncomputable def Try.pinned : Pinned := { name := "ytjdjbdedfohfbaa", sum := "9e71d857f8cb3bf2bd5a1bd66b05c649bf90bcf54244c78512a74511bf4e2e03", checked := Try.checked }
namespace Rows
def none {H : Type} : Left H := { results := [], args := [] }

/-- 'lifelinelaw11.ReceiverScript': WHATEVER THE INPUT: true; the input reads as it did. -/
def receiverScriptSpec : ChangeSpec := { name := "receiverScript", fn := fun _ => fun
  | [d1, d2, d3, d4, d5, d6] => { results := [.lit (.bool true)], args := [d1, d2, d3, d4, d5, d6] }
  | _ => none }
def receiverScriptRow : OpenClaim := { program := "ytjdjbdedfohfbaa", sum := "9e71d857f8cb3bf2bd5a1bd66b05c649bf90bcf54244c78512a74511bf4e2e03", func := "lifeline/lifelinelaw11.ReceiverScript", spec := "receiverScript", apart := false }
def ReceiverScriptSaid : Prop := receiverScriptRow.holds Try.pinned (OpenSpec.ofChange receiverScriptSpec)

/-- ITS FALSE NEIGHBOUR: 'it returns false'. Refute it at one input. -/
def receiverScriptWrong : ChangeSpec := { name := "receiverScript", fn := fun _ => fun
  | [d1, d2, d3, d4, d5, d6] => { results := [.lit (.bool false)], args := [d1, d2, d3, d4, d5, d6] }
  | _ => none }
def ReceiverScriptWrongFalsely : Prop := receiverScriptRow.holds Try.pinned (OpenSpec.ofChange receiverScriptWrong)

/-- 'lifelinelaw11.ReceiverTakes': WHATEVER THE INPUT: true; the input reads as it did. -/
def receiverTakesSpec : ChangeSpec := { name := "receiverTakes", fn := fun _ => fun
  | [d1, d2, d3, d4] => { results := [.lit (.bool true)], args := [d1, d2, d3, d4] }
  | _ => none }
def receiverTakesRow : OpenClaim := { program := "ytjdjbdedfohfbaa", sum := "9e71d857f8cb3bf2bd5a1bd66b05c649bf90bcf54244c78512a74511bf4e2e03", func := "lifeline/lifelinelaw11.ReceiverTakes", spec := "receiverTakes", apart := false }
def ReceiverTakesSaid : Prop := receiverTakesRow.holds Try.pinned (OpenSpec.ofChange receiverTakesSpec)

/-- ITS FALSE NEIGHBOUR: 'it returns false'. Refute it at one input. -/
def receiverTakesWrong : ChangeSpec := { name := "receiverTakes", fn := fun _ => fun
  | [d1, d2, d3, d4] => { results := [.lit (.bool false)], args := [d1, d2, d3, d4] }
  | _ => none }
def ReceiverTakesWrongFalsely : Prop := receiverTakesRow.holds Try.pinned (OpenSpec.ofChange receiverTakesWrong)

/-- 'lifelinelaw11.ReceiverTurned': WHATEVER THE INPUT: true; the input reads as it did. -/
def receiverTurnedSpec : ChangeSpec := { name := "receiverTurned", fn := fun _ => fun
  | [d1, d2, d3, d4, d5] => { results := [.lit (.bool true)], args := [d1, d2, d3, d4, d5] }
  | _ => none }
def receiverTurnedRow : OpenClaim := { program := "ytjdjbdedfohfbaa", sum := "9e71d857f8cb3bf2bd5a1bd66b05c649bf90bcf54244c78512a74511bf4e2e03", func := "lifeline/lifelinelaw11.ReceiverTurned", spec := "receiverTurned", apart := false }
def ReceiverTurnedSaid : Prop := receiverTurnedRow.holds Try.pinned (OpenSpec.ofChange receiverTurnedSpec)

/-- ITS FALSE NEIGHBOUR: 'it returns false'. Refute it at one input. -/
def receiverTurnedWrong : ChangeSpec := { name := "receiverTurned", fn := fun _ => fun
  | [d1, d2, d3, d4, d5] => { results := [.lit (.bool false)], args := [d1, d2, d3, d4, d5] }
  | _ => none }
def ReceiverTurnedWrongFalsely : Prop := receiverTurnedRow.holds Try.pinned (OpenSpec.ofChange receiverTurnedWrong)

/-- 'lifelinelaw11.ReceiverMany': WHATEVER THE INPUT: true; the input reads as it did. -/
def receiverManySpec : ChangeSpec := { name := "receiverMany", fn := fun _ => fun
  | [d1, d2, d3] => { results := [.lit (.bool true)], args := [d1, d2, d3] }
  | _ => none }
def receiverManyRow : OpenClaim := { program := "ytjdjbdedfohfbaa", sum := "9e71d857f8cb3bf2bd5a1bd66b05c649bf90bcf54244c78512a74511bf4e2e03", func := "lifeline/lifelinelaw11.ReceiverMany", spec := "receiverMany", apart := false }
def ReceiverManySaid : Prop := receiverManyRow.holds Try.pinned (OpenSpec.ofChange receiverManySpec)

/-- ITS FALSE NEIGHBOUR: 'it returns false'. Refute it at one input. -/
def receiverManyWrong : ChangeSpec := { name := "receiverMany", fn := fun _ => fun
  | [d1, d2, d3] => { results := [.lit (.bool false)], args := [d1, d2, d3] }
  | _ => none }
def ReceiverManyWrongFalsely : Prop := receiverManyRow.holds Try.pinned (OpenSpec.ofChange receiverManyWrong)

/- THE SECOND FORM. 'bulk': how many values and letters a reading holds, each counted each time it is reached (what is shared counts as often as it is met; a slice's spare places count too). A statement '..UptoSaid' is the law's where the arguments, and the package variables that the reading takes, are together of bulk at most 1048576: NARROWER than '..Said'. Prove '..Said' where nothing that the law and all that it calls make is longer than what came in: it says more and counts as full. Else prove '..UptoSaid'. A law counts once. -/
mutual
def uptoBulk {H : Type} : DataW H → Nat
  | .lit (.string bytes) => bytes.length + 1
  | .lit _ => 1
  | .nil => 1
  | .ptr d => uptoBulk d + 1
  | .slice elems spare => uptoBulkAll elems + uptoBulkAll spare + 1
  | .agg parts => uptoBulkAll parts + 1
  | .iface _ d => uptoBulk d + 1
  | .map entries => uptoBulkEntries entries + 1
  | .held _ => 1
def uptoBulkAll {H : Type} : List (DataW H) → Nat
  | [] => 0
  | d :: r => uptoBulk d + uptoBulkAll r
def uptoBulkEntries {H : Type} : List (Lit × DataW H) → Nat
  | [] => 0
  | x :: r => uptoBulkEntry x + uptoBulkEntries r
def uptoBulkEntry {H : Type} : Lit × DataW H → Nat
  | (.string bytes, d) => bytes.length + uptoBulk d + 1
  | (_, d) => uptoBulk d + 1
 end
def uptoSmall : (H : Type) → List (DataW H) → Bool := fun _ ds => decide (uptoBulkAll ds ≤ 1048576)
def OpenSpec.upto (s : _root_.Go.ChangeSpec) : _root_.Go.OpenSpec := { _root_.Go.OpenSpec.ofChange s with cond := some uptoSmall }

/-- 'lifelinelaw11.ReceiverScript', WHERE WHAT IT READS IS OF BULK AT MOST 1048576: true; the input reads as it did. -/
def receiverScriptUptoRow : OpenClaim := { program := "ytjdjbdedfohfbaa", sum := "9e71d857f8cb3bf2bd5a1bd66b05c649bf90bcf54244c78512a74511bf4e2e03", func := "lifeline/lifelinelaw11.ReceiverScript", spec := "receiverScript", apart := false, narrowed := true }
def ReceiverScriptUptoSaid : Prop := receiverScriptUptoRow.holds Try.pinned (OpenSpec.upto receiverScriptSpec)

/-- 'lifelinelaw11.ReceiverTakes', WHERE WHAT IT READS IS OF BULK AT MOST 1048576: true; the input reads as it did. -/
def receiverTakesUptoRow : OpenClaim := { program := "ytjdjbdedfohfbaa", sum := "9e71d857f8cb3bf2bd5a1bd66b05c649bf90bcf54244c78512a74511bf4e2e03", func := "lifeline/lifelinelaw11.ReceiverTakes", spec := "receiverTakes", apart := false, narrowed := true }
def ReceiverTakesUptoSaid : Prop := receiverTakesUptoRow.holds Try.pinned (OpenSpec.upto receiverTakesSpec)

/-- 'lifelinelaw11.ReceiverTurned', WHERE WHAT IT READS IS OF BULK AT MOST 1048576: true; the input reads as it did. -/
def receiverTurnedUptoRow : OpenClaim := { program := "ytjdjbdedfohfbaa", sum := "9e71d857f8cb3bf2bd5a1bd66b05c649bf90bcf54244c78512a74511bf4e2e03", func := "lifeline/lifelinelaw11.ReceiverTurned", spec := "receiverTurned", apart := false, narrowed := true }
def ReceiverTurnedUptoSaid : Prop := receiverTurnedUptoRow.holds Try.pinned (OpenSpec.upto receiverTurnedSpec)

/-- 'lifelinelaw11.ReceiverMany', WHERE WHAT IT READS IS OF BULK AT MOST 1048576: true; the input reads as it did. -/
def receiverManyUptoRow : OpenClaim := { program := "ytjdjbdedfohfbaa", sum := "9e71d857f8cb3bf2bd5a1bd66b05c649bf90bcf54244c78512a74511bf4e2e03", func := "lifeline/lifelinelaw11.ReceiverMany", spec := "receiverMany", apart := false, narrowed := true }
def ReceiverManyUptoSaid : Prop := receiverManyUptoRow.holds Try.pinned (OpenSpec.upto receiverManySpec)

end Rows
end Go.Proofs.Ytjdjbdedfohfbaa
