/-
  No cell of these rows narrows 'for every input' (looked for: loops, veiled, ifaces, maps, wideKeys, modest, calm, conditions, laid).
  DERIVED. THE GIVEN ROWS OF THIS SEAT. 4 by the template 'for every input the law returns true; each argument reads behind the call as it read before'; 0 by the template 'total and deterministic' (their statements: YtdhipkfiigiicaaTotals.lean).
  GIVEN WITH THE SEED: the statements are not yours to turn. If you find one false, say at which input.
  Laid BY PROGRAM, IN A SANDBOX (cutbox-rows.mjs): the forced cells as the released guide's own fill.sh prints them over the translation 0bdf169df0df1ff1… (all of the seat's roots in one cut). By AI agents, Wed Nov 11 2026. No macro, syntax, notation, axiom, sorry.
-/
import Derived.Test.YtdhipkfiigiicaaChecked
import GoSem.Claim
import GoSem.ClaimJoined
import GoSem.ClaimMapViews
import Derived.JoinedTies
import Derived.KernelRfl
namespace Go.Proofs.Ytdhipkfiigiicaa
/- THE CELL 'sum', in the pinned program and in every row, IS THE sha256 OF THE DUMP (.gsa) THAT YtdhipkfiigiicaaProg.lean LOADS. Nothing in Lean hashes anything: it is a label: what it is worth is what the hold of that sum in a sandbox is worth. -/
noncomputable def Try.pinned : Pinned := { name := "ytdhipkfiigiicaa", sum := "0bdf169df0df1ff11313f6f6075b12b818ed0d2019442198b0defb3bf9c1f590", checked := Try.checked }
namespace Rows
def none {H : Type} : Left H := { results := [], args := [] }

/-- 'lifelinelaw10.SenderScript': WHATEVER THE INPUT: true; the input reads as it did. -/
def senderScriptSpec : ChangeSpec := { name := "senderScript", fn := fun _ => fun
  | [d1, d2, d3, d4, d5, d6] => { results := [.lit (.bool true)], args := [d1, d2, d3, d4, d5, d6] }
  | _ => none }
def senderScriptRow : OpenClaim := { program := "ytdhipkfiigiicaa", sum := "0bdf169df0df1ff11313f6f6075b12b818ed0d2019442198b0defb3bf9c1f590", func := "lifeline/lifelinelaw10.SenderScript", spec := "senderScript", apart := false }
def SenderScriptSaid : Prop := senderScriptRow.holds Try.pinned (OpenSpec.ofChange senderScriptSpec)

/-- ITS FALSE NEIGHBOUR: 'it returns false'. Refute it at one input. -/
def senderScriptWrong : ChangeSpec := { name := "senderScript", fn := fun _ => fun
  | [d1, d2, d3, d4, d5, d6] => { results := [.lit (.bool false)], args := [d1, d2, d3, d4, d5, d6] }
  | _ => none }
def SenderScriptWrongFalsely : Prop := senderScriptRow.holds Try.pinned (OpenSpec.ofChange senderScriptWrong)

/-- 'lifelinelaw10.SenderRaw': WHATEVER THE INPUT: true; the input reads as it did. -/
def senderRawSpec : ChangeSpec := { name := "senderRaw", fn := fun _ => fun
  | [d1, d2, d3, d4, d5] => { results := [.lit (.bool true)], args := [d1, d2, d3, d4, d5] }
  | _ => none }
def senderRawRow : OpenClaim := { program := "ytdhipkfiigiicaa", sum := "0bdf169df0df1ff11313f6f6075b12b818ed0d2019442198b0defb3bf9c1f590", func := "lifeline/lifelinelaw10.SenderRaw", spec := "senderRaw", apart := false }
def SenderRawSaid : Prop := senderRawRow.holds Try.pinned (OpenSpec.ofChange senderRawSpec)

/-- ITS FALSE NEIGHBOUR: 'it returns false'. Refute it at one input. -/
def senderRawWrong : ChangeSpec := { name := "senderRaw", fn := fun _ => fun
  | [d1, d2, d3, d4, d5] => { results := [.lit (.bool false)], args := [d1, d2, d3, d4, d5] }
  | _ => none }
def SenderRawWrongFalsely : Prop := senderRawRow.holds Try.pinned (OpenSpec.ofChange senderRawWrong)

/-- 'lifelinelaw10.SenderOrder': WHATEVER THE INPUT: true; the input reads as it did. -/
def senderOrderSpec : ChangeSpec := { name := "senderOrder", fn := fun _ => fun
  | [d1, d2, d3, d4] => { results := [.lit (.bool true)], args := [d1, d2, d3, d4] }
  | _ => none }
def senderOrderRow : OpenClaim := { program := "ytdhipkfiigiicaa", sum := "0bdf169df0df1ff11313f6f6075b12b818ed0d2019442198b0defb3bf9c1f590", func := "lifeline/lifelinelaw10.SenderOrder", spec := "senderOrder", apart := false }
def SenderOrderSaid : Prop := senderOrderRow.holds Try.pinned (OpenSpec.ofChange senderOrderSpec)

/-- ITS FALSE NEIGHBOUR: 'it returns false'. Refute it at one input. -/
def senderOrderWrong : ChangeSpec := { name := "senderOrder", fn := fun _ => fun
  | [d1, d2, d3, d4] => { results := [.lit (.bool false)], args := [d1, d2, d3, d4] }
  | _ => none }
def SenderOrderWrongFalsely : Prop := senderOrderRow.holds Try.pinned (OpenSpec.ofChange senderOrderWrong)

/-- 'lifelinelaw10.SenderWhole': WHATEVER THE INPUT: true; the input reads as it did. -/
def senderWholeSpec : ChangeSpec := { name := "senderWhole", fn := fun _ => fun
  | [d1, d2, d3, d4] => { results := [.lit (.bool true)], args := [d1, d2, d3, d4] }
  | _ => none }
def senderWholeRow : OpenClaim := { program := "ytdhipkfiigiicaa", sum := "0bdf169df0df1ff11313f6f6075b12b818ed0d2019442198b0defb3bf9c1f590", func := "lifeline/lifelinelaw10.SenderWhole", spec := "senderWhole", apart := false }
def SenderWholeSaid : Prop := senderWholeRow.holds Try.pinned (OpenSpec.ofChange senderWholeSpec)

/-- ITS FALSE NEIGHBOUR: 'it returns false'. Refute it at one input. -/
def senderWholeWrong : ChangeSpec := { name := "senderWhole", fn := fun _ => fun
  | [d1, d2, d3, d4] => { results := [.lit (.bool false)], args := [d1, d2, d3, d4] }
  | _ => none }
def SenderWholeWrongFalsely : Prop := senderWholeRow.holds Try.pinned (OpenSpec.ofChange senderWholeWrong)

/- THE SECOND FORM. 'bulk': how many values and letters a reading holds, each counted each time it is reached (what is shared counts as often as it is met; a slice's spare places count too). A statement '..UptoSaid' is the law's where the arguments, and the package variables that the reading takes, are together of bulk at most 1048576: NARROWER than '..Said'. Prove '..Said' where nothing that the law and all that it calls make is longer than what came in: it says more and counts as full. Else prove '..UptoSaid'. A law counts once. -/
mutual
def uptoBulk {H : Type} : DataW H → Nat
  | .lit (.string bytes) => bytes.length + 1
  | .lit _ => 1
  | .nil => 1
  | .ptr d => uptoBulk d + 1
  | .slice elems spare => uptoBulkAll elems + uptoBulkAll spare + 1
  | .agg parts => uptoBulkAll parts + 1
  | .iface _ d => uptoBulk d + 1
  | .map entries => uptoBulkEntries entries + 1
  | .held _ => 1
def uptoBulkAll {H : Type} : List (DataW H) → Nat
  | [] => 0
  | d :: r => uptoBulk d + uptoBulkAll r
def uptoBulkEntries {H : Type} : List (Lit × DataW H) → Nat
  | [] => 0
  | x :: r => uptoBulkEntry x + uptoBulkEntries r
def uptoBulkEntry {H : Type} : Lit × DataW H → Nat
  | (.string bytes, d) => bytes.length + uptoBulk d + 1
  | (_, d) => uptoBulk d + 1
 end
def uptoSmall : (H : Type) → List (DataW H) → Bool := fun _ ds => decide (uptoBulkAll ds ≤ 1048576)
def OpenSpec.upto (s : _root_.Go.ChangeSpec) : _root_.Go.OpenSpec := { _root_.Go.OpenSpec.ofChange s with cond := some uptoSmall }

/-- 'lifelinelaw10.SenderScript', WHERE WHAT IT READS IS OF BULK AT MOST 1048576: true; the input reads as it did. -/
def senderScriptUptoRow : OpenClaim := { program := "ytdhipkfiigiicaa", sum := "0bdf169df0df1ff11313f6f6075b12b818ed0d2019442198b0defb3bf9c1f590", func := "lifeline/lifelinelaw10.SenderScript", spec := "senderScript", apart := false, narrowed := true }
def SenderScriptUptoSaid : Prop := senderScriptUptoRow.holds Try.pinned (OpenSpec.upto senderScriptSpec)

/-- 'lifelinelaw10.SenderRaw', WHERE WHAT IT READS IS OF BULK AT MOST 1048576: true; the input reads as it did. -/
def senderRawUptoRow : OpenClaim := { program := "ytdhipkfiigiicaa", sum := "0bdf169df0df1ff11313f6f6075b12b818ed0d2019442198b0defb3bf9c1f590", func := "lifeline/lifelinelaw10.SenderRaw", spec := "senderRaw", apart := false, narrowed := true }
def SenderRawUptoSaid : Prop := senderRawUptoRow.holds Try.pinned (OpenSpec.upto senderRawSpec)

/-- 'lifelinelaw10.SenderOrder', WHERE WHAT IT READS IS OF BULK AT MOST 1048576: true; the input reads as it did. -/
def senderOrderUptoRow : OpenClaim := { program := "ytdhipkfiigiicaa", sum := "0bdf169df0df1ff11313f6f6075b12b818ed0d2019442198b0defb3bf9c1f590", func := "lifeline/lifelinelaw10.SenderOrder", spec := "senderOrder", apart := false, narrowed := true }
def SenderOrderUptoSaid : Prop := senderOrderUptoRow.holds Try.pinned (OpenSpec.upto senderOrderSpec)

/-- 'lifelinelaw10.SenderWhole', WHERE WHAT IT READS IS OF BULK AT MOST 1048576: true; the input reads as it did. -/
def senderWholeUptoRow : OpenClaim := { program := "ytdhipkfiigiicaa", sum := "0bdf169df0df1ff11313f6f6075b12b818ed0d2019442198b0defb3bf9c1f590", func := "lifeline/lifelinelaw10.SenderWhole", spec := "senderWhole", apart := false, narrowed := true }
def SenderWholeUptoSaid : Prop := senderWholeUptoRow.holds Try.pinned (OpenSpec.upto senderWholeSpec)

end Rows
end Go.Proofs.Ytdhipkfiigiicaa
