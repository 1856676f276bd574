/-
  No cell of these rows narrows 'for every input' (looked for: loops, veiled, ifaces, maps, wideKeys, modest, calm, conditions, laid).
  DERIVED. THE GIVEN ROWS OF THIS SEAT. 4 by the template 'for every input the law returns true; each argument reads behind the call as it read before'; 0 by the template 'total and deterministic' (their statements: YtgidoieppplhpaaTotals.lean).
  GIVEN WITH THE SEED: the statements are not yours to turn. If you find one false, say at which input.
  Laid BY PROGRAM, IN A SANDBOX (cutbox-rows.mjs): the forced cells as the released guide's own fill.sh prints them over the translation 38b1d5e3f3b05953… (all of the seat's roots in one cut). By AI agents, Wed Nov 11 2026. No macro, syntax, notation, axiom, sorry.
-/
import Derived.Test.YtgidoieppplhpaaChecked
import GoSem.Claim
import GoSem.ClaimJoined
import GoSem.ClaimMapViews
import Derived.JoinedTies
import Derived.KernelRfl
namespace Go.Proofs.Ytgidoieppplhpaa
/- THE CELL 'sum', in the pinned program and in every row, IS THE sha256 OF THE DUMP (.gsa) THAT YtgidoieppplhpaaProg.lean LOADS. Nothing in Lean hashes anything: it is a label: what it is worth is what the hold of that sum in a sandbox is worth. -/
noncomputable def Try.pinned : Pinned := { name := "ytgidoieppplhpaa", sum := "38b1d5e3f3b05953f48a3908abacec4d6db59d4cdbbf76976101b5017e1cc51a", checked := Try.checked }
namespace Rows
def none {H : Type} : Left H := { results := [], args := [] }

/-- 'lifelinelaw09.ExpectQuoted': WHATEVER THE INPUT: true; the input reads as it did. -/
def expectQuotedSpec : ChangeSpec := { name := "expectQuoted", fn := fun _ => fun
  | [d1, d2] => { results := [.lit (.bool true)], args := [d1, d2] }
  | _ => none }
def expectQuotedRow : OpenClaim := { program := "ytgidoieppplhpaa", sum := "38b1d5e3f3b05953f48a3908abacec4d6db59d4cdbbf76976101b5017e1cc51a", func := "lifeline/lifelinelaw09.ExpectQuoted", spec := "expectQuoted", inPlace := ["internal/bytealg.IndexByteString", "internal/abi.NoEscape"], recurses := true, plainKeys := false, apart := false }
def ExpectQuotedSaid : Prop := expectQuotedRow.holds Try.pinned (OpenSpec.ofChange expectQuotedSpec)

/-- ITS FALSE NEIGHBOUR: 'it returns false'. Refute it at one input. -/
def expectQuotedWrong : ChangeSpec := { name := "expectQuoted", fn := fun _ => fun
  | [d1, d2] => { results := [.lit (.bool false)], args := [d1, d2] }
  | _ => none }
def ExpectQuotedWrongFalsely : Prop := expectQuotedRow.holds Try.pinned (OpenSpec.ofChange expectQuotedWrong)

/-- 'lifelinelaw09.ExpectAlone': WHATEVER THE INPUT: true; the input reads as it did. -/
def expectAloneSpec : ChangeSpec := { name := "expectAlone", fn := fun _ => fun
  | [d1, d2, d3] => { results := [.lit (.bool true)], args := [d1, d2, d3] }
  | _ => none }
def expectAloneRow : OpenClaim := { program := "ytgidoieppplhpaa", sum := "38b1d5e3f3b05953f48a3908abacec4d6db59d4cdbbf76976101b5017e1cc51a", func := "lifeline/lifelinelaw09.ExpectAlone", spec := "expectAlone", inPlace := ["internal/bytealg.IndexByteString", "internal/abi.NoEscape"], recurses := true, plainKeys := false, apart := false }
def ExpectAloneSaid : Prop := expectAloneRow.holds Try.pinned (OpenSpec.ofChange expectAloneSpec)

/-- ITS FALSE NEIGHBOUR: 'it returns false'. Refute it at one input. -/
def expectAloneWrong : ChangeSpec := { name := "expectAlone", fn := fun _ => fun
  | [d1, d2, d3] => { results := [.lit (.bool false)], args := [d1, d2, d3] }
  | _ => none }
def ExpectAloneWrongFalsely : Prop := expectAloneRow.holds Try.pinned (OpenSpec.ofChange expectAloneWrong)

/-- 'lifelinelaw09.ExpectOver': WHATEVER THE INPUT: true; the input reads as it did. -/
def expectOverSpec : ChangeSpec := { name := "expectOver", fn := fun _ => fun
  | [d1, d2] => { results := [.lit (.bool true)], args := [d1, d2] }
  | _ => none }
def expectOverRow : OpenClaim := { program := "ytgidoieppplhpaa", sum := "38b1d5e3f3b05953f48a3908abacec4d6db59d4cdbbf76976101b5017e1cc51a", func := "lifeline/lifelinelaw09.ExpectOver", spec := "expectOver", inPlace := ["internal/bytealg.IndexByteString", "internal/abi.NoEscape"], recurses := true, plainKeys := false, apart := false }
def ExpectOverSaid : Prop := expectOverRow.holds Try.pinned (OpenSpec.ofChange expectOverSpec)

/-- ITS FALSE NEIGHBOUR: 'it returns false'. Refute it at one input. -/
def expectOverWrong : ChangeSpec := { name := "expectOver", fn := fun _ => fun
  | [d1, d2] => { results := [.lit (.bool false)], args := [d1, d2] }
  | _ => none }
def ExpectOverWrongFalsely : Prop := expectOverRow.holds Try.pinned (OpenSpec.ofChange expectOverWrong)

/-- 'lifelinelaw09.ExpectSame': WHATEVER THE INPUT: true; the input reads as it did. -/
def expectSameSpec : ChangeSpec := { name := "expectSame", fn := fun _ => fun
  | [d1, d2, d3] => { results := [.lit (.bool true)], args := [d1, d2, d3] }
  | _ => none }
def expectSameRow : OpenClaim := { program := "ytgidoieppplhpaa", sum := "38b1d5e3f3b05953f48a3908abacec4d6db59d4cdbbf76976101b5017e1cc51a", func := "lifeline/lifelinelaw09.ExpectSame", spec := "expectSame", recurses := true, plainKeys := false, apart := false }
def ExpectSameSaid : Prop := expectSameRow.holds Try.pinned (OpenSpec.ofChange expectSameSpec)

/-- ITS FALSE NEIGHBOUR: 'it returns false'. Refute it at one input. -/
def expectSameWrong : ChangeSpec := { name := "expectSame", fn := fun _ => fun
  | [d1, d2, d3] => { results := [.lit (.bool false)], args := [d1, d2, d3] }
  | _ => none }
def ExpectSameWrongFalsely : Prop := expectSameRow.holds Try.pinned (OpenSpec.ofChange expectSameWrong)

/- THE SECOND FORM. 'bulk': how many values and letters a reading holds, each counted each time it is reached (what is shared counts as often as it is met; a slice's spare places count too). A statement '..UptoSaid' is the law's where the arguments, and the package variables that the reading takes, are together of bulk at most 1048576: NARROWER than '..Said'. Prove '..Said' where nothing that the law and all that it calls make is longer than what came in: it says more and counts as full. Else prove '..UptoSaid'. A law counts once. -/
mutual
def uptoBulk {H : Type} : DataW H → Nat
  | .lit (.string bytes) => bytes.length + 1
  | .lit _ => 1
  | .nil => 1
  | .ptr d => uptoBulk d + 1
  | .slice elems spare => uptoBulkAll elems + uptoBulkAll spare + 1
  | .agg parts => uptoBulkAll parts + 1
  | .iface _ d => uptoBulk d + 1
  | .map entries => uptoBulkEntries entries + 1
  | .held _ => 1
def uptoBulkAll {H : Type} : List (DataW H) → Nat
  | [] => 0
  | d :: r => uptoBulk d + uptoBulkAll r
def uptoBulkEntries {H : Type} : List (Lit × DataW H) → Nat
  | [] => 0
  | x :: r => uptoBulkEntry x + uptoBulkEntries r
def uptoBulkEntry {H : Type} : Lit × DataW H → Nat
  | (.string bytes, d) => bytes.length + uptoBulk d + 1
  | (_, d) => uptoBulk d + 1
 end
def uptoSmall : (H : Type) → List (DataW H) → Bool := fun _ ds => decide (uptoBulkAll ds ≤ 1048576)
def OpenSpec.upto (s : _root_.Go.ChangeSpec) : _root_.Go.OpenSpec := { _root_.Go.OpenSpec.ofChange s with cond := some uptoSmall }

/-- 'lifelinelaw09.ExpectQuoted', WHERE WHAT IT READS IS OF BULK AT MOST 1048576: true; the input reads as it did. -/
def expectQuotedUptoRow : OpenClaim := { program := "ytgidoieppplhpaa", sum := "38b1d5e3f3b05953f48a3908abacec4d6db59d4cdbbf76976101b5017e1cc51a", func := "lifeline/lifelinelaw09.ExpectQuoted", spec := "expectQuoted", inPlace := ["internal/bytealg.IndexByteString", "internal/abi.NoEscape"], recurses := true, plainKeys := false, apart := false, narrowed := true }
def ExpectQuotedUptoSaid : Prop := expectQuotedUptoRow.holds Try.pinned (OpenSpec.upto expectQuotedSpec)

/-- 'lifelinelaw09.ExpectAlone', WHERE WHAT IT READS IS OF BULK AT MOST 1048576: true; the input reads as it did. -/
def expectAloneUptoRow : OpenClaim := { program := "ytgidoieppplhpaa", sum := "38b1d5e3f3b05953f48a3908abacec4d6db59d4cdbbf76976101b5017e1cc51a", func := "lifeline/lifelinelaw09.ExpectAlone", spec := "expectAlone", inPlace := ["internal/bytealg.IndexByteString", "internal/abi.NoEscape"], recurses := true, plainKeys := false, apart := false, narrowed := true }
def ExpectAloneUptoSaid : Prop := expectAloneUptoRow.holds Try.pinned (OpenSpec.upto expectAloneSpec)

/-- 'lifelinelaw09.ExpectOver', WHERE WHAT IT READS IS OF BULK AT MOST 1048576: true; the input reads as it did. -/
def expectOverUptoRow : OpenClaim := { program := "ytgidoieppplhpaa", sum := "38b1d5e3f3b05953f48a3908abacec4d6db59d4cdbbf76976101b5017e1cc51a", func := "lifeline/lifelinelaw09.ExpectOver", spec := "expectOver", inPlace := ["internal/bytealg.IndexByteString", "internal/abi.NoEscape"], recurses := true, plainKeys := false, apart := false, narrowed := true }
def ExpectOverUptoSaid : Prop := expectOverUptoRow.holds Try.pinned (OpenSpec.upto expectOverSpec)

/-- 'lifelinelaw09.ExpectSame', WHERE WHAT IT READS IS OF BULK AT MOST 1048576: true; the input reads as it did. -/
def expectSameUptoRow : OpenClaim := { program := "ytgidoieppplhpaa", sum := "38b1d5e3f3b05953f48a3908abacec4d6db59d4cdbbf76976101b5017e1cc51a", func := "lifeline/lifelinelaw09.ExpectSame", spec := "expectSame", recurses := true, plainKeys := false, apart := false, narrowed := true }
def ExpectSameUptoSaid : Prop := expectSameUptoRow.holds Try.pinned (OpenSpec.upto expectSameSpec)

end Rows
end Go.Proofs.Ytgidoieppplhpaa
