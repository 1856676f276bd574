/-
  No cell of these rows narrows 'for every input' (looked for: loops, veiled, ifaces, maps, wideKeys, modest, calm, conditions, laid).
  DERIVED. THE GIVEN ROWS OF THIS SEAT. 6 by the template 'for every input the law returns true; each argument reads behind the call as it read before'; 0 by the template 'total and deterministic' (their statements: YtelkgkmomdmblaaTotals.lean).
  GIVEN WITH THE SEED: the statements are not yours to turn. If you find one false, say at which input.
  Laid BY PROGRAM, IN A SANDBOX (cutbox-rows.mjs): the forced cells as the released guide's own fill.sh prints them over the translation 9a98340ae7f1b35f… (all of the seat's roots in one cut). By AI agents, Wed Nov 11 2026. No macro, syntax, notation, axiom, sorry.
-/
import Derived.Test.YtelkgkmomdmblaaChecked
import GoSem.Claim
import GoSem.ClaimJoined
import GoSem.ClaimMapViews
import Derived.JoinedTies
import Derived.KernelRfl
namespace Go.Proofs.Ytelkgkmomdmblaa
/- THE CELL 'sum', in the pinned program and in every row, IS THE sha256 OF THE DUMP (.gsa) THAT YtelkgkmomdmblaaProg.lean LOADS. Nothing in Lean hashes anything: it is a label: what it is worth is what the hold of that sum in a sandbox is worth. -/
noncomputable def Try.pinned : Pinned := { name := "ytelkgkmomdmblaa", sum := "9a98340ae7f1b35f61ac278a8a67044d9d69692dd5f390bec03a619896b16573", checked := Try.checked }
namespace Rows
def none {H : Type} : Left H := { results := [], args := [] }

/-- 'lifelinelaw08.MatchEnds': WHATEVER THE INPUT: true; the input reads as it did. -/
def matchEndsSpec : ChangeSpec := { name := "matchEnds", fn := fun _ => fun
  | [d1, d2, d3] => { results := [.lit (.bool true)], args := [d1, d2, d3] }
  | _ => none }
def matchEndsRow : OpenClaim := { program := "ytelkgkmomdmblaa", sum := "9a98340ae7f1b35f61ac278a8a67044d9d69692dd5f390bec03a619896b16573", func := "lifeline/lifelinelaw08.MatchEnds", spec := "matchEnds", recurses := true, plainKeys := false, apart := false }
def MatchEndsSaid : Prop := matchEndsRow.holds Try.pinned (OpenSpec.ofChange matchEndsSpec)

/-- ITS FALSE NEIGHBOUR: 'it returns false'. Refute it at one input. -/
def matchEndsWrong : ChangeSpec := { name := "matchEnds", fn := fun _ => fun
  | [d1, d2, d3] => { results := [.lit (.bool false)], args := [d1, d2, d3] }
  | _ => none }
def MatchEndsWrongFalsely : Prop := matchEndsRow.holds Try.pinned (OpenSpec.ofChange matchEndsWrong)

/-- 'lifelinelaw08.MatchFirst': WHATEVER THE INPUT: true; the input reads as it did. -/
def matchFirstSpec : ChangeSpec := { name := "matchFirst", fn := fun _ => fun
  | [d1, d2] => { results := [.lit (.bool true)], args := [d1, d2] }
  | _ => none }
def matchFirstRow : OpenClaim := { program := "ytelkgkmomdmblaa", sum := "9a98340ae7f1b35f61ac278a8a67044d9d69692dd5f390bec03a619896b16573", func := "lifeline/lifelinelaw08.MatchFirst", spec := "matchFirst", recurses := true, plainKeys := false, apart := false }
def MatchFirstSaid : Prop := matchFirstRow.holds Try.pinned (OpenSpec.ofChange matchFirstSpec)

/-- ITS FALSE NEIGHBOUR: 'it returns false'. Refute it at one input. -/
def matchFirstWrong : ChangeSpec := { name := "matchFirst", fn := fun _ => fun
  | [d1, d2] => { results := [.lit (.bool false)], args := [d1, d2] }
  | _ => none }
def MatchFirstWrongFalsely : Prop := matchFirstRow.holds Try.pinned (OpenSpec.ofChange matchFirstWrong)

/-- 'lifelinelaw08.MatchParts': WHATEVER THE INPUT: true; the input reads as it did. -/
def matchPartsSpec : ChangeSpec := { name := "matchParts", fn := fun _ => fun
  | [d1, d2, d3, d4] => { results := [.lit (.bool true)], args := [d1, d2, d3, d4] }
  | _ => none }
def matchPartsRow : OpenClaim := { program := "ytelkgkmomdmblaa", sum := "9a98340ae7f1b35f61ac278a8a67044d9d69692dd5f390bec03a619896b16573", func := "lifeline/lifelinelaw08.MatchParts", spec := "matchParts", recurses := true, plainKeys := false, apart := false }
def MatchPartsSaid : Prop := matchPartsRow.holds Try.pinned (OpenSpec.ofChange matchPartsSpec)

/-- ITS FALSE NEIGHBOUR: 'it returns false'. Refute it at one input. -/
def matchPartsWrong : ChangeSpec := { name := "matchParts", fn := fun _ => fun
  | [d1, d2, d3, d4] => { results := [.lit (.bool false)], args := [d1, d2, d3, d4] }
  | _ => none }
def MatchPartsWrongFalsely : Prop := matchPartsRow.holds Try.pinned (OpenSpec.ofChange matchPartsWrong)

/-- 'lifelinelaw08.MatchGrow': WHATEVER THE INPUT: true; the input reads as it did. -/
def matchGrowSpec : ChangeSpec := { name := "matchGrow", fn := fun _ => fun
  | [d1, d2, d3] => { results := [.lit (.bool true)], args := [d1, d2, d3] }
  | _ => none }
def matchGrowRow : OpenClaim := { program := "ytelkgkmomdmblaa", sum := "9a98340ae7f1b35f61ac278a8a67044d9d69692dd5f390bec03a619896b16573", func := "lifeline/lifelinelaw08.MatchGrow", spec := "matchGrow", recurses := true, plainKeys := false, apart := false }
def MatchGrowSaid : Prop := matchGrowRow.holds Try.pinned (OpenSpec.ofChange matchGrowSpec)

/-- ITS FALSE NEIGHBOUR: 'it returns false'. Refute it at one input. -/
def matchGrowWrong : ChangeSpec := { name := "matchGrow", fn := fun _ => fun
  | [d1, d2, d3] => { results := [.lit (.bool false)], args := [d1, d2, d3] }
  | _ => none }
def MatchGrowWrongFalsely : Prop := matchGrowRow.holds Try.pinned (OpenSpec.ofChange matchGrowWrong)

/-- 'lifelinelaw08.MatchQuoted': WHATEVER THE INPUT: true; the input reads as it did. -/
def matchQuotedSpec : ChangeSpec := { name := "matchQuoted", fn := fun _ => fun
  | [d1, d2] => { results := [.lit (.bool true)], args := [d1, d2] }
  | _ => none }
def matchQuotedRow : OpenClaim := { program := "ytelkgkmomdmblaa", sum := "9a98340ae7f1b35f61ac278a8a67044d9d69692dd5f390bec03a619896b16573", func := "lifeline/lifelinelaw08.MatchQuoted", spec := "matchQuoted", inPlace := ["internal/bytealg.IndexByteString", "internal/abi.NoEscape"], recurses := true, plainKeys := false, apart := false }
def MatchQuotedSaid : Prop := matchQuotedRow.holds Try.pinned (OpenSpec.ofChange matchQuotedSpec)

/-- ITS FALSE NEIGHBOUR: 'it returns false'. Refute it at one input. -/
def matchQuotedWrong : ChangeSpec := { name := "matchQuoted", fn := fun _ => fun
  | [d1, d2] => { results := [.lit (.bool false)], args := [d1, d2] }
  | _ => none }
def MatchQuotedWrongFalsely : Prop := matchQuotedRow.holds Try.pinned (OpenSpec.ofChange matchQuotedWrong)

/-- 'lifelinelaw08.MatchAll': WHATEVER THE INPUT: true; the input reads as it did. -/
def matchAllSpec : ChangeSpec := { name := "matchAll", fn := fun _ => fun
  | [d1, d2] => { results := [.lit (.bool true)], args := [d1, d2] }
  | _ => none }
def matchAllRow : OpenClaim := { program := "ytelkgkmomdmblaa", sum := "9a98340ae7f1b35f61ac278a8a67044d9d69692dd5f390bec03a619896b16573", func := "lifeline/lifelinelaw08.MatchAll", spec := "matchAll", recurses := true, plainKeys := false, apart := false }
def MatchAllSaid : Prop := matchAllRow.holds Try.pinned (OpenSpec.ofChange matchAllSpec)

/-- ITS FALSE NEIGHBOUR: 'it returns false'. Refute it at one input. -/
def matchAllWrong : ChangeSpec := { name := "matchAll", fn := fun _ => fun
  | [d1, d2] => { results := [.lit (.bool false)], args := [d1, d2] }
  | _ => none }
def MatchAllWrongFalsely : Prop := matchAllRow.holds Try.pinned (OpenSpec.ofChange matchAllWrong)

/- THE SECOND FORM. 'bulk': how many values and letters a reading holds, each counted each time it is reached (what is shared counts as often as it is met; a slice's spare places count too). A statement '..UptoSaid' is the law's where the arguments, and the package variables that the reading takes, are together of bulk at most 1048576: NARROWER than '..Said'. Prove '..Said' where nothing that the law and all that it calls make is longer than what came in: it says more and counts as full. Else prove '..UptoSaid'. A law counts once. -/
mutual
def uptoBulk {H : Type} : DataW H → Nat
  | .lit (.string bytes) => bytes.length + 1
  | .lit _ => 1
  | .nil => 1
  | .ptr d => uptoBulk d + 1
  | .slice elems spare => uptoBulkAll elems + uptoBulkAll spare + 1
  | .agg parts => uptoBulkAll parts + 1
  | .iface _ d => uptoBulk d + 1
  | .map entries => uptoBulkEntries entries + 1
  | .held _ => 1
def uptoBulkAll {H : Type} : List (DataW H) → Nat
  | [] => 0
  | d :: r => uptoBulk d + uptoBulkAll r
def uptoBulkEntries {H : Type} : List (Lit × DataW H) → Nat
  | [] => 0
  | x :: r => uptoBulkEntry x + uptoBulkEntries r
def uptoBulkEntry {H : Type} : Lit × DataW H → Nat
  | (.string bytes, d) => bytes.length + uptoBulk d + 1
  | (_, d) => uptoBulk d + 1
 end
def uptoSmall : (H : Type) → List (DataW H) → Bool := fun _ ds => decide (uptoBulkAll ds ≤ 1048576)
def OpenSpec.upto (s : _root_.Go.ChangeSpec) : _root_.Go.OpenSpec := { _root_.Go.OpenSpec.ofChange s with cond := some uptoSmall }

/-- 'lifelinelaw08.MatchEnds', WHERE WHAT IT READS IS OF BULK AT MOST 1048576: true; the input reads as it did. -/
def matchEndsUptoRow : OpenClaim := { program := "ytelkgkmomdmblaa", sum := "9a98340ae7f1b35f61ac278a8a67044d9d69692dd5f390bec03a619896b16573", func := "lifeline/lifelinelaw08.MatchEnds", spec := "matchEnds", recurses := true, plainKeys := false, apart := false, narrowed := true }
def MatchEndsUptoSaid : Prop := matchEndsUptoRow.holds Try.pinned (OpenSpec.upto matchEndsSpec)

/-- 'lifelinelaw08.MatchFirst', WHERE WHAT IT READS IS OF BULK AT MOST 1048576: true; the input reads as it did. -/
def matchFirstUptoRow : OpenClaim := { program := "ytelkgkmomdmblaa", sum := "9a98340ae7f1b35f61ac278a8a67044d9d69692dd5f390bec03a619896b16573", func := "lifeline/lifelinelaw08.MatchFirst", spec := "matchFirst", recurses := true, plainKeys := false, apart := false, narrowed := true }
def MatchFirstUptoSaid : Prop := matchFirstUptoRow.holds Try.pinned (OpenSpec.upto matchFirstSpec)

/-- 'lifelinelaw08.MatchParts', WHERE WHAT IT READS IS OF BULK AT MOST 1048576: true; the input reads as it did. -/
def matchPartsUptoRow : OpenClaim := { program := "ytelkgkmomdmblaa", sum := "9a98340ae7f1b35f61ac278a8a67044d9d69692dd5f390bec03a619896b16573", func := "lifeline/lifelinelaw08.MatchParts", spec := "matchParts", recurses := true, plainKeys := false, apart := false, narrowed := true }
def MatchPartsUptoSaid : Prop := matchPartsUptoRow.holds Try.pinned (OpenSpec.upto matchPartsSpec)

/-- 'lifelinelaw08.MatchGrow', WHERE WHAT IT READS IS OF BULK AT MOST 1048576: true; the input reads as it did. -/
def matchGrowUptoRow : OpenClaim := { program := "ytelkgkmomdmblaa", sum := "9a98340ae7f1b35f61ac278a8a67044d9d69692dd5f390bec03a619896b16573", func := "lifeline/lifelinelaw08.MatchGrow", spec := "matchGrow", recurses := true, plainKeys := false, apart := false, narrowed := true }
def MatchGrowUptoSaid : Prop := matchGrowUptoRow.holds Try.pinned (OpenSpec.upto matchGrowSpec)

/-- 'lifelinelaw08.MatchQuoted', WHERE WHAT IT READS IS OF BULK AT MOST 1048576: true; the input reads as it did. -/
def matchQuotedUptoRow : OpenClaim := { program := "ytelkgkmomdmblaa", sum := "9a98340ae7f1b35f61ac278a8a67044d9d69692dd5f390bec03a619896b16573", func := "lifeline/lifelinelaw08.MatchQuoted", spec := "matchQuoted", inPlace := ["internal/bytealg.IndexByteString", "internal/abi.NoEscape"], recurses := true, plainKeys := false, apart := false, narrowed := true }
def MatchQuotedUptoSaid : Prop := matchQuotedUptoRow.holds Try.pinned (OpenSpec.upto matchQuotedSpec)

/-- 'lifelinelaw08.MatchAll', WHERE WHAT IT READS IS OF BULK AT MOST 1048576: true; the input reads as it did. -/
def matchAllUptoRow : OpenClaim := { program := "ytelkgkmomdmblaa", sum := "9a98340ae7f1b35f61ac278a8a67044d9d69692dd5f390bec03a619896b16573", func := "lifeline/lifelinelaw08.MatchAll", spec := "matchAll", recurses := true, plainKeys := false, apart := false, narrowed := true }
def MatchAllUptoSaid : Prop := matchAllUptoRow.holds Try.pinned (OpenSpec.upto matchAllSpec)

end Rows
end Go.Proofs.Ytelkgkmomdmblaa
