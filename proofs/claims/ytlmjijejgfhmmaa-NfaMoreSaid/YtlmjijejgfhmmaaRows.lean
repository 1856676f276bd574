/-
  No cell of these rows narrows 'for every input' (looked for: loops, veiled, ifaces, maps, wideKeys, modest, calm, conditions, laid).
  DERIVED. THE GIVEN ROWS OF THIS SEAT. 5 by the template 'for every input the law returns true; each argument reads behind the call as it read before'; 0 by the template 'total and deterministic' (their statements: YtlmjijejgfhmmaaTotals.lean).
  GIVEN WITH THE SEED: the statements are not yours to turn. If you find one false, say at which input.
  Laid BY PROGRAM, IN A SANDBOX (cutbox-rows.mjs): the forced cells as the released guide's own fill.sh prints them over the translation 7b0f8f26a8a26b05… (all of the seat's roots in one cut). By AI agents, Wed Nov 11 2026. No macro, syntax, notation, axiom, sorry.
-/
import Derived.Test.YtlmjijejgfhmmaaChecked
import GoSem.Claim
import GoSem.ClaimJoined
import GoSem.ClaimMapViews
import Derived.JoinedTies
import Derived.KernelRfl
namespace Go.Proofs.Ytlmjijejgfhmmaa
/- THE CELL 'sum', in the pinned program and in every row, IS THE sha256 OF THE DUMP (.gsa) THAT YtlmjijejgfhmmaaProg.lean LOADS. Nothing in Lean hashes anything: it is a label: what it is worth is what the hold of that sum in a sandbox is worth. -/
noncomputable def Try.pinned : Pinned := { name := "ytlmjijejgfhmmaa", sum := "7b0f8f26a8a26b05c6a93581fd9d45f3c3f9faf7a83215b6710de8fe73b5c144", checked := Try.checked }
namespace Rows
def none {H : Type} : Left H := { results := [], args := [] }

/-- 'lifelinelaw07.NfaFits': WHATEVER THE INPUT: true; the input reads as it did. -/
def nfaFitsSpec : ChangeSpec := { name := "nfaFits", fn := fun _ => fun
  | [d1, d2] => { results := [.lit (.bool true)], args := [d1, d2] }
  | _ => none }
def nfaFitsRow : OpenClaim := { program := "ytlmjijejgfhmmaa", sum := "7b0f8f26a8a26b05c6a93581fd9d45f3c3f9faf7a83215b6710de8fe73b5c144", func := "lifeline/lifelinelaw07.NfaFits", spec := "nfaFits", recurses := true, plainKeys := false, apart := false }
def NfaFitsSaid : Prop := nfaFitsRow.holds Try.pinned (OpenSpec.ofChange nfaFitsSpec)

/-- ITS FALSE NEIGHBOUR: 'it returns false'. Refute it at one input. -/
def nfaFitsWrong : ChangeSpec := { name := "nfaFits", fn := fun _ => fun
  | [d1, d2] => { results := [.lit (.bool false)], args := [d1, d2] }
  | _ => none }
def NfaFitsWrongFalsely : Prop := nfaFitsRow.holds Try.pinned (OpenSpec.ofChange nfaFitsWrong)

/-- 'lifelinelaw07.NfaStep': WHATEVER THE INPUT: true; the input reads as it did. -/
def nfaStepSpec : ChangeSpec := { name := "nfaStep", fn := fun _ => fun
  | [d1, d2] => { results := [.lit (.bool true)], args := [d1, d2] }
  | _ => none }
def nfaStepRow : OpenClaim := { program := "ytlmjijejgfhmmaa", sum := "7b0f8f26a8a26b05c6a93581fd9d45f3c3f9faf7a83215b6710de8fe73b5c144", func := "lifeline/lifelinelaw07.NfaStep", spec := "nfaStep", recurses := true, plainKeys := false, apart := false }
def NfaStepSaid : Prop := nfaStepRow.holds Try.pinned (OpenSpec.ofChange nfaStepSpec)

/-- ITS FALSE NEIGHBOUR: 'it returns false'. Refute it at one input. -/
def nfaStepWrong : ChangeSpec := { name := "nfaStep", fn := fun _ => fun
  | [d1, d2] => { results := [.lit (.bool false)], args := [d1, d2] }
  | _ => none }
def NfaStepWrongFalsely : Prop := nfaStepRow.holds Try.pinned (OpenSpec.ofChange nfaStepWrong)

/-- 'lifelinelaw07.NfaMore': WHATEVER THE INPUT: true; the input reads as it did. -/
def nfaMoreSpec : ChangeSpec := { name := "nfaMore", fn := fun _ => fun
  | [d1, d2, d3, d4, d5] => { results := [.lit (.bool true)], args := [d1, d2, d3, d4, d5] }
  | _ => none }
def nfaMoreRow : OpenClaim := { program := "ytlmjijejgfhmmaa", sum := "7b0f8f26a8a26b05c6a93581fd9d45f3c3f9faf7a83215b6710de8fe73b5c144", func := "lifeline/lifelinelaw07.NfaMore", spec := "nfaMore", recurses := true, plainKeys := false, apart := false }
def NfaMoreSaid : Prop := nfaMoreRow.holds Try.pinned (OpenSpec.ofChange nfaMoreSpec)

/-- ITS FALSE NEIGHBOUR: 'it returns false'. Refute it at one input. -/
def nfaMoreWrong : ChangeSpec := { name := "nfaMore", fn := fun _ => fun
  | [d1, d2, d3, d4, d5] => { results := [.lit (.bool false)], args := [d1, d2, d3, d4, d5] }
  | _ => none }
def NfaMoreWrongFalsely : Prop := nfaMoreRow.holds Try.pinned (OpenSpec.ofChange nfaMoreWrong)

/-- 'lifelinelaw07.NfaQuoted': WHATEVER THE INPUT: true; the input reads as it did. -/
def nfaQuotedSpec : ChangeSpec := { name := "nfaQuoted", fn := fun _ => fun
  | [d1, d2] => { results := [.lit (.bool true)], args := [d1, d2] }
  | _ => none }
def nfaQuotedRow : OpenClaim := { program := "ytlmjijejgfhmmaa", sum := "7b0f8f26a8a26b05c6a93581fd9d45f3c3f9faf7a83215b6710de8fe73b5c144", func := "lifeline/lifelinelaw07.NfaQuoted", spec := "nfaQuoted", inPlace := ["internal/bytealg.IndexByteString", "internal/abi.NoEscape"], recurses := true, plainKeys := false, apart := false }
def NfaQuotedSaid : Prop := nfaQuotedRow.holds Try.pinned (OpenSpec.ofChange nfaQuotedSpec)

/-- ITS FALSE NEIGHBOUR: 'it returns false'. Refute it at one input. -/
def nfaQuotedWrong : ChangeSpec := { name := "nfaQuoted", fn := fun _ => fun
  | [d1, d2] => { results := [.lit (.bool false)], args := [d1, d2] }
  | _ => none }
def NfaQuotedWrongFalsely : Prop := nfaQuotedRow.holds Try.pinned (OpenSpec.ofChange nfaQuotedWrong)

/-- 'lifelinelaw07.NfaStar': WHATEVER THE INPUT: true; the input reads as it did. -/
def nfaStarSpec : ChangeSpec := { name := "nfaStar", fn := fun _ => fun
  | [d1, d2, d3] => { results := [.lit (.bool true)], args := [d1, d2, d3] }
  | _ => none }
def nfaStarRow : OpenClaim := { program := "ytlmjijejgfhmmaa", sum := "7b0f8f26a8a26b05c6a93581fd9d45f3c3f9faf7a83215b6710de8fe73b5c144", func := "lifeline/lifelinelaw07.NfaStar", spec := "nfaStar", recurses := true, plainKeys := false, apart := false }
def NfaStarSaid : Prop := nfaStarRow.holds Try.pinned (OpenSpec.ofChange nfaStarSpec)

/-- ITS FALSE NEIGHBOUR: 'it returns false'. Refute it at one input. -/
def nfaStarWrong : ChangeSpec := { name := "nfaStar", fn := fun _ => fun
  | [d1, d2, d3] => { results := [.lit (.bool false)], args := [d1, d2, d3] }
  | _ => none }
def NfaStarWrongFalsely : Prop := nfaStarRow.holds Try.pinned (OpenSpec.ofChange nfaStarWrong)

/- THE SECOND FORM. 'bulk': how many values and letters a reading holds, each counted each time it is reached (what is shared counts as often as it is met; a slice's spare places count too). A statement '..UptoSaid' is the law's where the arguments, and the package variables that the reading takes, are together of bulk at most 1048576: NARROWER than '..Said'. Prove '..Said' where nothing that the law and all that it calls make is longer than what came in: it says more and counts as full. Else prove '..UptoSaid'. A law counts once. -/
mutual
def uptoBulk {H : Type} : DataW H → Nat
  | .lit (.string bytes) => bytes.length + 1
  | .lit _ => 1
  | .nil => 1
  | .ptr d => uptoBulk d + 1
  | .slice elems spare => uptoBulkAll elems + uptoBulkAll spare + 1
  | .agg parts => uptoBulkAll parts + 1
  | .iface _ d => uptoBulk d + 1
  | .map entries => uptoBulkEntries entries + 1
  | .held _ => 1
def uptoBulkAll {H : Type} : List (DataW H) → Nat
  | [] => 0
  | d :: r => uptoBulk d + uptoBulkAll r
def uptoBulkEntries {H : Type} : List (Lit × DataW H) → Nat
  | [] => 0
  | x :: r => uptoBulkEntry x + uptoBulkEntries r
def uptoBulkEntry {H : Type} : Lit × DataW H → Nat
  | (.string bytes, d) => bytes.length + uptoBulk d + 1
  | (_, d) => uptoBulk d + 1
 end
def uptoSmall : (H : Type) → List (DataW H) → Bool := fun _ ds => decide (uptoBulkAll ds ≤ 1048576)
def OpenSpec.upto (s : _root_.Go.ChangeSpec) : _root_.Go.OpenSpec := { _root_.Go.OpenSpec.ofChange s with cond := some uptoSmall }

/-- 'lifelinelaw07.NfaFits', WHERE WHAT IT READS IS OF BULK AT MOST 1048576: true; the input reads as it did. -/
def nfaFitsUptoRow : OpenClaim := { program := "ytlmjijejgfhmmaa", sum := "7b0f8f26a8a26b05c6a93581fd9d45f3c3f9faf7a83215b6710de8fe73b5c144", func := "lifeline/lifelinelaw07.NfaFits", spec := "nfaFits", recurses := true, plainKeys := false, apart := false, narrowed := true }
def NfaFitsUptoSaid : Prop := nfaFitsUptoRow.holds Try.pinned (OpenSpec.upto nfaFitsSpec)

/-- 'lifelinelaw07.NfaStep', WHERE WHAT IT READS IS OF BULK AT MOST 1048576: true; the input reads as it did. -/
def nfaStepUptoRow : OpenClaim := { program := "ytlmjijejgfhmmaa", sum := "7b0f8f26a8a26b05c6a93581fd9d45f3c3f9faf7a83215b6710de8fe73b5c144", func := "lifeline/lifelinelaw07.NfaStep", spec := "nfaStep", recurses := true, plainKeys := false, apart := false, narrowed := true }
def NfaStepUptoSaid : Prop := nfaStepUptoRow.holds Try.pinned (OpenSpec.upto nfaStepSpec)

/-- 'lifelinelaw07.NfaMore', WHERE WHAT IT READS IS OF BULK AT MOST 1048576: true; the input reads as it did. -/
def nfaMoreUptoRow : OpenClaim := { program := "ytlmjijejgfhmmaa", sum := "7b0f8f26a8a26b05c6a93581fd9d45f3c3f9faf7a83215b6710de8fe73b5c144", func := "lifeline/lifelinelaw07.NfaMore", spec := "nfaMore", recurses := true, plainKeys := false, apart := false, narrowed := true }
def NfaMoreUptoSaid : Prop := nfaMoreUptoRow.holds Try.pinned (OpenSpec.upto nfaMoreSpec)

/-- 'lifelinelaw07.NfaQuoted', WHERE WHAT IT READS IS OF BULK AT MOST 1048576: true; the input reads as it did. -/
def nfaQuotedUptoRow : OpenClaim := { program := "ytlmjijejgfhmmaa", sum := "7b0f8f26a8a26b05c6a93581fd9d45f3c3f9faf7a83215b6710de8fe73b5c144", func := "lifeline/lifelinelaw07.NfaQuoted", spec := "nfaQuoted", inPlace := ["internal/bytealg.IndexByteString", "internal/abi.NoEscape"], recurses := true, plainKeys := false, apart := false, narrowed := true }
def NfaQuotedUptoSaid : Prop := nfaQuotedUptoRow.holds Try.pinned (OpenSpec.upto nfaQuotedSpec)

/-- 'lifelinelaw07.NfaStar', WHERE WHAT IT READS IS OF BULK AT MOST 1048576: true; the input reads as it did. -/
def nfaStarUptoRow : OpenClaim := { program := "ytlmjijejgfhmmaa", sum := "7b0f8f26a8a26b05c6a93581fd9d45f3c3f9faf7a83215b6710de8fe73b5c144", func := "lifeline/lifelinelaw07.NfaStar", spec := "nfaStar", recurses := true, plainKeys := false, apart := false, narrowed := true }
def NfaStarUptoSaid : Prop := nfaStarUptoRow.holds Try.pinned (OpenSpec.upto nfaStarSpec)

end Rows
end Go.Proofs.Ytlmjijejgfhmmaa
