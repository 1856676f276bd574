/-
  No cell of these rows narrows 'for every input' (looked for: loops, veiled, ifaces, maps, wideKeys, modest, calm, conditions, laid).
  DERIVED. THE GIVEN ROWS OF THIS SEAT. 5 by the template 'for every input the law returns true; each argument reads behind the call as it read before'; 0 by the template 'total and deterministic' (their statements: YtjbkhaoddababaaTotals.lean).
  GIVEN WITH THE SEED: the statements are not yours to turn. If you find one false, say at which input.
  Laid BY PROGRAM, IN A SANDBOX (cutbox-rows.mjs): the forced cells as the released guide's own fill.sh prints them over the translation 3f71ad5bceba995c… (all of the seat's roots in one cut). By AI agents, Wed Nov 11 2026. No macro, syntax, notation, axiom, sorry.
-/
import Derived.Test.YtjbkhaoddababaaChecked
import GoSem.Claim
import GoSem.ClaimJoined
import GoSem.ClaimMapViews
import Derived.JoinedTies
import Derived.KernelRfl
namespace Go.Proofs.Ytjbkhaoddababaa
/- THE CELL 'sum', in the pinned program and in every row, IS THE sha256 OF THE DUMP (.gsa) THAT YtjbkhaoddababaaProg.lean LOADS. Nothing in Lean hashes anything: it is a label: what it is worth is what the hold of that sum in a sandbox is worth. -/
noncomputable def Try.pinned : Pinned := { name := "ytjbkhaoddababaa", sum := "3f71ad5bceba995cd10d2807bdae7b472f36003fc815ebdfb3b4c24dec32953c", checked := Try.checked }
namespace Rows
def none {H : Type} : Left H := { results := [], args := [] }

/-- 'lifelinelaw12.LinkRun': WHATEVER THE INPUT: true; the input reads as it did. -/
def linkRunSpec : ChangeSpec := { name := "linkRun", fn := fun _ => fun
  | [d1, d2, d3, d4, d5, d6] => { results := [.lit (.bool true)], args := [d1, d2, d3, d4, d5, d6] }
  | _ => none }
def linkRunRow : OpenClaim := { program := "ytjbkhaoddababaa", sum := "3f71ad5bceba995cd10d2807bdae7b472f36003fc815ebdfb3b4c24dec32953c", func := "lifeline/lifelinelaw12.LinkRun", spec := "linkRun", apart := false }
def LinkRunSaid : Prop := linkRunRow.holds Try.pinned (OpenSpec.ofChange linkRunSpec)

/-- ITS FALSE NEIGHBOUR: 'it returns false'. Refute it at one input. -/
def linkRunWrong : ChangeSpec := { name := "linkRun", fn := fun _ => fun
  | [d1, d2, d3, d4, d5, d6] => { results := [.lit (.bool false)], args := [d1, d2, d3, d4, d5, d6] }
  | _ => none }
def LinkRunWrongFalsely : Prop := linkRunRow.holds Try.pinned (OpenSpec.ofChange linkRunWrong)

/-- 'lifelinelaw12.LinkClean': WHATEVER THE INPUT: true; the input reads as it did. -/
def linkCleanSpec : ChangeSpec := { name := "linkClean", fn := fun _ => fun
  | [d1, d2, d3, d4, d5] => { results := [.lit (.bool true)], args := [d1, d2, d3, d4, d5] }
  | _ => none }
def linkCleanRow : OpenClaim := { program := "ytjbkhaoddababaa", sum := "3f71ad5bceba995cd10d2807bdae7b472f36003fc815ebdfb3b4c24dec32953c", func := "lifeline/lifelinelaw12.LinkClean", spec := "linkClean", apart := false }
def LinkCleanSaid : Prop := linkCleanRow.holds Try.pinned (OpenSpec.ofChange linkCleanSpec)

/-- ITS FALSE NEIGHBOUR: 'it returns false'. Refute it at one input. -/
def linkCleanWrong : ChangeSpec := { name := "linkClean", fn := fun _ => fun
  | [d1, d2, d3, d4, d5] => { results := [.lit (.bool false)], args := [d1, d2, d3, d4, d5] }
  | _ => none }
def LinkCleanWrongFalsely : Prop := linkCleanRow.holds Try.pinned (OpenSpec.ofChange linkCleanWrong)

/-- 'lifelinelaw12.LinkTame': WHATEVER THE INPUT: true; the input reads as it did. -/
def linkTameSpec : ChangeSpec := { name := "linkTame", fn := fun _ => fun
  | [d1, d2, d3, d4, d5] => { results := [.lit (.bool true)], args := [d1, d2, d3, d4, d5] }
  | _ => none }
def linkTameRow : OpenClaim := { program := "ytjbkhaoddababaa", sum := "3f71ad5bceba995cd10d2807bdae7b472f36003fc815ebdfb3b4c24dec32953c", func := "lifeline/lifelinelaw12.LinkTame", spec := "linkTame", apart := false }
def LinkTameSaid : Prop := linkTameRow.holds Try.pinned (OpenSpec.ofChange linkTameSpec)

/-- ITS FALSE NEIGHBOUR: 'it returns false'. Refute it at one input. -/
def linkTameWrong : ChangeSpec := { name := "linkTame", fn := fun _ => fun
  | [d1, d2, d3, d4, d5] => { results := [.lit (.bool false)], args := [d1, d2, d3, d4, d5] }
  | _ => none }
def LinkTameWrongFalsely : Prop := linkTameRow.holds Try.pinned (OpenSpec.ofChange linkTameWrong)

/-- 'lifelinelaw12.LinkSafe': WHATEVER THE INPUT: true; the input reads as it did. -/
def linkSafeSpec : ChangeSpec := { name := "linkSafe", fn := fun _ => fun
  | [d1, d2, d3, d4, d5] => { results := [.lit (.bool true)], args := [d1, d2, d3, d4, d5] }
  | _ => none }
def linkSafeRow : OpenClaim := { program := "ytjbkhaoddababaa", sum := "3f71ad5bceba995cd10d2807bdae7b472f36003fc815ebdfb3b4c24dec32953c", func := "lifeline/lifelinelaw12.LinkSafe", spec := "linkSafe", apart := false }
def LinkSafeSaid : Prop := linkSafeRow.holds Try.pinned (OpenSpec.ofChange linkSafeSpec)

/-- ITS FALSE NEIGHBOUR: 'it returns false'. Refute it at one input. -/
def linkSafeWrong : ChangeSpec := { name := "linkSafe", fn := fun _ => fun
  | [d1, d2, d3, d4, d5] => { results := [.lit (.bool false)], args := [d1, d2, d3, d4, d5] }
  | _ => none }
def LinkSafeWrongFalsely : Prop := linkSafeRow.holds Try.pinned (OpenSpec.ofChange linkSafeWrong)

/-- 'lifelinelaw12.LinkMost': WHATEVER THE INPUT: true; the input reads as it did. -/
def linkMostSpec : ChangeSpec := { name := "linkMost", fn := fun _ => fun
  | [d1, d2, d3, d4, d5] => { results := [.lit (.bool true)], args := [d1, d2, d3, d4, d5] }
  | _ => none }
def linkMostRow : OpenClaim := { program := "ytjbkhaoddababaa", sum := "3f71ad5bceba995cd10d2807bdae7b472f36003fc815ebdfb3b4c24dec32953c", func := "lifeline/lifelinelaw12.LinkMost", spec := "linkMost", apart := false }
def LinkMostSaid : Prop := linkMostRow.holds Try.pinned (OpenSpec.ofChange linkMostSpec)

/-- ITS FALSE NEIGHBOUR: 'it returns false'. Refute it at one input. -/
def linkMostWrong : ChangeSpec := { name := "linkMost", fn := fun _ => fun
  | [d1, d2, d3, d4, d5] => { results := [.lit (.bool false)], args := [d1, d2, d3, d4, d5] }
  | _ => none }
def LinkMostWrongFalsely : Prop := linkMostRow.holds Try.pinned (OpenSpec.ofChange linkMostWrong)

/- THE SECOND FORM. 'bulk': how many values and letters a reading holds, each counted each time it is reached (what is shared counts as often as it is met; a slice's spare places count too). A statement '..UptoSaid' is the law's where the arguments, and the package variables that the reading takes, are together of bulk at most 1048576: NARROWER than '..Said'. Prove '..Said' where nothing that the law and all that it calls make is longer than what came in: it says more and counts as full. Else prove '..UptoSaid'. A law counts once. -/
mutual
def uptoBulk {H : Type} : DataW H → Nat
  | .lit (.string bytes) => bytes.length + 1
  | .lit _ => 1
  | .nil => 1
  | .ptr d => uptoBulk d + 1
  | .slice elems spare => uptoBulkAll elems + uptoBulkAll spare + 1
  | .agg parts => uptoBulkAll parts + 1
  | .iface _ d => uptoBulk d + 1
  | .map entries => uptoBulkEntries entries + 1
  | .held _ => 1
def uptoBulkAll {H : Type} : List (DataW H) → Nat
  | [] => 0
  | d :: r => uptoBulk d + uptoBulkAll r
def uptoBulkEntries {H : Type} : List (Lit × DataW H) → Nat
  | [] => 0
  | x :: r => uptoBulkEntry x + uptoBulkEntries r
def uptoBulkEntry {H : Type} : Lit × DataW H → Nat
  | (.string bytes, d) => bytes.length + uptoBulk d + 1
  | (_, d) => uptoBulk d + 1
 end
def uptoSmall : (H : Type) → List (DataW H) → Bool := fun _ ds => decide (uptoBulkAll ds ≤ 1048576)
def OpenSpec.upto (s : _root_.Go.ChangeSpec) : _root_.Go.OpenSpec := { _root_.Go.OpenSpec.ofChange s with cond := some uptoSmall }

/-- 'lifelinelaw12.LinkRun', WHERE WHAT IT READS IS OF BULK AT MOST 1048576: true; the input reads as it did. -/
def linkRunUptoRow : OpenClaim := { program := "ytjbkhaoddababaa", sum := "3f71ad5bceba995cd10d2807bdae7b472f36003fc815ebdfb3b4c24dec32953c", func := "lifeline/lifelinelaw12.LinkRun", spec := "linkRun", apart := false, narrowed := true }
def LinkRunUptoSaid : Prop := linkRunUptoRow.holds Try.pinned (OpenSpec.upto linkRunSpec)

/-- 'lifelinelaw12.LinkClean', WHERE WHAT IT READS IS OF BULK AT MOST 1048576: true; the input reads as it did. -/
def linkCleanUptoRow : OpenClaim := { program := "ytjbkhaoddababaa", sum := "3f71ad5bceba995cd10d2807bdae7b472f36003fc815ebdfb3b4c24dec32953c", func := "lifeline/lifelinelaw12.LinkClean", spec := "linkClean", apart := false, narrowed := true }
def LinkCleanUptoSaid : Prop := linkCleanUptoRow.holds Try.pinned (OpenSpec.upto linkCleanSpec)

/-- 'lifelinelaw12.LinkTame', WHERE WHAT IT READS IS OF BULK AT MOST 1048576: true; the input reads as it did. -/
def linkTameUptoRow : OpenClaim := { program := "ytjbkhaoddababaa", sum := "3f71ad5bceba995cd10d2807bdae7b472f36003fc815ebdfb3b4c24dec32953c", func := "lifeline/lifelinelaw12.LinkTame", spec := "linkTame", apart := false, narrowed := true }
def LinkTameUptoSaid : Prop := linkTameUptoRow.holds Try.pinned (OpenSpec.upto linkTameSpec)

/-- 'lifelinelaw12.LinkSafe', WHERE WHAT IT READS IS OF BULK AT MOST 1048576: true; the input reads as it did. -/
def linkSafeUptoRow : OpenClaim := { program := "ytjbkhaoddababaa", sum := "3f71ad5bceba995cd10d2807bdae7b472f36003fc815ebdfb3b4c24dec32953c", func := "lifeline/lifelinelaw12.LinkSafe", spec := "linkSafe", apart := false, narrowed := true }
def LinkSafeUptoSaid : Prop := linkSafeUptoRow.holds Try.pinned (OpenSpec.upto linkSafeSpec)

/-- 'lifelinelaw12.LinkMost', WHERE WHAT IT READS IS OF BULK AT MOST 1048576: true; the input reads as it did. -/
def linkMostUptoRow : OpenClaim := { program := "ytjbkhaoddababaa", sum := "3f71ad5bceba995cd10d2807bdae7b472f36003fc815ebdfb3b4c24dec32953c", func := "lifeline/lifelinelaw12.LinkMost", spec := "linkMost", apart := false, narrowed := true }
def LinkMostUptoSaid : Prop := linkMostUptoRow.holds Try.pinned (OpenSpec.upto linkMostSpec)

end Rows
end Go.Proofs.Ytjbkhaoddababaa
