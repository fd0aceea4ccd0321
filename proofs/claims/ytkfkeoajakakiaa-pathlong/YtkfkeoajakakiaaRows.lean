/-
  No cell of these rows narrows 'for every input' (looked for: loops, veiled, ifaces, maps, wideKeys, modest, calm, conditions, laid).
  DERIVED. THE GIVEN ROWS OF THIS SEAT. 4 by the template 'for every input the law returns true; each argument reads behind the call as it read before'; 0 by the template 'total and deterministic' (their statements: YtkfkeoajakakiaaTotals.lean).
  GIVEN WITH THE SEED: the statements are not yours to turn. If you find one false, say at which input.
  Laid BY PROGRAM, IN A SANDBOX (cutbox-rows.mjs): the forced cells as the released guide's own fill.sh prints them over the translation 8bf5199e7a3346d1… (all of the seat's roots in one cut). By AI agents, Wed Nov 11 2026. No macro, syntax, notation, axiom, sorry.
-/
import Derived.Test.YtkfkeoajakakiaaChecked
import GoSem.Claim
import GoSem.ClaimJoined
import GoSem.ClaimMapViews
import Derived.JoinedTies
import Derived.KernelRfl
namespace Go.Proofs.Ytkfkeoajakakiaa
/- THE CELL 'sum', in the pinned program and in every row, IS THE sha256 OF THE DUMP (.gsa) THAT YtkfkeoajakakiaaProg.lean LOADS. Nothing in Lean hashes anything: it is a label: what it is worth is what the hold of that sum in a sandbox is worth. -/
noncomputable def Try.pinned : Pinned := { name := "ytkfkeoajakakiaa", sum := "8bf5199e7a3346d1a4a08adba42de1625c38d77ac8ae225c214dabe367dae9aa", checked := Try.checked }
namespace Rows
def none {H : Type} : Left H := { results := [], args := [] }

/-- 'anvillaw2.PathCleans': WHATEVER THE INPUT: true; the input reads as it did. -/
def pathCleansSpec : ChangeSpec := { name := "pathCleans", fn := fun _ => fun
  | [d1, d2] => { results := [.lit (.bool true)], args := [d1, d2] }
  | _ => none }
def pathCleansRow : OpenClaim := { program := "ytkfkeoajakakiaa", sum := "8bf5199e7a3346d1a4a08adba42de1625c38d77ac8ae225c214dabe367dae9aa", func := "anvil/anvillaw2.PathCleans", spec := "pathCleans", inPlace := ["internal/abi.NoEscape", "internal/bytealg.IndexByteString", "internal/bytealg.IndexString"], named := ["internal/bytealg.MaxLen"], apart := false }
def PathCleansSaid : Prop := pathCleansRow.holds Try.pinned (OpenSpec.ofChange pathCleansSpec)

/-- ITS FALSE NEIGHBOUR: 'it returns false'. Refute it at one input. -/
def pathCleansWrong : ChangeSpec := { name := "pathCleans", fn := fun _ => fun
  | [d1, d2] => { results := [.lit (.bool false)], args := [d1, d2] }
  | _ => none }
def PathCleansWrongFalsely : Prop := pathCleansRow.holds Try.pinned (OpenSpec.ofChange pathCleansWrong)

/-- 'anvillaw2.PathWords': WHATEVER THE INPUT: true; the input reads as it did. -/
def pathWordsSpec : ChangeSpec := { name := "pathWords", fn := fun _ => fun
  | [d] => { results := [.lit (.bool true)], args := [d] }
  | _ => none }
def pathWordsRow : OpenClaim := { program := "ytkfkeoajakakiaa", sum := "8bf5199e7a3346d1a4a08adba42de1625c38d77ac8ae225c214dabe367dae9aa", func := "anvil/anvillaw2.PathWords", spec := "pathWords", inPlace := ["internal/abi.NoEscape"], apart := false }
def PathWordsSaid : Prop := pathWordsRow.holds Try.pinned (OpenSpec.ofChange pathWordsSpec)

/-- ITS FALSE NEIGHBOUR: 'it returns false'. Refute it at one input. -/
def pathWordsWrong : ChangeSpec := { name := "pathWords", fn := fun _ => fun
  | [d] => { results := [.lit (.bool false)], args := [d] }
  | _ => none }
def PathWordsWrongFalsely : Prop := pathWordsRow.holds Try.pinned (OpenSpec.ofChange pathWordsWrong)

/-- 'anvillaw2.PathLaws': WHATEVER THE INPUT: true; the input reads as it did. -/
def pathLawsSpec : ChangeSpec := { name := "pathLaws", fn := fun _ => fun
  | [d] => { results := [.lit (.bool true)], args := [d] }
  | _ => none }
def pathLawsRow : OpenClaim := { program := "ytkfkeoajakakiaa", sum := "8bf5199e7a3346d1a4a08adba42de1625c38d77ac8ae225c214dabe367dae9aa", func := "anvil/anvillaw2.PathLaws", spec := "pathLaws", inPlace := ["internal/abi.NoEscape"], apart := false }
def PathLawsSaid : Prop := pathLawsRow.holds Try.pinned (OpenSpec.ofChange pathLawsSpec)

/-- ITS FALSE NEIGHBOUR: 'it returns false'. Refute it at one input. -/
def pathLawsWrong : ChangeSpec := { name := "pathLaws", fn := fun _ => fun
  | [d] => { results := [.lit (.bool false)], args := [d] }
  | _ => none }
def PathLawsWrongFalsely : Prop := pathLawsRow.holds Try.pinned (OpenSpec.ofChange pathLawsWrong)

/-- 'anvillaw2.PathLong': WHATEVER THE INPUT: true; the input reads as it did. -/
def pathLongSpec : ChangeSpec := { name := "pathLong", fn := fun _ => fun
  | [d1, d2] => { results := [.lit (.bool true)], args := [d1, d2] }
  | _ => none }
def pathLongRow : OpenClaim := { program := "ytkfkeoajakakiaa", sum := "8bf5199e7a3346d1a4a08adba42de1625c38d77ac8ae225c214dabe367dae9aa", func := "anvil/anvillaw2.PathLong", spec := "pathLong", inPlace := ["internal/abi.NoEscape", "internal/bytealg.IndexByteString", "internal/bytealg.IndexString"], named := ["internal/bytealg.MaxLen"], apart := false }
def PathLongSaid : Prop := pathLongRow.holds Try.pinned (OpenSpec.ofChange pathLongSpec)

/-- ITS FALSE NEIGHBOUR: 'it returns false'. Refute it at one input. -/
def pathLongWrong : ChangeSpec := { name := "pathLong", fn := fun _ => fun
  | [d1, d2] => { results := [.lit (.bool false)], args := [d1, d2] }
  | _ => none }
def PathLongWrongFalsely : Prop := pathLongRow.holds Try.pinned (OpenSpec.ofChange pathLongWrong)

/- THE SECOND FORM. 'bulk': how many values and letters a reading holds, each counted each time it is reached (what is shared counts as often as it is met; a slice's spare places count too). A statement '..UptoSaid' is the law's where the arguments, and the package variables that the reading takes, are together of bulk at most 1048576: NARROWER than '..Said'. Prove '..Said' where nothing that the law and all that it calls make is longer than what came in: it says more and counts as full. Else prove '..UptoSaid'. A law counts once. -/
mutual
def uptoBulk {H : Type} : DataW H → Nat
  | .lit (.string bytes) => bytes.length + 1
  | .lit _ => 1
  | .nil => 1
  | .ptr d => uptoBulk d + 1
  | .slice elems spare => uptoBulkAll elems + uptoBulkAll spare + 1
  | .agg parts => uptoBulkAll parts + 1
  | .iface _ d => uptoBulk d + 1
  | .map entries => uptoBulkEntries entries + 1
  | .held _ => 1
def uptoBulkAll {H : Type} : List (DataW H) → Nat
  | [] => 0
  | d :: r => uptoBulk d + uptoBulkAll r
def uptoBulkEntries {H : Type} : List (Lit × DataW H) → Nat
  | [] => 0
  | x :: r => uptoBulkEntry x + uptoBulkEntries r
def uptoBulkEntry {H : Type} : Lit × DataW H → Nat
  | (.string bytes, d) => bytes.length + uptoBulk d + 1
  | (_, d) => uptoBulk d + 1
 end
def uptoSmall : (H : Type) → List (DataW H) → Bool := fun _ ds => decide (uptoBulkAll ds ≤ 1048576)
def OpenSpec.upto (s : _root_.Go.ChangeSpec) : _root_.Go.OpenSpec := { _root_.Go.OpenSpec.ofChange s with cond := some uptoSmall }

/-- 'anvillaw2.PathCleans', WHERE WHAT IT READS IS OF BULK AT MOST 1048576: true; the input reads as it did. -/
def pathCleansUptoRow : OpenClaim := { program := "ytkfkeoajakakiaa", sum := "8bf5199e7a3346d1a4a08adba42de1625c38d77ac8ae225c214dabe367dae9aa", func := "anvil/anvillaw2.PathCleans", spec := "pathCleans", inPlace := ["internal/abi.NoEscape", "internal/bytealg.IndexByteString", "internal/bytealg.IndexString"], named := ["internal/bytealg.MaxLen"], apart := false, narrowed := true }
def PathCleansUptoSaid : Prop := pathCleansUptoRow.holds Try.pinned (OpenSpec.upto pathCleansSpec)

/-- 'anvillaw2.PathWords', WHERE WHAT IT READS IS OF BULK AT MOST 1048576: true; the input reads as it did. -/
def pathWordsUptoRow : OpenClaim := { program := "ytkfkeoajakakiaa", sum := "8bf5199e7a3346d1a4a08adba42de1625c38d77ac8ae225c214dabe367dae9aa", func := "anvil/anvillaw2.PathWords", spec := "pathWords", inPlace := ["internal/abi.NoEscape"], apart := false, narrowed := true }
def PathWordsUptoSaid : Prop := pathWordsUptoRow.holds Try.pinned (OpenSpec.upto pathWordsSpec)

/-- 'anvillaw2.PathLaws', WHERE WHAT IT READS IS OF BULK AT MOST 1048576: true; the input reads as it did. -/
def pathLawsUptoRow : OpenClaim := { program := "ytkfkeoajakakiaa", sum := "8bf5199e7a3346d1a4a08adba42de1625c38d77ac8ae225c214dabe367dae9aa", func := "anvil/anvillaw2.PathLaws", spec := "pathLaws", inPlace := ["internal/abi.NoEscape"], apart := false, narrowed := true }
def PathLawsUptoSaid : Prop := pathLawsUptoRow.holds Try.pinned (OpenSpec.upto pathLawsSpec)

/-- 'anvillaw2.PathLong', WHERE WHAT IT READS IS OF BULK AT MOST 1048576: true; the input reads as it did. -/
def pathLongUptoRow : OpenClaim := { program := "ytkfkeoajakakiaa", sum := "8bf5199e7a3346d1a4a08adba42de1625c38d77ac8ae225c214dabe367dae9aa", func := "anvil/anvillaw2.PathLong", spec := "pathLong", inPlace := ["internal/abi.NoEscape", "internal/bytealg.IndexByteString", "internal/bytealg.IndexString"], named := ["internal/bytealg.MaxLen"], apart := false, narrowed := true }
def PathLongUptoSaid : Prop := pathLongUptoRow.holds Try.pinned (OpenSpec.upto pathLongSpec)

end Rows
end Go.Proofs.Ytkfkeoajakakiaa
