/-
  No cell of these rows narrows 'for every input' (looked for: loops, veiled, ifaces, maps, wideKeys, modest, calm, conditions, laid).
  DERIVED. THE GIVEN ROWS OF THIS SEAT. 3 by the template 'for every input the law returns true; each argument reads behind the call as it read before'; 0 by the template 'total and deterministic' (their statements: YtbegdhbpcgflkaaTotals.lean).
  GIVEN WITH THE SEED: the statements are not yours to turn. If you find one false, say at which input.
  Laid BY PROGRAM, IN A SANDBOX (cutbox-rows.mjs): the forced cells as the released guide's own fill.sh prints them over the translation 9d0773f137fae79b… (all of the seat's roots in one cut). By AI agents, Wed Nov 11 2026. No macro, syntax, notation, axiom, sorry.
-/
import Derived.Test.YtbegdhbpcgflkaaChecked
import GoSem.Claim
import GoSem.ClaimJoined
import GoSem.ClaimMapViews
import Derived.JoinedTies
import Derived.KernelRfl
namespace Go.Proofs.Ytbegdhbpcgflkaa
/- THE CELL 'sum', in the pinned program and in every row, IS THE sha256 OF THE DUMP (.gsa) THAT YtbegdhbpcgflkaaProg.lean LOADS. Nothing in Lean hashes anything: it is a label: what it is worth is what the hold of that sum in a sandbox is worth. -/
noncomputable def Try.pinned : Pinned := { name := "ytbegdhbpcgflkaa", sum := "9d0773f137fae79b36885e54244abaf714081086d9fad95740cee35b784aa5ab", checked := Try.checked }
namespace Rows
def none {H : Type} : Left H := { results := [], args := [] }

/-- 'anvillaw3.PatMatches': WHATEVER THE INPUT: true; the input reads as it did. -/
def patMatchesSpec : ChangeSpec := { name := "patMatches", fn := fun _ => fun
  | [d1, d2, d3] => { results := [.lit (.bool true)], args := [d1, d2, d3] }
  | _ => none }
def patMatchesRow : OpenClaim := { program := "ytbegdhbpcgflkaa", sum := "9d0773f137fae79b36885e54244abaf714081086d9fad95740cee35b784aa5ab", func := "anvil/anvillaw3.PatMatches", spec := "patMatches", inPlace := ["internal/bytealg.IndexByteString", "internal/bytealg.IndexString", "internal/abi.NoEscape"], named := ["internal/bytealg.MaxLen"], apart := false }
def PatMatchesSaid : Prop := patMatchesRow.holds Try.pinned (OpenSpec.ofChange patMatchesSpec)

/-- ITS FALSE NEIGHBOUR: 'it returns false'. Refute it at one input. -/
def patMatchesWrong : ChangeSpec := { name := "patMatches", fn := fun _ => fun
  | [d1, d2, d3] => { results := [.lit (.bool false)], args := [d1, d2, d3] }
  | _ => none }
def PatMatchesWrongFalsely : Prop := patMatchesRow.holds Try.pinned (OpenSpec.ofChange patMatchesWrong)

/-- 'anvillaw3.PatFilters': WHATEVER THE INPUT: true; the input reads as it did. -/
def patFiltersSpec : ChangeSpec := { name := "patFilters", fn := fun _ => fun
  | [d1, d2] => { results := [.lit (.bool true)], args := [d1, d2] }
  | _ => none }
def patFiltersRow : OpenClaim := { program := "ytbegdhbpcgflkaa", sum := "9d0773f137fae79b36885e54244abaf714081086d9fad95740cee35b784aa5ab", func := "anvil/anvillaw3.PatFilters", spec := "patFilters", inPlace := ["internal/bytealg.IndexByteString", "internal/bytealg.IndexString", "internal/abi.NoEscape"], unfollowed := true, recurses := true, named := ["internal/bytealg.MaxLen"], apart := false }
def PatFiltersSaid : Prop := patFiltersRow.holds Try.pinned (OpenSpec.ofChange patFiltersSpec)

/-- ITS FALSE NEIGHBOUR: 'it returns false'. Refute it at one input. -/
def patFiltersWrong : ChangeSpec := { name := "patFilters", fn := fun _ => fun
  | [d1, d2] => { results := [.lit (.bool false)], args := [d1, d2] }
  | _ => none }
def PatFiltersWrongFalsely : Prop := patFiltersRow.holds Try.pinned (OpenSpec.ofChange patFiltersWrong)

/-- 'anvillaw3.PatBack': WHATEVER THE INPUT: true; the input reads as it did. -/
def patBackSpec : ChangeSpec := { name := "patBack", fn := fun _ => fun
  | [d1, d2, d3] => { results := [.lit (.bool true)], args := [d1, d2, d3] }
  | _ => none }
def patBackRow : OpenClaim := { program := "ytbegdhbpcgflkaa", sum := "9d0773f137fae79b36885e54244abaf714081086d9fad95740cee35b784aa5ab", func := "anvil/anvillaw3.PatBack", spec := "patBack", inPlace := ["internal/bytealg.IndexByteString", "internal/bytealg.IndexString", "internal/abi.NoEscape"], named := ["internal/bytealg.MaxLen"], apart := false }
def PatBackSaid : Prop := patBackRow.holds Try.pinned (OpenSpec.ofChange patBackSpec)

/-- ITS FALSE NEIGHBOUR: 'it returns false'. Refute it at one input. -/
def patBackWrong : ChangeSpec := { name := "patBack", fn := fun _ => fun
  | [d1, d2, d3] => { results := [.lit (.bool false)], args := [d1, d2, d3] }
  | _ => none }
def PatBackWrongFalsely : Prop := patBackRow.holds Try.pinned (OpenSpec.ofChange patBackWrong)

/- THE SECOND FORM. 'bulk': how many values and letters a reading holds, each counted each time it is reached (what is shared counts as often as it is met; a slice's spare places count too). A statement '..UptoSaid' is the law's where the arguments, and the package variables that the reading takes, are together of bulk at most 1048576: NARROWER than '..Said'. Prove '..Said' where nothing that the law and all that it calls make is longer than what came in: it says more and counts as full. Else prove '..UptoSaid'. A law counts once. -/
mutual
def uptoBulk {H : Type} : DataW H → Nat
  | .lit (.string bytes) => bytes.length + 1
  | .lit _ => 1
  | .nil => 1
  | .ptr d => uptoBulk d + 1
  | .slice elems spare => uptoBulkAll elems + uptoBulkAll spare + 1
  | .agg parts => uptoBulkAll parts + 1
  | .iface _ d => uptoBulk d + 1
  | .map entries => uptoBulkEntries entries + 1
  | .held _ => 1
def uptoBulkAll {H : Type} : List (DataW H) → Nat
  | [] => 0
  | d :: r => uptoBulk d + uptoBulkAll r
def uptoBulkEntries {H : Type} : List (Lit × DataW H) → Nat
  | [] => 0
  | x :: r => uptoBulkEntry x + uptoBulkEntries r
def uptoBulkEntry {H : Type} : Lit × DataW H → Nat
  | (.string bytes, d) => bytes.length + uptoBulk d + 1
  | (_, d) => uptoBulk d + 1
 end
def uptoSmall : (H : Type) → List (DataW H) → Bool := fun _ ds => decide (uptoBulkAll ds ≤ 1048576)
def OpenSpec.upto (s : _root_.Go.ChangeSpec) : _root_.Go.OpenSpec := { _root_.Go.OpenSpec.ofChange s with cond := some uptoSmall }

/-- 'anvillaw3.PatMatches', WHERE WHAT IT READS IS OF BULK AT MOST 1048576: true; the input reads as it did. -/
def patMatchesUptoRow : OpenClaim := { program := "ytbegdhbpcgflkaa", sum := "9d0773f137fae79b36885e54244abaf714081086d9fad95740cee35b784aa5ab", func := "anvil/anvillaw3.PatMatches", spec := "patMatches", inPlace := ["internal/bytealg.IndexByteString", "internal/bytealg.IndexString", "internal/abi.NoEscape"], named := ["internal/bytealg.MaxLen"], apart := false, narrowed := true }
def PatMatchesUptoSaid : Prop := patMatchesUptoRow.holds Try.pinned (OpenSpec.upto patMatchesSpec)

/-- 'anvillaw3.PatFilters', WHERE WHAT IT READS IS OF BULK AT MOST 1048576: true; the input reads as it did. -/
def patFiltersUptoRow : OpenClaim := { program := "ytbegdhbpcgflkaa", sum := "9d0773f137fae79b36885e54244abaf714081086d9fad95740cee35b784aa5ab", func := "anvil/anvillaw3.PatFilters", spec := "patFilters", inPlace := ["internal/bytealg.IndexByteString", "internal/bytealg.IndexString", "internal/abi.NoEscape"], unfollowed := true, recurses := true, named := ["internal/bytealg.MaxLen"], apart := false, narrowed := true }
def PatFiltersUptoSaid : Prop := patFiltersUptoRow.holds Try.pinned (OpenSpec.upto patFiltersSpec)

/-- 'anvillaw3.PatBack', WHERE WHAT IT READS IS OF BULK AT MOST 1048576: true; the input reads as it did. -/
def patBackUptoRow : OpenClaim := { program := "ytbegdhbpcgflkaa", sum := "9d0773f137fae79b36885e54244abaf714081086d9fad95740cee35b784aa5ab", func := "anvil/anvillaw3.PatBack", spec := "patBack", inPlace := ["internal/bytealg.IndexByteString", "internal/bytealg.IndexString", "internal/abi.NoEscape"], named := ["internal/bytealg.MaxLen"], apart := false, narrowed := true }
def PatBackUptoSaid : Prop := patBackUptoRow.holds Try.pinned (OpenSpec.upto patBackSpec)

end Rows
end Go.Proofs.Ytbegdhbpcgflkaa
