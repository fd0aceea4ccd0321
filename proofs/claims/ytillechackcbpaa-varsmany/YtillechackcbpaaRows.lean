/-
  No cell of these rows narrows 'for every input' (looked for: loops, veiled, ifaces, maps, wideKeys, modest, calm, conditions, laid).
  DERIVED. THE GIVEN ROWS OF THIS SEAT. 4 by the template 'for every input the law returns true; each argument reads behind the call as it read before'; 0 by the template 'total and deterministic' (their statements: YtillechackcbpaaTotals.lean).
  GIVEN WITH THE SEED: the statements are not yours to turn. If you find one false, say at which input.
  Laid BY PROGRAM, IN A SANDBOX (cutbox-rows.mjs): the forced cells as the released guide's own fill.sh prints them over the translation 28219a65a7925732… (all of the seat's roots in one cut). By AI agents, Wed Nov 11 2026. No macro, syntax, notation, axiom, sorry.
-/
import Derived.Test.YtillechackcbpaaChecked
import GoSem.Claim
import GoSem.ClaimJoined
import GoSem.ClaimMapViews
import Derived.JoinedTies
import Derived.KernelRfl
namespace Go.Proofs.Ytillechackcbpaa
/- THE CELL 'sum', in the pinned program and in every row, IS THE sha256 OF THE DUMP (.gsa) THAT YtillechackcbpaaProg.lean LOADS. Nothing in Lean hashes anything: it is a label: what it is worth is what the hold of that sum in a sandbox is worth. -/
noncomputable def Try.pinned : Pinned := { name := "ytillechackcbpaa", sum := "28219a65a79257320bacd87a45d351744a23b25f0011ba70bb6bb2317bc7394e", checked := Try.checked }
namespace Rows
def none {H : Type} : Left H := { results := [], args := [] }

/-- 'anvillaw14.VarsPlays': WHATEVER THE INPUT: true; the input reads as it did. -/
def varsPlaysSpec : ChangeSpec := { name := "varsPlays", fn := fun _ => fun
  | [d] => { results := [.lit (.bool true)], args := [d] }
  | _ => none }
def varsPlaysRow : OpenClaim := { program := "ytillechackcbpaa", sum := "28219a65a79257320bacd87a45d351744a23b25f0011ba70bb6bb2317bc7394e", func := "anvil/anvillaw14.VarsPlays", spec := "varsPlays", unfollowed := true, recurses := true, apart := false }
def VarsPlaysSaid : Prop := varsPlaysRow.holds Try.pinned (OpenSpec.ofChange varsPlaysSpec)

/-- ITS FALSE NEIGHBOUR: 'it returns false'. Refute it at one input. -/
def varsPlaysWrong : ChangeSpec := { name := "varsPlays", fn := fun _ => fun
  | [d] => { results := [.lit (.bool false)], args := [d] }
  | _ => none }
def VarsPlaysWrongFalsely : Prop := varsPlaysRow.holds Try.pinned (OpenSpec.ofChange varsPlaysWrong)

/-- 'anvillaw14.VarsSpecial': WHATEVER THE INPUT: true; the input reads as it did. -/
def varsSpecialSpec : ChangeSpec := { name := "varsSpecial", fn := fun _ => fun
  | [d1, d2, d3] => { results := [.lit (.bool true)], args := [d1, d2, d3] }
  | _ => none }
def varsSpecialRow : OpenClaim := { program := "ytillechackcbpaa", sum := "28219a65a79257320bacd87a45d351744a23b25f0011ba70bb6bb2317bc7394e", func := "anvil/anvillaw14.VarsSpecial", spec := "varsSpecial", inPlace := ["internal/bytealg.IndexByteString", "internal/bytealg.IndexString", "internal/abi.NoEscape"], unfollowed := true, recurses := true, named := ["internal/bytealg.MaxLen"], apart := false }
def VarsSpecialSaid : Prop := varsSpecialRow.holds Try.pinned (OpenSpec.ofChange varsSpecialSpec)

/-- ITS FALSE NEIGHBOUR: 'it returns false'. Refute it at one input. -/
def varsSpecialWrong : ChangeSpec := { name := "varsSpecial", fn := fun _ => fun
  | [d1, d2, d3] => { results := [.lit (.bool false)], args := [d1, d2, d3] }
  | _ => none }
def VarsSpecialWrongFalsely : Prop := varsSpecialRow.holds Try.pinned (OpenSpec.ofChange varsSpecialWrong)

/-- 'anvillaw14.VarsOrigins': WHATEVER THE INPUT: true; the input reads as it did. -/
def varsOriginsSpec : ChangeSpec := { name := "varsOrigins", fn := fun _ => fun
  | [d1, d2, d3] => { results := [.lit (.bool true)], args := [d1, d2, d3] }
  | _ => none }
def varsOriginsRow : OpenClaim := { program := "ytillechackcbpaa", sum := "28219a65a79257320bacd87a45d351744a23b25f0011ba70bb6bb2317bc7394e", func := "anvil/anvillaw14.VarsOrigins", spec := "varsOrigins", apart := false }
def VarsOriginsSaid : Prop := varsOriginsRow.holds Try.pinned (OpenSpec.ofChange varsOriginsSpec)

/-- ITS FALSE NEIGHBOUR: 'it returns false'. Refute it at one input. -/
def varsOriginsWrong : ChangeSpec := { name := "varsOrigins", fn := fun _ => fun
  | [d1, d2, d3] => { results := [.lit (.bool false)], args := [d1, d2, d3] }
  | _ => none }
def VarsOriginsWrongFalsely : Prop := varsOriginsRow.holds Try.pinned (OpenSpec.ofChange varsOriginsWrong)

/-- 'anvillaw14.VarsMany': WHATEVER THE INPUT: true; the input reads as it did. -/
def varsManySpec : ChangeSpec := { name := "varsMany", fn := fun _ => fun
  | [d] => { results := [.lit (.bool true)], args := [d] }
  | _ => none }
def varsManyRow : OpenClaim := { program := "ytillechackcbpaa", sum := "28219a65a79257320bacd87a45d351744a23b25f0011ba70bb6bb2317bc7394e", func := "anvil/anvillaw14.VarsMany", spec := "varsMany", unfollowed := true, recurses := true, apart := false }
def VarsManySaid : Prop := varsManyRow.holds Try.pinned (OpenSpec.ofChange varsManySpec)

/-- ITS FALSE NEIGHBOUR: 'it returns false'. Refute it at one input. -/
def varsManyWrong : ChangeSpec := { name := "varsMany", fn := fun _ => fun
  | [d] => { results := [.lit (.bool false)], args := [d] }
  | _ => none }
def VarsManyWrongFalsely : Prop := varsManyRow.holds Try.pinned (OpenSpec.ofChange varsManyWrong)

/- THE SECOND FORM. 'bulk': how many values and letters a reading holds, each counted each time it is reached (what is shared counts as often as it is met; a slice's spare places count too). A statement '..UptoSaid' is the law's where the arguments, and the package variables that the reading takes, are together of bulk at most 1048576: NARROWER than '..Said'. Prove '..Said' where nothing that the law and all that it calls make is longer than what came in: it says more and counts as full. Else prove '..UptoSaid'. A law counts once. -/
mutual
def uptoBulk {H : Type} : DataW H → Nat
  | .lit (.string bytes) => bytes.length + 1
  | .lit _ => 1
  | .nil => 1
  | .ptr d => uptoBulk d + 1
  | .slice elems spare => uptoBulkAll elems + uptoBulkAll spare + 1
  | .agg parts => uptoBulkAll parts + 1
  | .iface _ d => uptoBulk d + 1
  | .map entries => uptoBulkEntries entries + 1
  | .held _ => 1
def uptoBulkAll {H : Type} : List (DataW H) → Nat
  | [] => 0
  | d :: r => uptoBulk d + uptoBulkAll r
def uptoBulkEntries {H : Type} : List (Lit × DataW H) → Nat
  | [] => 0
  | x :: r => uptoBulkEntry x + uptoBulkEntries r
def uptoBulkEntry {H : Type} : Lit × DataW H → Nat
  | (.string bytes, d) => bytes.length + uptoBulk d + 1
  | (_, d) => uptoBulk d + 1
 end
def uptoSmall : (H : Type) → List (DataW H) → Bool := fun _ ds => decide (uptoBulkAll ds ≤ 1048576)
def OpenSpec.upto (s : _root_.Go.ChangeSpec) : _root_.Go.OpenSpec := { _root_.Go.OpenSpec.ofChange s with cond := some uptoSmall }

/-- 'anvillaw14.VarsPlays', WHERE WHAT IT READS IS OF BULK AT MOST 1048576: true; the input reads as it did. -/
def varsPlaysUptoRow : OpenClaim := { program := "ytillechackcbpaa", sum := "28219a65a79257320bacd87a45d351744a23b25f0011ba70bb6bb2317bc7394e", func := "anvil/anvillaw14.VarsPlays", spec := "varsPlays", unfollowed := true, recurses := true, apart := false, narrowed := true }
def VarsPlaysUptoSaid : Prop := varsPlaysUptoRow.holds Try.pinned (OpenSpec.upto varsPlaysSpec)

/-- 'anvillaw14.VarsSpecial', WHERE WHAT IT READS IS OF BULK AT MOST 1048576: true; the input reads as it did. -/
def varsSpecialUptoRow : OpenClaim := { program := "ytillechackcbpaa", sum := "28219a65a79257320bacd87a45d351744a23b25f0011ba70bb6bb2317bc7394e", func := "anvil/anvillaw14.VarsSpecial", spec := "varsSpecial", inPlace := ["internal/bytealg.IndexByteString", "internal/bytealg.IndexString", "internal/abi.NoEscape"], unfollowed := true, recurses := true, named := ["internal/bytealg.MaxLen"], apart := false, narrowed := true }
def VarsSpecialUptoSaid : Prop := varsSpecialUptoRow.holds Try.pinned (OpenSpec.upto varsSpecialSpec)

/-- 'anvillaw14.VarsOrigins', WHERE WHAT IT READS IS OF BULK AT MOST 1048576: true; the input reads as it did. -/
def varsOriginsUptoRow : OpenClaim := { program := "ytillechackcbpaa", sum := "28219a65a79257320bacd87a45d351744a23b25f0011ba70bb6bb2317bc7394e", func := "anvil/anvillaw14.VarsOrigins", spec := "varsOrigins", apart := false, narrowed := true }
def VarsOriginsUptoSaid : Prop := varsOriginsUptoRow.holds Try.pinned (OpenSpec.upto varsOriginsSpec)

/-- 'anvillaw14.VarsMany', WHERE WHAT IT READS IS OF BULK AT MOST 1048576: true; the input reads as it did. -/
def varsManyUptoRow : OpenClaim := { program := "ytillechackcbpaa", sum := "28219a65a79257320bacd87a45d351744a23b25f0011ba70bb6bb2317bc7394e", func := "anvil/anvillaw14.VarsMany", spec := "varsMany", unfollowed := true, recurses := true, apart := false, narrowed := true }
def VarsManyUptoSaid : Prop := varsManyUptoRow.holds Try.pinned (OpenSpec.upto varsManySpec)

end Rows
end Go.Proofs.Ytillechackcbpaa
