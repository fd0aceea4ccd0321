/-
  NARROWER THAN 'FOR EVERY INPUT', by the rows' own cells (each row's printed sentence says how): RefsParses: laid · RefsScans: laid · RefsNames: laid · RefsPlain: laid.
  DERIVED. THE GIVEN ROWS OF THIS SEAT. 4 by the template 'for every input the law returns true; each argument reads behind the call as it read before'; 0 by the template 'total and deterministic' (their statements: YtaemmgllhmjceaaDoorTotals.lean).
  GIVEN WITH THE SEED: the statements are not yours to turn. If you find one false, say at which input.
  Laid BY PROGRAM, IN A SANDBOX (cutbox-rows.mjs): the forced cells as the released guide's own fill.sh prints them over the translation 86309e72b41cedc4… (all of the seat's roots in one cut). By AI agents, Wed Nov 11 2026. No macro, syntax, notation, axiom, sorry.
-/
import Derived.Test.YtaemmgllhmjceaaDoorChecked
import GoSem.PinnedTables
import GoSem.Claim
import GoSem.ClaimJoined
import GoSem.ClaimMapViews
import Derived.JoinedTies
import Derived.KernelRfl
namespace Go.Proofs.YtaemmgllhmjceaaDoor
/- THE CELL 'sum', in the pinned program and in every row, IS THE sha256 OF THE DUMP (.gsa) THAT YtaemmgllhmjceaaDoorProg.lean LOADS. Nothing in Lean hashes anything: it is a label: what it is worth is what the hold of that sum in a sandbox is worth. -/
noncomputable def Tryd.pinned : Pinned := { name := "ytaemmgllhmjceaadoor", sum := "86309e72b41cedc450c251fc268bdf515af5c9fb70b41f832fc58ca8badb68ce", checked := Tryd.checked }
namespace Rows
def none {H : Type} : Left H := { results := [], args := [] }

/- WHAT THE LISTED PACKAGE-LEVEL VARIABLES READ AS WHEN THE CALL BEGINS. Each datum BY PROGRAM (the guide's laid-datum.mjs) off the statement by which the dump's own 'gosem.cut.vars' lays the variable. In a bare row this is a premise. The card (YtaemmgllhmjceaaDoorCards.lean) ties it to the program's text. -/
def laid_unicode_utf8_acceptRanges {H : Type} : DataW H := .agg [.agg [.lit (.int .u8 128), .lit (.int .u8 191)], .agg [.lit (.int .u8 160), .lit (.int .u8 191)], .agg [.lit (.int .u8 128), .lit (.int .u8 159)], .agg [.lit (.int .u8 144), .lit (.int .u8 191)], .agg [.lit (.int .u8 128), .lit (.int .u8 143)], .agg [.lit (.int .u8 0), .lit (.int .u8 0)], .agg [.lit (.int .u8 0), .lit (.int .u8 0)], .agg [.lit (.int .u8 0), .lit (.int .u8 0)], .agg [.lit (.int .u8 0), .lit (.int .u8 0)], .agg [.lit (.int .u8 0), .lit (.int .u8 0)], .agg [.lit (.int .u8 0), .lit (.int .u8 0)], .agg [.lit (.int .u8 0), .lit (.int .u8 0)], .agg [.lit (.int .u8 0), .lit (.int .u8 0)], .agg [.lit (.int .u8 0), .lit (.int .u8 0)], .agg [.lit (.int .u8 0), .lit (.int .u8 0)], .agg [.lit (.int .u8 0), .lit (.int .u8 0)]]
def laid_anvil_refs_functions {H : Type} : DataW H := .agg [.agg [.lit (.string [97, 98, 115, 112, 97, 116, 104]), .lit (.int .i64 1), .lit (.int .i64 1)], .agg [.lit (.string [97, 100, 100, 112, 114, 101, 102, 105, 120]), .lit (.int .i64 2), .lit (.int .i64 2)], .agg [.lit (.string [97, 100, 100, 115, 117, 102, 102, 105, 120]), .lit (.int .i64 2), .lit (.int .i64 2)], .agg [.lit (.string [97, 110, 100]), .lit (.int .i64 1), .lit (.int .i64 (-1))], .agg [.lit (.string [98, 97, 115, 101, 110, 97, 109, 101]), .lit (.int .i64 1), .lit (.int .i64 1)], .agg [.lit (.string [99, 97, 108, 108]), .lit (.int .i64 1), .lit (.int .i64 (-1))], .agg [.lit (.string [100, 105, 114]), .lit (.int .i64 1), .lit (.int .i64 1)], .agg [.lit (.string [101, 114, 114, 111, 114]), .lit (.int .i64 1), .lit (.int .i64 1)], .agg [.lit (.string [101, 118, 97, 108]), .lit (.int .i64 1), .lit (.int .i64 1)], .agg [.lit (.string [102, 105, 108, 116, 101, 114]), .lit (.int .i64 2), .lit (.int .i64 2)], .agg [.lit (.string [102, 105, 108, 116, 101, 114, 45, 111, 117, 116]), .lit (.int .i64 2), .lit (.int .i64 2)], .agg [.lit (.string [102, 105, 110, 100, 115, 116, 114, 105, 110, 103]), .lit (.int .i64 2), .lit (.int .i64 2)], .agg [.lit (.string [102, 105, 114, 115, 116, 119, 111, 114, 100]), .lit (.int .i64 1), .lit (.int .i64 1)], .agg [.lit (.string [102, 108, 97, 118, 111, 114]), .lit (.int .i64 1), .lit (.int .i64 1)], .agg [.lit (.string [102, 111, 114, 101, 97, 99, 104]), .lit (.int .i64 3), .lit (.int .i64 3)], .agg [.lit (.string [105, 102]), .lit (.int .i64 2), .lit (.int .i64 3)], .agg [.lit (.string [105, 110, 102, 111]), .lit (.int .i64 1), .lit (.int .i64 1)], .agg [.lit (.string [106, 111, 105, 110]), .lit (.int .i64 2), .lit (.int .i64 2)], .agg [.lit (.string [108, 97, 115, 116, 119, 111, 114, 100]), .lit (.int .i64 1), .lit (.int .i64 1)], .agg [.lit (.string [110, 111, 116, 100, 105, 114]), .lit (.int .i64 1), .lit (.int .i64 1)], .agg [.lit (.string [111, 114]), .lit (.int .i64 1), .lit (.int .i64 (-1))], .agg [.lit (.string [111, 114, 105, 103, 105, 110]), .lit (.int .i64 1), .lit (.int .i64 1)], .agg [.lit (.string [112, 97, 116, 115, 117, 98, 115, 116]), .lit (.int .i64 3), .lit (.int .i64 3)], .agg [.lit (.string [115, 104, 101, 108, 108]), .lit (.int .i64 1), .lit (.int .i64 1)], .agg [.lit (.string [115, 111, 114, 116]), .lit (.int .i64 1), .lit (.int .i64 1)], .agg [.lit (.string [115, 116, 114, 105, 112]), .lit (.int .i64 1), .lit (.int .i64 1)], .agg [.lit (.string [115, 117, 98, 115, 116]), .lit (.int .i64 3), .lit (.int .i64 3)], .agg [.lit (.string [115, 117, 102, 102, 105, 120]), .lit (.int .i64 1), .lit (.int .i64 1)], .agg [.lit (.string [118, 97, 108, 117, 101]), .lit (.int .i64 1), .lit (.int .i64 1)], .agg [.lit (.string [119, 97, 114, 110, 105, 110, 103]), .lit (.int .i64 1), .lit (.int .i64 1)], .agg [.lit (.string [119, 105, 108, 100, 99, 97, 114, 100]), .lit (.int .i64 1), .lit (.int .i64 1)], .agg [.lit (.string [119, 111, 114, 100]), .lit (.int .i64 2), .lit (.int .i64 2)], .agg [.lit (.string [119, 111, 114, 100, 108, 105, 115, 116]), .lit (.int .i64 3), .lit (.int .i64 3)], .agg [.lit (.string [119, 111, 114, 100, 115]), .lit (.int .i64 1), .lit (.int .i64 1)]]
/-- One of Go's own tables, pinned by name: the form's constant. -/
def laid_unicode_utf8_first : DataW Unit := Go.Pinned.utf8First

/-- 'anvillaw15.RefsParses': WHATEVER THE INPUT: true; the input reads as it did. -/
def refsParsesSpec : ChangeSpec := { name := "refsParses", fn := fun _ => fun
  | [d1, d2] => { results := [.lit (.bool true)], args := [d1, d2] }
  | _ => none }
def refsParsesRow : OpenClaim := { program := "ytaemmgllhmjceaadoor", sum := "86309e72b41cedc450c251fc268bdf515af5c9fb70b41f832fc58ca8badb68ce", func := "anvil/anvillaw15.RefsParses", spec := "refsParses", inPlace := ["internal/bytealg.IndexByteString", "internal/bytealg.IndexString"], named := ["anvil/refs.functions", "unicode/utf8.first", "unicode/utf8.acceptRanges", "internal/bytealg.MaxLen"], apart := false, laid := [("unicode/utf8.acceptRanges", laid_unicode_utf8_acceptRanges), ("anvil/refs.functions", laid_anvil_refs_functions), ("unicode/utf8.first", laid_unicode_utf8_first)] }
def RefsParsesSaid : Prop := refsParsesRow.holds Tryd.pinned (OpenSpec.ofChange refsParsesSpec)

/-- ITS FALSE NEIGHBOUR: 'it returns false'. Refute it at one input. -/
def refsParsesWrong : ChangeSpec := { name := "refsParses", fn := fun _ => fun
  | [d1, d2] => { results := [.lit (.bool false)], args := [d1, d2] }
  | _ => none }
def RefsParsesWrongFalsely : Prop := refsParsesRow.holds Tryd.pinned (OpenSpec.ofChange refsParsesWrong)

/-- 'anvillaw15.RefsScans': WHATEVER THE INPUT: true; the input reads as it did. -/
def refsScansSpec : ChangeSpec := { name := "refsScans", fn := fun _ => fun
  | [d1, d2] => { results := [.lit (.bool true)], args := [d1, d2] }
  | _ => none }
def refsScansRow : OpenClaim := { program := "ytaemmgllhmjceaadoor", sum := "86309e72b41cedc450c251fc268bdf515af5c9fb70b41f832fc58ca8badb68ce", func := "anvil/anvillaw15.RefsScans", spec := "refsScans", inPlace := ["internal/bytealg.IndexByteString", "internal/bytealg.IndexString"], named := ["anvil/refs.functions", "unicode/utf8.first", "unicode/utf8.acceptRanges", "internal/bytealg.MaxLen"], apart := false, laid := [("unicode/utf8.acceptRanges", laid_unicode_utf8_acceptRanges), ("anvil/refs.functions", laid_anvil_refs_functions), ("unicode/utf8.first", laid_unicode_utf8_first)] }
def RefsScansSaid : Prop := refsScansRow.holds Tryd.pinned (OpenSpec.ofChange refsScansSpec)

/-- ITS FALSE NEIGHBOUR: 'it returns false'. Refute it at one input. -/
def refsScansWrong : ChangeSpec := { name := "refsScans", fn := fun _ => fun
  | [d1, d2] => { results := [.lit (.bool false)], args := [d1, d2] }
  | _ => none }
def RefsScansWrongFalsely : Prop := refsScansRow.holds Tryd.pinned (OpenSpec.ofChange refsScansWrong)

/-- 'anvillaw15.RefsNames': WHATEVER THE INPUT: true; the input reads as it did. -/
def refsNamesSpec : ChangeSpec := { name := "refsNames", fn := fun _ => fun
  | [d1, d2] => { results := [.lit (.bool true)], args := [d1, d2] }
  | _ => none }
def refsNamesRow : OpenClaim := { program := "ytaemmgllhmjceaadoor", sum := "86309e72b41cedc450c251fc268bdf515af5c9fb70b41f832fc58ca8badb68ce", func := "anvil/anvillaw15.RefsNames", spec := "refsNames", inPlace := ["internal/bytealg.IndexByteString", "internal/bytealg.IndexString"], named := ["anvil/refs.functions", "unicode/utf8.first", "unicode/utf8.acceptRanges", "internal/bytealg.MaxLen"], apart := false, laid := [("unicode/utf8.acceptRanges", laid_unicode_utf8_acceptRanges), ("anvil/refs.functions", laid_anvil_refs_functions), ("unicode/utf8.first", laid_unicode_utf8_first)] }
def RefsNamesSaid : Prop := refsNamesRow.holds Tryd.pinned (OpenSpec.ofChange refsNamesSpec)

/-- ITS FALSE NEIGHBOUR: 'it returns false'. Refute it at one input. -/
def refsNamesWrong : ChangeSpec := { name := "refsNames", fn := fun _ => fun
  | [d1, d2] => { results := [.lit (.bool false)], args := [d1, d2] }
  | _ => none }
def RefsNamesWrongFalsely : Prop := refsNamesRow.holds Tryd.pinned (OpenSpec.ofChange refsNamesWrong)

/-- 'anvillaw15.RefsPlain': WHATEVER THE INPUT: true; the input reads as it did. -/
def refsPlainSpec : ChangeSpec := { name := "refsPlain", fn := fun _ => fun
  | [d1, d2, d3] => { results := [.lit (.bool true)], args := [d1, d2, d3] }
  | _ => none }
def refsPlainRow : OpenClaim := { program := "ytaemmgllhmjceaadoor", sum := "86309e72b41cedc450c251fc268bdf515af5c9fb70b41f832fc58ca8badb68ce", func := "anvil/anvillaw15.RefsPlain", spec := "refsPlain", inPlace := ["internal/bytealg.IndexByteString", "internal/bytealg.IndexString"], named := ["anvil/refs.functions", "unicode/utf8.first", "unicode/utf8.acceptRanges", "internal/bytealg.MaxLen"], apart := false, laid := [("unicode/utf8.acceptRanges", laid_unicode_utf8_acceptRanges), ("anvil/refs.functions", laid_anvil_refs_functions), ("unicode/utf8.first", laid_unicode_utf8_first)] }
def RefsPlainSaid : Prop := refsPlainRow.holds Tryd.pinned (OpenSpec.ofChange refsPlainSpec)

/-- ITS FALSE NEIGHBOUR: 'it returns false'. Refute it at one input. -/
def refsPlainWrong : ChangeSpec := { name := "refsPlain", fn := fun _ => fun
  | [d1, d2, d3] => { results := [.lit (.bool false)], args := [d1, d2, d3] }
  | _ => none }
def RefsPlainWrongFalsely : Prop := refsPlainRow.holds Tryd.pinned (OpenSpec.ofChange refsPlainWrong)

/- THE SECOND FORM. 'bulk': how many values and letters a reading holds, each counted each time it is reached (what is shared counts as often as it is met; a slice's spare places count too). A statement '..UptoSaid' is the law's where the arguments, and the package variables that the reading takes, are together of bulk at most 1048576: NARROWER than '..Said'. Prove '..Said' where nothing that the law and all that it calls make is longer than what came in: it says more and counts as full. Else prove '..UptoSaid'. A law counts once. -/
mutual
def uptoBulk {H : Type} : DataW H → Nat
  | .lit (.string bytes) => bytes.length + 1
  | .lit _ => 1
  | .nil => 1
  | .ptr d => uptoBulk d + 1
  | .slice elems spare => uptoBulkAll elems + uptoBulkAll spare + 1
  | .agg parts => uptoBulkAll parts + 1
  | .iface _ d => uptoBulk d + 1
  | .map entries => uptoBulkEntries entries + 1
  | .held _ => 1
def uptoBulkAll {H : Type} : List (DataW H) → Nat
  | [] => 0
  | d :: r => uptoBulk d + uptoBulkAll r
def uptoBulkEntries {H : Type} : List (Lit × DataW H) → Nat
  | [] => 0
  | x :: r => uptoBulkEntry x + uptoBulkEntries r
def uptoBulkEntry {H : Type} : Lit × DataW H → Nat
  | (.string bytes, d) => bytes.length + uptoBulk d + 1
  | (_, d) => uptoBulk d + 1
 end
def uptoSmall : (H : Type) → List (DataW H) → Bool := fun _ ds => decide (uptoBulkAll ds ≤ 1048576)
def OpenSpec.upto (s : _root_.Go.ChangeSpec) : _root_.Go.OpenSpec := { _root_.Go.OpenSpec.ofChange s with cond := some uptoSmall }

/-- 'anvillaw15.RefsParses', WHERE WHAT IT READS IS OF BULK AT MOST 1048576: true; the input reads as it did. -/
def refsParsesUptoRow : OpenClaim := { program := "ytaemmgllhmjceaadoor", sum := "86309e72b41cedc450c251fc268bdf515af5c9fb70b41f832fc58ca8badb68ce", func := "anvil/anvillaw15.RefsParses", spec := "refsParses", inPlace := ["internal/bytealg.IndexByteString", "internal/bytealg.IndexString"], named := ["anvil/refs.functions", "unicode/utf8.first", "unicode/utf8.acceptRanges", "internal/bytealg.MaxLen"], apart := false, laid := [("unicode/utf8.acceptRanges", laid_unicode_utf8_acceptRanges), ("anvil/refs.functions", laid_anvil_refs_functions), ("unicode/utf8.first", laid_unicode_utf8_first)], narrowed := true }
def RefsParsesUptoSaid : Prop := refsParsesUptoRow.holds Tryd.pinned (OpenSpec.upto refsParsesSpec)

/-- 'anvillaw15.RefsScans', WHERE WHAT IT READS IS OF BULK AT MOST 1048576: true; the input reads as it did. -/
def refsScansUptoRow : OpenClaim := { program := "ytaemmgllhmjceaadoor", sum := "86309e72b41cedc450c251fc268bdf515af5c9fb70b41f832fc58ca8badb68ce", func := "anvil/anvillaw15.RefsScans", spec := "refsScans", inPlace := ["internal/bytealg.IndexByteString", "internal/bytealg.IndexString"], named := ["anvil/refs.functions", "unicode/utf8.first", "unicode/utf8.acceptRanges", "internal/bytealg.MaxLen"], apart := false, laid := [("unicode/utf8.acceptRanges", laid_unicode_utf8_acceptRanges), ("anvil/refs.functions", laid_anvil_refs_functions), ("unicode/utf8.first", laid_unicode_utf8_first)], narrowed := true }
def RefsScansUptoSaid : Prop := refsScansUptoRow.holds Tryd.pinned (OpenSpec.upto refsScansSpec)

/-- 'anvillaw15.RefsNames', WHERE WHAT IT READS IS OF BULK AT MOST 1048576: true; the input reads as it did. -/
def refsNamesUptoRow : OpenClaim := { program := "ytaemmgllhmjceaadoor", sum := "86309e72b41cedc450c251fc268bdf515af5c9fb70b41f832fc58ca8badb68ce", func := "anvil/anvillaw15.RefsNames", spec := "refsNames", inPlace := ["internal/bytealg.IndexByteString", "internal/bytealg.IndexString"], named := ["anvil/refs.functions", "unicode/utf8.first", "unicode/utf8.acceptRanges", "internal/bytealg.MaxLen"], apart := false, laid := [("unicode/utf8.acceptRanges", laid_unicode_utf8_acceptRanges), ("anvil/refs.functions", laid_anvil_refs_functions), ("unicode/utf8.first", laid_unicode_utf8_first)], narrowed := true }
def RefsNamesUptoSaid : Prop := refsNamesUptoRow.holds Tryd.pinned (OpenSpec.upto refsNamesSpec)

/-- 'anvillaw15.RefsPlain', WHERE WHAT IT READS IS OF BULK AT MOST 1048576: true; the input reads as it did. -/
def refsPlainUptoRow : OpenClaim := { program := "ytaemmgllhmjceaadoor", sum := "86309e72b41cedc450c251fc268bdf515af5c9fb70b41f832fc58ca8badb68ce", func := "anvil/anvillaw15.RefsPlain", spec := "refsPlain", inPlace := ["internal/bytealg.IndexByteString", "internal/bytealg.IndexString"], named := ["anvil/refs.functions", "unicode/utf8.first", "unicode/utf8.acceptRanges", "internal/bytealg.MaxLen"], apart := false, laid := [("unicode/utf8.acceptRanges", laid_unicode_utf8_acceptRanges), ("anvil/refs.functions", laid_anvil_refs_functions), ("unicode/utf8.first", laid_unicode_utf8_first)], narrowed := true }
def RefsPlainUptoSaid : Prop := refsPlainUptoRow.holds Tryd.pinned (OpenSpec.upto refsPlainSpec)

end Rows
end Go.Proofs.YtaemmgllhmjceaaDoor
