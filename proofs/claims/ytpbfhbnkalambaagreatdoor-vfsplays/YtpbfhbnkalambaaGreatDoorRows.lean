/-
  NARROWER THAN 'FOR EVERY INPUT', by the rows' own cells (each row's printed sentence says how): VfsMakes: laid · VfsPlays: laid · VfsRight: laid · VfsRoom: laid.
  DERIVED. THE GIVEN ROWS OF THIS SEAT. 4 by the template 'for every input the law returns true; each argument reads behind the call as it read before'; 0 by the template 'total and deterministic' (their statements: YtpbfhbnkalambaaGreatDoorTotals.lean).
  GIVEN WITH THE SEED: the statements are not yours to turn. If you find one false, say at which input.
  Laid BY PROGRAM, IN A SANDBOX (cutbox-rows.mjs): the forced cells as the released guide's own fill.sh prints them over the translation c1fe9d12aebac87e… (all of the seat's roots in one cut). By AI agents, Wed Nov 11 2026. No macro, syntax, notation, axiom, sorry.
-/
import Derived.Test.YtpbfhbnkalambaaGreatDoorChecked
import GoSem.Claim
import GoSem.ClaimJoined
import GoSem.ClaimMapViews
import Derived.JoinedTies
import Derived.KernelRfl
namespace Go.Proofs.YtpbfhbnkalambaaGreatDoor
/- THE CELL 'sum', in the pinned program and in every row, IS THE sha256 OF THE DUMP (.gsa) THAT YtpbfhbnkalambaaGreatDoorProg.lean LOADS. Nothing in Lean hashes anything: it is a label: what it is worth is what the hold of that sum in a sandbox is worth. -/
noncomputable def Tryz.pinned : Pinned := { name := "ytpbfhbnkalambaagreatdoor", sum := "c1fe9d12aebac87e5f31f3729e3824d3a5fd0d71e6b2abe1363b78e6bafc22d1", checked := Tryz.checked }
namespace Rows
def none {H : Type} : Left H := { results := [], args := [] }

/- WHAT THE LISTED PACKAGE-LEVEL VARIABLES READ AS WHEN THE CALL BEGINS. Each datum BY PROGRAM (the guide's laid-datum.mjs) off the statement by which the dump's own 'gosem.cut.vars' lays the variable. In a bare row this is a premise. The card (YtpbfhbnkalambaaGreatDoorCards.lean) ties it to the program's text. -/
def laid_errors_errorType {H : Type} : DataW H := .iface "internal/reflectlite.rtype" (.agg [.ptr (.lit (.string [101, 114, 114, 111, 114]))])
def laid_anvil_vfs_errNothing {H : Type} : DataW H := .iface "*errors.errorString" (.ptr (.agg [.lit (.string [110, 111, 116, 104, 105, 110, 103, 32, 105, 115, 32, 116, 104, 101, 114, 101])]))

/-- 'anvillaw5.VfsMakes': WHATEVER THE INPUT: true; the input reads as it did. -/
def vfsMakesSpec : ChangeSpec := { name := "vfsMakes", fn := fun _ => fun
  | [d] => { results := [.lit (.bool true)], args := [d] }
  | _ => none }
def vfsMakesRow : OpenClaim := { program := "ytpbfhbnkalambaagreatdoor", sum := "c1fe9d12aebac87e5f31f3729e3824d3a5fd0d71e6b2abe1363b78e6bafc22d1", func := "anvil/anvillaw5.VfsMakes", spec := "vfsMakes", inPlace := ["internal/abi.NoEscape", "internal/bytealg.IndexByteString", "internal/bytealg.IndexString", "internal/reflectlite.TypeOf", "internal/reflectlite.ValueOf", "(internal/reflectlite.Value).Type", "(internal/reflectlite.Value).IsNil", "(internal/reflectlite.Value).Elem", "(internal/reflectlite.Value).Set"], unfollowed := true, recurses := true, named := ["anvil/vfs.errNothing", "errors.errorType", "internal/bytealg.MaxLen"], apart := false, laid := [("errors.errorType", laid_errors_errorType), ("anvil/vfs.errNothing", laid_anvil_vfs_errNothing)] }
def VfsMakesSaid : Prop := vfsMakesRow.holds Tryz.pinned (OpenSpec.ofChange vfsMakesSpec)

/-- ITS FALSE NEIGHBOUR: 'it returns false'. Refute it at one input. -/
def vfsMakesWrong : ChangeSpec := { name := "vfsMakes", fn := fun _ => fun
  | [d] => { results := [.lit (.bool false)], args := [d] }
  | _ => none }
def VfsMakesWrongFalsely : Prop := vfsMakesRow.holds Tryz.pinned (OpenSpec.ofChange vfsMakesWrong)

/-- 'anvillaw5.VfsPlays': WHATEVER THE INPUT: true; the input reads as it did. -/
def vfsPlaysSpec : ChangeSpec := { name := "vfsPlays", fn := fun _ => fun
  | [d1, d2] => { results := [.lit (.bool true)], args := [d1, d2] }
  | _ => none }
def vfsPlaysRow : OpenClaim := { program := "ytpbfhbnkalambaagreatdoor", sum := "c1fe9d12aebac87e5f31f3729e3824d3a5fd0d71e6b2abe1363b78e6bafc22d1", func := "anvil/anvillaw5.VfsPlays", spec := "vfsPlays", inPlace := ["internal/abi.NoEscape", "internal/bytealg.IndexByteString", "internal/bytealg.IndexString", "internal/reflectlite.TypeOf", "internal/reflectlite.ValueOf", "(internal/reflectlite.Value).Type", "(internal/reflectlite.Value).IsNil", "(internal/reflectlite.Value).Elem", "(internal/reflectlite.Value).Set"], unfollowed := true, recurses := true, named := ["anvil/vfs.errNothing", "errors.errorType", "internal/bytealg.MaxLen"], apart := false, laid := [("errors.errorType", laid_errors_errorType), ("anvil/vfs.errNothing", laid_anvil_vfs_errNothing)] }
def VfsPlaysSaid : Prop := vfsPlaysRow.holds Tryz.pinned (OpenSpec.ofChange vfsPlaysSpec)

/-- ITS FALSE NEIGHBOUR: 'it returns false'. Refute it at one input. -/
def vfsPlaysWrong : ChangeSpec := { name := "vfsPlays", fn := fun _ => fun
  | [d1, d2] => { results := [.lit (.bool false)], args := [d1, d2] }
  | _ => none }
def VfsPlaysWrongFalsely : Prop := vfsPlaysRow.holds Tryz.pinned (OpenSpec.ofChange vfsPlaysWrong)

/-- 'anvillaw5.VfsRight': WHATEVER THE INPUT: true; the input reads as it did. -/
def vfsRightSpec : ChangeSpec := { name := "vfsRight", fn := fun _ => fun
  | [d1, d2] => { results := [.lit (.bool true)], args := [d1, d2] }
  | _ => none }
def vfsRightRow : OpenClaim := { program := "ytpbfhbnkalambaagreatdoor", sum := "c1fe9d12aebac87e5f31f3729e3824d3a5fd0d71e6b2abe1363b78e6bafc22d1", func := "anvil/anvillaw5.VfsRight", spec := "vfsRight", inPlace := ["internal/abi.NoEscape", "internal/bytealg.IndexByteString", "internal/bytealg.IndexString", "internal/reflectlite.TypeOf", "internal/reflectlite.ValueOf", "(internal/reflectlite.Value).Type", "(internal/reflectlite.Value).IsNil", "(internal/reflectlite.Value).Elem", "(internal/reflectlite.Value).Set"], unfollowed := true, recurses := true, named := ["anvil/vfs.errNothing", "errors.errorType", "internal/bytealg.MaxLen"], apart := false, laid := [("errors.errorType", laid_errors_errorType), ("anvil/vfs.errNothing", laid_anvil_vfs_errNothing)] }
def VfsRightSaid : Prop := vfsRightRow.holds Tryz.pinned (OpenSpec.ofChange vfsRightSpec)

/-- ITS FALSE NEIGHBOUR: 'it returns false'. Refute it at one input. -/
def vfsRightWrong : ChangeSpec := { name := "vfsRight", fn := fun _ => fun
  | [d1, d2] => { results := [.lit (.bool false)], args := [d1, d2] }
  | _ => none }
def VfsRightWrongFalsely : Prop := vfsRightRow.holds Tryz.pinned (OpenSpec.ofChange vfsRightWrong)

/-- 'anvillaw5.VfsRoom': WHATEVER THE INPUT: true; the input reads as it did. -/
def vfsRoomSpec : ChangeSpec := { name := "vfsRoom", fn := fun _ => fun
  | [d1, d2] => { results := [.lit (.bool true)], args := [d1, d2] }
  | _ => none }
def vfsRoomRow : OpenClaim := { program := "ytpbfhbnkalambaagreatdoor", sum := "c1fe9d12aebac87e5f31f3729e3824d3a5fd0d71e6b2abe1363b78e6bafc22d1", func := "anvil/anvillaw5.VfsRoom", spec := "vfsRoom", inPlace := ["internal/abi.NoEscape", "internal/bytealg.IndexByteString", "internal/bytealg.IndexString", "internal/reflectlite.TypeOf", "internal/reflectlite.ValueOf", "(internal/reflectlite.Value).Type", "(internal/reflectlite.Value).IsNil", "(internal/reflectlite.Value).Elem", "(internal/reflectlite.Value).Set"], unfollowed := true, recurses := true, named := ["anvil/vfs.errNothing", "errors.errorType", "internal/bytealg.MaxLen"], apart := false, laid := [("errors.errorType", laid_errors_errorType), ("anvil/vfs.errNothing", laid_anvil_vfs_errNothing)] }
def VfsRoomSaid : Prop := vfsRoomRow.holds Tryz.pinned (OpenSpec.ofChange vfsRoomSpec)

/-- ITS FALSE NEIGHBOUR: 'it returns false'. Refute it at one input. -/
def vfsRoomWrong : ChangeSpec := { name := "vfsRoom", fn := fun _ => fun
  | [d1, d2] => { results := [.lit (.bool false)], args := [d1, d2] }
  | _ => none }
def VfsRoomWrongFalsely : Prop := vfsRoomRow.holds Tryz.pinned (OpenSpec.ofChange vfsRoomWrong)

/- THE SECOND FORM. 'bulk': how many values and letters a reading holds, each counted each time it is reached (what is shared counts as often as it is met; a slice's spare places count too). A statement '..UptoSaid' is the law's where the arguments, and the package variables that the reading takes, are together of bulk at most 1048576: NARROWER than '..Said'. Prove '..Said' where nothing that the law and all that it calls make is longer than what came in: it says more and counts as full. Else prove '..UptoSaid'. A law counts once. -/
mutual
def uptoBulk {H : Type} : DataW H → Nat
  | .lit (.string bytes) => bytes.length + 1
  | .lit _ => 1
  | .nil => 1
  | .ptr d => uptoBulk d + 1
  | .slice elems spare => uptoBulkAll elems + uptoBulkAll spare + 1
  | .agg parts => uptoBulkAll parts + 1
  | .iface _ d => uptoBulk d + 1
  | .map entries => uptoBulkEntries entries + 1
  | .held _ => 1
def uptoBulkAll {H : Type} : List (DataW H) → Nat
  | [] => 0
  | d :: r => uptoBulk d + uptoBulkAll r
def uptoBulkEntries {H : Type} : List (Lit × DataW H) → Nat
  | [] => 0
  | x :: r => uptoBulkEntry x + uptoBulkEntries r
def uptoBulkEntry {H : Type} : Lit × DataW H → Nat
  | (.string bytes, d) => bytes.length + uptoBulk d + 1
  | (_, d) => uptoBulk d + 1
 end
def uptoSmall : (H : Type) → List (DataW H) → Bool := fun _ ds => decide (uptoBulkAll ds ≤ 1048576)
def OpenSpec.upto (s : _root_.Go.ChangeSpec) : _root_.Go.OpenSpec := { _root_.Go.OpenSpec.ofChange s with cond := some uptoSmall }

/-- 'anvillaw5.VfsMakes', WHERE WHAT IT READS IS OF BULK AT MOST 1048576: true; the input reads as it did. -/
def vfsMakesUptoRow : OpenClaim := { program := "ytpbfhbnkalambaagreatdoor", sum := "c1fe9d12aebac87e5f31f3729e3824d3a5fd0d71e6b2abe1363b78e6bafc22d1", func := "anvil/anvillaw5.VfsMakes", spec := "vfsMakes", inPlace := ["internal/abi.NoEscape", "internal/bytealg.IndexByteString", "internal/bytealg.IndexString", "internal/reflectlite.TypeOf", "internal/reflectlite.ValueOf", "(internal/reflectlite.Value).Type", "(internal/reflectlite.Value).IsNil", "(internal/reflectlite.Value).Elem", "(internal/reflectlite.Value).Set"], unfollowed := true, recurses := true, named := ["anvil/vfs.errNothing", "errors.errorType", "internal/bytealg.MaxLen"], apart := false, laid := [("errors.errorType", laid_errors_errorType), ("anvil/vfs.errNothing", laid_anvil_vfs_errNothing)], narrowed := true }
def VfsMakesUptoSaid : Prop := vfsMakesUptoRow.holds Tryz.pinned (OpenSpec.upto vfsMakesSpec)

/-- 'anvillaw5.VfsPlays', WHERE WHAT IT READS IS OF BULK AT MOST 1048576: true; the input reads as it did. -/
def vfsPlaysUptoRow : OpenClaim := { program := "ytpbfhbnkalambaagreatdoor", sum := "c1fe9d12aebac87e5f31f3729e3824d3a5fd0d71e6b2abe1363b78e6bafc22d1", func := "anvil/anvillaw5.VfsPlays", spec := "vfsPlays", inPlace := ["internal/abi.NoEscape", "internal/bytealg.IndexByteString", "internal/bytealg.IndexString", "internal/reflectlite.TypeOf", "internal/reflectlite.ValueOf", "(internal/reflectlite.Value).Type", "(internal/reflectlite.Value).IsNil", "(internal/reflectlite.Value).Elem", "(internal/reflectlite.Value).Set"], unfollowed := true, recurses := true, named := ["anvil/vfs.errNothing", "errors.errorType", "internal/bytealg.MaxLen"], apart := false, laid := [("errors.errorType", laid_errors_errorType), ("anvil/vfs.errNothing", laid_anvil_vfs_errNothing)], narrowed := true }
def VfsPlaysUptoSaid : Prop := vfsPlaysUptoRow.holds Tryz.pinned (OpenSpec.upto vfsPlaysSpec)

/-- 'anvillaw5.VfsRight', WHERE WHAT IT READS IS OF BULK AT MOST 1048576: true; the input reads as it did. -/
def vfsRightUptoRow : OpenClaim := { program := "ytpbfhbnkalambaagreatdoor", sum := "c1fe9d12aebac87e5f31f3729e3824d3a5fd0d71e6b2abe1363b78e6bafc22d1", func := "anvil/anvillaw5.VfsRight", spec := "vfsRight", inPlace := ["internal/abi.NoEscape", "internal/bytealg.IndexByteString", "internal/bytealg.IndexString", "internal/reflectlite.TypeOf", "internal/reflectlite.ValueOf", "(internal/reflectlite.Value).Type", "(internal/reflectlite.Value).IsNil", "(internal/reflectlite.Value).Elem", "(internal/reflectlite.Value).Set"], unfollowed := true, recurses := true, named := ["anvil/vfs.errNothing", "errors.errorType", "internal/bytealg.MaxLen"], apart := false, laid := [("errors.errorType", laid_errors_errorType), ("anvil/vfs.errNothing", laid_anvil_vfs_errNothing)], narrowed := true }
def VfsRightUptoSaid : Prop := vfsRightUptoRow.holds Tryz.pinned (OpenSpec.upto vfsRightSpec)

/-- 'anvillaw5.VfsRoom', WHERE WHAT IT READS IS OF BULK AT MOST 1048576: true; the input reads as it did. -/
def vfsRoomUptoRow : OpenClaim := { program := "ytpbfhbnkalambaagreatdoor", sum := "c1fe9d12aebac87e5f31f3729e3824d3a5fd0d71e6b2abe1363b78e6bafc22d1", func := "anvil/anvillaw5.VfsRoom", spec := "vfsRoom", inPlace := ["internal/abi.NoEscape", "internal/bytealg.IndexByteString", "internal/bytealg.IndexString", "internal/reflectlite.TypeOf", "internal/reflectlite.ValueOf", "(internal/reflectlite.Value).Type", "(internal/reflectlite.Value).IsNil", "(internal/reflectlite.Value).Elem", "(internal/reflectlite.Value).Set"], unfollowed := true, recurses := true, named := ["anvil/vfs.errNothing", "errors.errorType", "internal/bytealg.MaxLen"], apart := false, laid := [("errors.errorType", laid_errors_errorType), ("anvil/vfs.errNothing", laid_anvil_vfs_errNothing)], narrowed := true }
def VfsRoomUptoSaid : Prop := vfsRoomUptoRow.holds Tryz.pinned (OpenSpec.upto vfsRoomSpec)

end Rows
end Go.Proofs.YtpbfhbnkalambaaGreatDoor
