/-
  DERIVED. GIVEN WITH THE SEED: THE CARDS: each row of YtamohpcdchhbbaaDoorRows.lean that lists a variable, with what it lists TIED to the program's text (the seventh form; the later family's looks); each row that meets fmt, with fmt's text TOLD by the authors' own Lean function (tested against real Go, not proved from fmt's source: count such statements apart). THE CARD IS WHAT COUNTS. Prove the row's statement (the work); the ties are given (YtamohpcdchhbbaaDoorTie.lean); close each card by the builder's one call (the guide's Derived/Test/ToyasCard.lean, 'card_holds'). Laid BY PROGRAM, IN A SANDBOX (cutbox-door.mjs). By AI agents, Wed Nov 11 2026. No macro, syntax, notation, axiom, sorry.
-/
import Derived.Test.YtamohpcdchhbbaaDoorRows
import GoSem.ClaimSeven
namespace Go.Proofs.YtamohpcdchhbbaaDoor
namespace Rows

/-- THE TIED CARD OF 'anvillaw5.VfsMany'. -/
def vfsManyCard : Claim7 := { stood := { row := vfsManyRow, standIns := [], harness := (true, "58d0b15d2110e6acf20267f29d20388c353fa542f845f954da8eeca2768b7d7b"), looks := true }, kinds := [], alts := [], laidByText := true, laidKinds := [.handle, .sentinel], laidTests := true, laidLooks := .later }
def VfsManyCardSaid : Prop := Claim7.holds Tryd.pinned (.plain (OpenSpec.ofChange vfsManySpec)) vfsManyCard

/-- THE SECOND FORM's CARD OF 'anvillaw5.VfsMany'. -/
def vfsManyUptoCard : Claim7 := { stood := { row := vfsManyUptoRow, standIns := [], harness := (true, "58d0b15d2110e6acf20267f29d20388c353fa542f845f954da8eeca2768b7d7b"), looks := true }, kinds := [], alts := [], laidByText := true, laidKinds := [.handle, .sentinel], laidTests := true, laidLooks := .later }
def VfsManyUptoCardSaid : Prop := Claim7.holds Tryd.pinned (.plain (OpenSpec.upto vfsManySpec)) vfsManyUptoCard
end Rows
end Go.Proofs.YtamohpcdchhbbaaDoor
