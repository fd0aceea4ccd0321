/-
  DERIVED. GIVEN WITH THE SEED: THE CARDS: each row of YtbfchadcpokjoaaGreatDoorRows.lean that lists a variable, with what it lists TIED to the program's text (the seventh form; the later family's looks); each row that meets fmt, with fmt's text TOLD by the authors' own Lean function (tested against real Go, not proved from fmt's source: count such statements apart). THE CARD IS WHAT COUNTS. Prove the row's statement (the work); the ties are given (YtbfchadcpokjoaaGreatDoorTie.lean); close each card by the builder's one call (the guide's Derived/Test/ToyasCard.lean, 'card_holds'). Laid BY PROGRAM, IN A SANDBOX (cutbox-door.mjs). By AI agents, Wed Nov 11 2026. No macro, syntax, notation, axiom, sorry.
-/
import Derived.Test.YtbfchadcpokjoaaGreatDoorRows
import GoSem.ClaimSeven
namespace Go.Proofs.YtbfchadcpokjoaaGreatDoor
namespace Rows

/-- THE TIED CARD OF 'anvillaw11.UtilTests'. -/
def utilTestsCard : Claim7 := { stood := { row := utilTestsRow, standIns := [], harness := (true, "883e664d582d16d21b0b987f87e3e80a5fd500676c7ff7c28afaaaa4061b4a00"), looks := true }, kinds := [], alts := [], laidByText := true, laidKinds := [.data, .data, .data, .data, .handle, .sentinel, .sentinel, .data, .sentinel, .pinned], laidTests := true, laidLooks := .later }
def UtilTestsCardSaid : Prop := Claim7.holds Tryz.pinned (.plain (OpenSpec.ofChange utilTestsSpec)) utilTestsCard

/-- THE TIED CARD OF 'anvillaw11.UtilCopies'. -/
def utilCopiesCard : Claim7 := { stood := { row := utilCopiesRow, standIns := [], harness := (true, "883e664d582d16d21b0b987f87e3e80a5fd500676c7ff7c28afaaaa4061b4a00"), looks := true }, kinds := [], alts := [], laidByText := true, laidKinds := [.data, .data, .data, .data, .handle, .sentinel, .sentinel, .data, .sentinel, .pinned], laidTests := true, laidLooks := .later }
def UtilCopiesCardSaid : Prop := Claim7.holds Tryz.pinned (.plain (OpenSpec.ofChange utilCopiesSpec)) utilCopiesCard

/-- THE TIED CARD OF 'anvillaw11.UtilArchives'. -/
def utilArchivesCard : Claim7 := { stood := { row := utilArchivesRow, standIns := [], harness := (true, "883e664d582d16d21b0b987f87e3e80a5fd500676c7ff7c28afaaaa4061b4a00"), looks := true }, kinds := [], alts := [], laidByText := true, laidKinds := [.data, .data, .data, .data, .handle, .sentinel, .sentinel, .data, .sentinel, .pinned], laidTests := true, laidLooks := .later }
def UtilArchivesCardSaid : Prop := Claim7.holds Tryz.pinned (.plain (OpenSpec.ofChange utilArchivesSpec)) utilArchivesCard

/-- THE TIED CARD OF 'anvillaw11.UtilDirs'. -/
def utilDirsCard : Claim7 := { stood := { row := utilDirsRow, standIns := [], harness := (true, "883e664d582d16d21b0b987f87e3e80a5fd500676c7ff7c28afaaaa4061b4a00"), looks := true }, kinds := [], alts := [], laidByText := true, laidKinds := [.data, .data, .data, .data, .handle, .sentinel, .sentinel, .data, .sentinel, .pinned], laidTests := true, laidLooks := .later }
def UtilDirsCardSaid : Prop := Claim7.holds Tryz.pinned (.plain (OpenSpec.ofChange utilDirsSpec)) utilDirsCard

/-- THE SECOND FORM's CARD OF 'anvillaw11.UtilTests'. -/
def utilTestsUptoCard : Claim7 := { stood := { row := utilTestsUptoRow, standIns := [], harness := (true, "883e664d582d16d21b0b987f87e3e80a5fd500676c7ff7c28afaaaa4061b4a00"), looks := true }, kinds := [], alts := [], laidByText := true, laidKinds := [.data, .data, .data, .data, .handle, .sentinel, .sentinel, .data, .sentinel, .pinned], laidTests := true, laidLooks := .later }
def UtilTestsUptoCardSaid : Prop := Claim7.holds Tryz.pinned (.plain (OpenSpec.upto utilTestsSpec)) utilTestsUptoCard

/-- THE SECOND FORM's CARD OF 'anvillaw11.UtilCopies'. -/
def utilCopiesUptoCard : Claim7 := { stood := { row := utilCopiesUptoRow, standIns := [], harness := (true, "883e664d582d16d21b0b987f87e3e80a5fd500676c7ff7c28afaaaa4061b4a00"), looks := true }, kinds := [], alts := [], laidByText := true, laidKinds := [.data, .data, .data, .data, .handle, .sentinel, .sentinel, .data, .sentinel, .pinned], laidTests := true, laidLooks := .later }
def UtilCopiesUptoCardSaid : Prop := Claim7.holds Tryz.pinned (.plain (OpenSpec.upto utilCopiesSpec)) utilCopiesUptoCard

/-- THE SECOND FORM's CARD OF 'anvillaw11.UtilArchives'. -/
def utilArchivesUptoCard : Claim7 := { stood := { row := utilArchivesUptoRow, standIns := [], harness := (true, "883e664d582d16d21b0b987f87e3e80a5fd500676c7ff7c28afaaaa4061b4a00"), looks := true }, kinds := [], alts := [], laidByText := true, laidKinds := [.data, .data, .data, .data, .handle, .sentinel, .sentinel, .data, .sentinel, .pinned], laidTests := true, laidLooks := .later }
def UtilArchivesUptoCardSaid : Prop := Claim7.holds Tryz.pinned (.plain (OpenSpec.upto utilArchivesSpec)) utilArchivesUptoCard

/-- THE SECOND FORM's CARD OF 'anvillaw11.UtilDirs'. -/
def utilDirsUptoCard : Claim7 := { stood := { row := utilDirsUptoRow, standIns := [], harness := (true, "883e664d582d16d21b0b987f87e3e80a5fd500676c7ff7c28afaaaa4061b4a00"), looks := true }, kinds := [], alts := [], laidByText := true, laidKinds := [.data, .data, .data, .data, .handle, .sentinel, .sentinel, .data, .sentinel, .pinned], laidTests := true, laidLooks := .later }
def UtilDirsUptoCardSaid : Prop := Claim7.holds Tryz.pinned (.plain (OpenSpec.upto utilDirsSpec)) utilDirsUptoCard
end Rows
end Go.Proofs.YtbfchadcpokjoaaGreatDoor
