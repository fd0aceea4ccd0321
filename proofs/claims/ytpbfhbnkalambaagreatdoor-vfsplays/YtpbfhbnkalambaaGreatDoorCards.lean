/-
  DERIVED. GIVEN WITH THE SEED: THE CARDS: each row of YtpbfhbnkalambaaGreatDoorRows.lean that lists a variable, with what it lists TIED to the program's text (the seventh form; the later family's looks); each row that meets fmt, with fmt's text TOLD by the authors' own Lean function (tested against real Go, not proved from fmt's source: count such statements apart). THE CARD IS WHAT COUNTS. Prove the row's statement (the work); the ties are given (YtpbfhbnkalambaaGreatDoorTie.lean); close each card by the builder's one call (the guide's Derived/Test/ToyasCard.lean, 'card_holds'). Laid BY PROGRAM, IN A SANDBOX (cutbox-door.mjs). By AI agents, Wed Nov 11 2026. No macro, syntax, notation, axiom, sorry.
-/
import Derived.Test.YtpbfhbnkalambaaGreatDoorRows
import GoSem.ClaimSeven
namespace Go.Proofs.YtpbfhbnkalambaaGreatDoor
namespace Rows

/-- THE TIED CARD OF 'anvillaw5.VfsMakes'. -/
def vfsMakesCard : Claim7 := { stood := { row := vfsMakesRow, standIns := [], harness := (true, "0e7a2cb40d84fabf37ff8788a0899cf7fc21a85ccd874d66361c561d34b3720c"), looks := true }, kinds := [], alts := [], laidByText := true, laidKinds := [.handle, .sentinel], laidTests := true, laidLooks := .later }
def VfsMakesCardSaid : Prop := Claim7.holds Tryz.pinned (.plain (OpenSpec.ofChange vfsMakesSpec)) vfsMakesCard

/-- THE TIED CARD OF 'anvillaw5.VfsPlays'. -/
def vfsPlaysCard : Claim7 := { stood := { row := vfsPlaysRow, standIns := [], harness := (true, "0e7a2cb40d84fabf37ff8788a0899cf7fc21a85ccd874d66361c561d34b3720c"), looks := true }, kinds := [], alts := [], laidByText := true, laidKinds := [.handle, .sentinel], laidTests := true, laidLooks := .later }
def VfsPlaysCardSaid : Prop := Claim7.holds Tryz.pinned (.plain (OpenSpec.ofChange vfsPlaysSpec)) vfsPlaysCard

/-- THE TIED CARD OF 'anvillaw5.VfsRight'. -/
def vfsRightCard : Claim7 := { stood := { row := vfsRightRow, standIns := [], harness := (true, "0e7a2cb40d84fabf37ff8788a0899cf7fc21a85ccd874d66361c561d34b3720c"), looks := true }, kinds := [], alts := [], laidByText := true, laidKinds := [.handle, .sentinel], laidTests := true, laidLooks := .later }
def VfsRightCardSaid : Prop := Claim7.holds Tryz.pinned (.plain (OpenSpec.ofChange vfsRightSpec)) vfsRightCard

/-- THE TIED CARD OF 'anvillaw5.VfsRoom'. -/
def vfsRoomCard : Claim7 := { stood := { row := vfsRoomRow, standIns := [], harness := (true, "0e7a2cb40d84fabf37ff8788a0899cf7fc21a85ccd874d66361c561d34b3720c"), looks := true }, kinds := [], alts := [], laidByText := true, laidKinds := [.handle, .sentinel], laidTests := true, laidLooks := .later }
def VfsRoomCardSaid : Prop := Claim7.holds Tryz.pinned (.plain (OpenSpec.ofChange vfsRoomSpec)) vfsRoomCard

/-- THE SECOND FORM's CARD OF 'anvillaw5.VfsMakes'. -/
def vfsMakesUptoCard : Claim7 := { stood := { row := vfsMakesUptoRow, standIns := [], harness := (true, "0e7a2cb40d84fabf37ff8788a0899cf7fc21a85ccd874d66361c561d34b3720c"), looks := true }, kinds := [], alts := [], laidByText := true, laidKinds := [.handle, .sentinel], laidTests := true, laidLooks := .later }
def VfsMakesUptoCardSaid : Prop := Claim7.holds Tryz.pinned (.plain (OpenSpec.upto vfsMakesSpec)) vfsMakesUptoCard

/-- THE SECOND FORM's CARD OF 'anvillaw5.VfsPlays'. -/
def vfsPlaysUptoCard : Claim7 := { stood := { row := vfsPlaysUptoRow, standIns := [], harness := (true, "0e7a2cb40d84fabf37ff8788a0899cf7fc21a85ccd874d66361c561d34b3720c"), looks := true }, kinds := [], alts := [], laidByText := true, laidKinds := [.handle, .sentinel], laidTests := true, laidLooks := .later }
def VfsPlaysUptoCardSaid : Prop := Claim7.holds Tryz.pinned (.plain (OpenSpec.upto vfsPlaysSpec)) vfsPlaysUptoCard

/-- THE SECOND FORM's CARD OF 'anvillaw5.VfsRight'. -/
def vfsRightUptoCard : Claim7 := { stood := { row := vfsRightUptoRow, standIns := [], harness := (true, "0e7a2cb40d84fabf37ff8788a0899cf7fc21a85ccd874d66361c561d34b3720c"), looks := true }, kinds := [], alts := [], laidByText := true, laidKinds := [.handle, .sentinel], laidTests := true, laidLooks := .later }
def VfsRightUptoCardSaid : Prop := Claim7.holds Tryz.pinned (.plain (OpenSpec.upto vfsRightSpec)) vfsRightUptoCard

/-- THE SECOND FORM's CARD OF 'anvillaw5.VfsRoom'. -/
def vfsRoomUptoCard : Claim7 := { stood := { row := vfsRoomUptoRow, standIns := [], harness := (true, "0e7a2cb40d84fabf37ff8788a0899cf7fc21a85ccd874d66361c561d34b3720c"), looks := true }, kinds := [], alts := [], laidByText := true, laidKinds := [.handle, .sentinel], laidTests := true, laidLooks := .later }
def VfsRoomUptoCardSaid : Prop := Claim7.holds Tryz.pinned (.plain (OpenSpec.upto vfsRoomSpec)) vfsRoomUptoCard
end Rows
end Go.Proofs.YtpbfhbnkalambaaGreatDoor
