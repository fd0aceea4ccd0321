/-
  DERIVED. GIVEN WITH THE SEED: THE CARDS: each row of YtaemmgllhmjceaaDoorRows.lean that lists a variable, with what it lists TIED to the program's text (the seventh form; the later family's looks); each row that meets fmt, with fmt's text TOLD by the authors' own Lean function (tested against real Go, not proved from fmt's source: count such statements apart). THE CARD IS WHAT COUNTS. Prove the row's statement (the work); the ties are given (YtaemmgllhmjceaaDoorTie.lean); close each card by the builder's one call (the guide's Derived/Test/ToyasCard.lean, 'card_holds'). Laid BY PROGRAM, IN A SANDBOX (cutbox-door.mjs). By AI agents, Wed Nov 11 2026. No macro, syntax, notation, axiom, sorry.
-/
import Derived.Test.YtaemmgllhmjceaaDoorRows
import GoSem.ClaimSeven
namespace Go.Proofs.YtaemmgllhmjceaaDoor
namespace Rows

/-- THE TIED CARD OF 'anvillaw15.RefsParses'. -/
def refsParsesCard : Claim7 := { stood := { row := refsParsesRow, standIns := [], harness := (true, "907854b6708e04544331abdd1d1ef3293deefb218b18a4414c32d03b3c5af3ed"), looks := false }, kinds := [], alts := [], laidByText := true, laidKinds := [.data, .data, .pinned], laidTests := true, laidLooks := .later }
def RefsParsesCardSaid : Prop := Claim7.holds Tryd.pinned (.plain (OpenSpec.ofChange refsParsesSpec)) refsParsesCard

/-- THE TIED CARD OF 'anvillaw15.RefsScans'. -/
def refsScansCard : Claim7 := { stood := { row := refsScansRow, standIns := [], harness := (true, "907854b6708e04544331abdd1d1ef3293deefb218b18a4414c32d03b3c5af3ed"), looks := false }, kinds := [], alts := [], laidByText := true, laidKinds := [.data, .data, .pinned], laidTests := true, laidLooks := .later }
def RefsScansCardSaid : Prop := Claim7.holds Tryd.pinned (.plain (OpenSpec.ofChange refsScansSpec)) refsScansCard

/-- THE TIED CARD OF 'anvillaw15.RefsNames'. -/
def refsNamesCard : Claim7 := { stood := { row := refsNamesRow, standIns := [], harness := (true, "907854b6708e04544331abdd1d1ef3293deefb218b18a4414c32d03b3c5af3ed"), looks := false }, kinds := [], alts := [], laidByText := true, laidKinds := [.data, .data, .pinned], laidTests := true, laidLooks := .later }
def RefsNamesCardSaid : Prop := Claim7.holds Tryd.pinned (.plain (OpenSpec.ofChange refsNamesSpec)) refsNamesCard

/-- THE TIED CARD OF 'anvillaw15.RefsPlain'. -/
def refsPlainCard : Claim7 := { stood := { row := refsPlainRow, standIns := [], harness := (true, "907854b6708e04544331abdd1d1ef3293deefb218b18a4414c32d03b3c5af3ed"), looks := false }, kinds := [], alts := [], laidByText := true, laidKinds := [.data, .data, .pinned], laidTests := true, laidLooks := .later }
def RefsPlainCardSaid : Prop := Claim7.holds Tryd.pinned (.plain (OpenSpec.ofChange refsPlainSpec)) refsPlainCard

/-- THE SECOND FORM's CARD OF 'anvillaw15.RefsParses'. -/
def refsParsesUptoCard : Claim7 := { stood := { row := refsParsesUptoRow, standIns := [], harness := (true, "907854b6708e04544331abdd1d1ef3293deefb218b18a4414c32d03b3c5af3ed"), looks := false }, kinds := [], alts := [], laidByText := true, laidKinds := [.data, .data, .pinned], laidTests := true, laidLooks := .later }
def RefsParsesUptoCardSaid : Prop := Claim7.holds Tryd.pinned (.plain (OpenSpec.upto refsParsesSpec)) refsParsesUptoCard

/-- THE SECOND FORM's CARD OF 'anvillaw15.RefsScans'. -/
def refsScansUptoCard : Claim7 := { stood := { row := refsScansUptoRow, standIns := [], harness := (true, "907854b6708e04544331abdd1d1ef3293deefb218b18a4414c32d03b3c5af3ed"), looks := false }, kinds := [], alts := [], laidByText := true, laidKinds := [.data, .data, .pinned], laidTests := true, laidLooks := .later }
def RefsScansUptoCardSaid : Prop := Claim7.holds Tryd.pinned (.plain (OpenSpec.upto refsScansSpec)) refsScansUptoCard

/-- THE SECOND FORM's CARD OF 'anvillaw15.RefsNames'. -/
def refsNamesUptoCard : Claim7 := { stood := { row := refsNamesUptoRow, standIns := [], harness := (true, "907854b6708e04544331abdd1d1ef3293deefb218b18a4414c32d03b3c5af3ed"), looks := false }, kinds := [], alts := [], laidByText := true, laidKinds := [.data, .data, .pinned], laidTests := true, laidLooks := .later }
def RefsNamesUptoCardSaid : Prop := Claim7.holds Tryd.pinned (.plain (OpenSpec.upto refsNamesSpec)) refsNamesUptoCard

/-- THE SECOND FORM's CARD OF 'anvillaw15.RefsPlain'. -/
def refsPlainUptoCard : Claim7 := { stood := { row := refsPlainUptoRow, standIns := [], harness := (true, "907854b6708e04544331abdd1d1ef3293deefb218b18a4414c32d03b3c5af3ed"), looks := false }, kinds := [], alts := [], laidByText := true, laidKinds := [.data, .data, .pinned], laidTests := true, laidLooks := .later }
def RefsPlainUptoCardSaid : Prop := Claim7.holds Tryd.pinned (.plain (OpenSpec.upto refsPlainSpec)) refsPlainUptoCard
end Rows
end Go.Proofs.YtaemmgllhmjceaaDoor
