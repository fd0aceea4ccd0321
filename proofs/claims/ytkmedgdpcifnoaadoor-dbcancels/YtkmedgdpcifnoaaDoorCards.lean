/-
  DERIVED. GIVEN WITH THE SEED: THE CARDS: each row of YtkmedgdpcifnoaaDoorRows.lean that lists a variable, with what it lists TIED to the program's text (the seventh form; the later family's looks); each row that meets fmt, with fmt's text TOLD by the authors' own Lean function (tested against real Go, not proved from fmt's source: count such statements apart). THE CARD IS WHAT COUNTS. Prove the row's statement (the work); the ties are given (YtkmedgdpcifnoaaDoorTie.lean); close each card by the builder's one call (the guide's Derived/Test/ToyasCard.lean, 'card_holds'). Laid BY PROGRAM, IN A SANDBOX (cutbox-door.mjs). By AI agents, Wed Nov 11 2026. No macro, syntax, notation, axiom, sorry.
-/
import Derived.Test.YtkmedgdpcifnoaaDoorRows
import GoSem.ClaimSeven
namespace Go.Proofs.YtkmedgdpcifnoaaDoor
namespace Rows

/-- THE TIED CARD OF 'anvillaw19.DbRules'. -/
def dbRulesCard : Claim7 := { stood := { row := dbRulesRow, standIns := [], harness := (true, "cb1acc482958669b03a22cc31a89b94a013f003336c387fefaf03230b220f9fe"), looks := false }, kinds := [], alts := [], laidByText := true, laidKinds := [.data, .data, .data, .data], laidTests := true, laidLooks := .later }
def DbRulesCardSaid : Prop := Claim7.holds Tryd.pinned (.plain (OpenSpec.ofChange dbRulesSpec)) dbRulesCard

/-- THE TIED CARD OF 'anvillaw19.DbNames'. -/
def dbNamesCard : Claim7 := { stood := { row := dbNamesRow, standIns := [], harness := (true, "cb1acc482958669b03a22cc31a89b94a013f003336c387fefaf03230b220f9fe"), looks := false }, kinds := [], alts := [], laidByText := true, laidKinds := [.data, .data, .data, .data], laidTests := true, laidLooks := .later }
def DbNamesCardSaid : Prop := Claim7.holds Tryd.pinned (.plain (OpenSpec.ofChange dbNamesSpec)) dbNamesCard

/-- THE TIED CARD OF 'anvillaw19.DbCancels'. -/
def dbCancelsCard : Claim7 := { stood := { row := dbCancelsRow, standIns := [], harness := (true, "cb1acc482958669b03a22cc31a89b94a013f003336c387fefaf03230b220f9fe"), looks := false }, kinds := [], alts := [], laidByText := true, laidKinds := [.data, .data, .data, .data], laidTests := true, laidLooks := .later }
def DbCancelsCardSaid : Prop := Claim7.holds Tryd.pinned (.plain (OpenSpec.ofChange dbCancelsSpec)) dbCancelsCard

/-- THE SECOND FORM's CARD OF 'anvillaw19.DbRules'. -/
def dbRulesUptoCard : Claim7 := { stood := { row := dbRulesUptoRow, standIns := [], harness := (true, "cb1acc482958669b03a22cc31a89b94a013f003336c387fefaf03230b220f9fe"), looks := false }, kinds := [], alts := [], laidByText := true, laidKinds := [.data, .data, .data, .data], laidTests := true, laidLooks := .later }
def DbRulesUptoCardSaid : Prop := Claim7.holds Tryd.pinned (.plain (OpenSpec.upto dbRulesSpec)) dbRulesUptoCard

/-- THE SECOND FORM's CARD OF 'anvillaw19.DbNames'. -/
def dbNamesUptoCard : Claim7 := { stood := { row := dbNamesUptoRow, standIns := [], harness := (true, "cb1acc482958669b03a22cc31a89b94a013f003336c387fefaf03230b220f9fe"), looks := false }, kinds := [], alts := [], laidByText := true, laidKinds := [.data, .data, .data, .data], laidTests := true, laidLooks := .later }
def DbNamesUptoCardSaid : Prop := Claim7.holds Tryd.pinned (.plain (OpenSpec.upto dbNamesSpec)) dbNamesUptoCard

/-- THE SECOND FORM's CARD OF 'anvillaw19.DbCancels'. -/
def dbCancelsUptoCard : Claim7 := { stood := { row := dbCancelsUptoRow, standIns := [], harness := (true, "cb1acc482958669b03a22cc31a89b94a013f003336c387fefaf03230b220f9fe"), looks := false }, kinds := [], alts := [], laidByText := true, laidKinds := [.data, .data, .data, .data], laidTests := true, laidLooks := .later }
def DbCancelsUptoCardSaid : Prop := Claim7.holds Tryd.pinned (.plain (OpenSpec.upto dbCancelsSpec)) dbCancelsUptoCard
end Rows
end Go.Proofs.YtkmedgdpcifnoaaDoor
