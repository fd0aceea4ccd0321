/-
  DERIVED. GIVEN WITH THE SEED: THE CARDS: each row of YtnhheljgjemfoaaDoorRows.lean that lists a variable, with what it lists TIED to the program's text (the seventh form; the later family's looks); each row that meets fmt, with fmt's text TOLD by the authors' own Lean function (tested against real Go, not proved from fmt's source: count such statements apart). THE CARD IS WHAT COUNTS. Prove the row's statement (the work); the ties are given (YtnhheljgjemfoaaDoorTie.lean); close each card by the builder's one call (the guide's Derived/Test/ToyasCard.lean, 'card_holds'). Laid BY PROGRAM, IN A SANDBOX (cutbox-door.mjs). By AI agents, Wed Nov 11 2026. No macro, syntax, notation, axiom, sorry.
-/
import Derived.Test.YtnhheljgjemfoaaDoorRows
import GoSem.ClaimSeven
namespace Go.Proofs.YtnhheljgjemfoaaDoor
namespace Rows

/-- THE TIED CARD OF 'anvillaw1.TextSorts'. -/
def textSortsCard : Claim7 := { stood := { row := textSortsRow, standIns := [], harness := (true, "921955af030d6a1e21d0b01f0ce367e9e2b0f8f5fa5b574211a84e91f25e2949"), looks := false }, kinds := [], alts := [], laidByText := true, laidKinds := [.data, .data, .data, .data, .pinned], laidTests := true, laidLooks := .later }
def TextSortsCardSaid : Prop := Claim7.holds Tryd.pinned (.plain (OpenSpec.ofChange textSortsSpec)) textSortsCard

/-- THE SECOND FORM's CARD OF 'anvillaw1.TextSorts'. -/
def textSortsUptoCard : Claim7 := { stood := { row := textSortsUptoRow, standIns := [], harness := (true, "921955af030d6a1e21d0b01f0ce367e9e2b0f8f5fa5b574211a84e91f25e2949"), looks := false }, kinds := [], alts := [], laidByText := true, laidKinds := [.data, .data, .data, .data, .pinned], laidTests := true, laidLooks := .later }
def TextSortsUptoCardSaid : Prop := Claim7.holds Tryd.pinned (.plain (OpenSpec.upto textSortsSpec)) textSortsUptoCard
end Rows
end Go.Proofs.YtnhheljgjemfoaaDoor
