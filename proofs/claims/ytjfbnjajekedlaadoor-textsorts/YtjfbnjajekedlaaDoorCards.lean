/-
  DERIVED. GIVEN WITH THE SEED: THE CARDS: each row of YtjfbnjajekedlaaDoorRows.lean that lists a variable, with what it lists TIED to the program's text (the seventh form; the later family's looks); each row that meets fmt, with fmt's text TOLD by the authors' own Lean function (tested against real Go, not proved from fmt's source: count such statements apart). THE CARD IS WHAT COUNTS. Prove the row's statement (the work); the ties are given (YtjfbnjajekedlaaDoorTie.lean); close each card by the builder's one call (the guide's Derived/Test/ToyasCard.lean, 'card_holds'). Laid BY PROGRAM, IN A SANDBOX (cutbox-door.mjs). By AI agents, Wed Nov 11 2026. No macro, syntax, notation, axiom, sorry.
-/
import Derived.Test.YtjfbnjajekedlaaDoorRows
import GoSem.ClaimSeven
namespace Go.Proofs.YtjfbnjajekedlaaDoor
namespace Rows

/-- THE TIED CARD OF 'anvillaw1.TextWords'. -/
def textWordsCard : Claim7 := { stood := { row := textWordsRow, standIns := [], harness := (true, "05963ba63396d3d4b67adbfd471a0f7584671f65744c8bdaf0df537bf2fa3b0f"), looks := false }, kinds := [], alts := [], laidByText := true, laidKinds := [.data, .data, .data, .data, .pinned], laidTests := true, laidLooks := .later }
def TextWordsCardSaid : Prop := Claim7.holds Tryd.pinned (.plain (OpenSpec.ofChange textWordsSpec)) textWordsCard

/-- THE TIED CARD OF 'anvillaw1.TextJoins'. -/
def textJoinsCard : Claim7 := { stood := { row := textJoinsRow, standIns := [], harness := (true, "05963ba63396d3d4b67adbfd471a0f7584671f65744c8bdaf0df537bf2fa3b0f"), looks := false }, kinds := [], alts := [], laidByText := true, laidKinds := [.data, .data, .data, .data, .pinned], laidTests := true, laidLooks := .later }
def TextJoinsCardSaid : Prop := Claim7.holds Tryd.pinned (.plain (OpenSpec.ofChange textJoinsSpec)) textJoinsCard

/-- THE TIED CARD OF 'anvillaw1.TextReplaces'. -/
def textReplacesCard : Claim7 := { stood := { row := textReplacesRow, standIns := [], harness := (true, "05963ba63396d3d4b67adbfd471a0f7584671f65744c8bdaf0df537bf2fa3b0f"), looks := false }, kinds := [], alts := [], laidByText := true, laidKinds := [.data, .data, .data, .data, .pinned], laidTests := true, laidLooks := .later }
def TextReplacesCardSaid : Prop := Claim7.holds Tryd.pinned (.plain (OpenSpec.ofChange textReplacesSpec)) textReplacesCard

/-- THE TIED CARD OF 'anvillaw1.TextSorts'. -/
def textSortsCard : Claim7 := { stood := { row := textSortsRow, standIns := [], harness := (true, "05963ba63396d3d4b67adbfd471a0f7584671f65744c8bdaf0df537bf2fa3b0f"), looks := false }, kinds := [], alts := [], laidByText := true, laidKinds := [.data, .data, .data, .data, .pinned], laidTests := true, laidLooks := .later }
def TextSortsCardSaid : Prop := Claim7.holds Tryd.pinned (.plain (OpenSpec.ofChange textSortsSpec)) textSortsCard

/-- THE TIED CARD OF 'anvillaw1.TextNumbers'. -/
def textNumbersCard : Claim7 := { stood := { row := textNumbersRow, standIns := [], harness := (true, "05963ba63396d3d4b67adbfd471a0f7584671f65744c8bdaf0df537bf2fa3b0f"), looks := false }, kinds := [], alts := [], laidByText := true, laidKinds := [.data, .data, .data, .data, .pinned], laidTests := true, laidLooks := .later }
def TextNumbersCardSaid : Prop := Claim7.holds Tryd.pinned (.plain (OpenSpec.ofChange textNumbersSpec)) textNumbersCard

/-- THE TIED CARD OF 'anvillaw1.TextEmpty'. -/
def textEmptyCard : Claim7 := { stood := { row := textEmptyRow, standIns := [], harness := (true, "05963ba63396d3d4b67adbfd471a0f7584671f65744c8bdaf0df537bf2fa3b0f"), looks := false }, kinds := [], alts := [], laidByText := true, laidKinds := [.data, .data, .data, .data, .pinned], laidTests := true, laidLooks := .later }
def TextEmptyCardSaid : Prop := Claim7.holds Tryd.pinned (.plain (OpenSpec.ofChange textEmptySpec)) textEmptyCard

/-- THE SECOND FORM's CARD OF 'anvillaw1.TextWords'. -/
def textWordsUptoCard : Claim7 := { stood := { row := textWordsUptoRow, standIns := [], harness := (true, "05963ba63396d3d4b67adbfd471a0f7584671f65744c8bdaf0df537bf2fa3b0f"), looks := false }, kinds := [], alts := [], laidByText := true, laidKinds := [.data, .data, .data, .data, .pinned], laidTests := true, laidLooks := .later }
def TextWordsUptoCardSaid : Prop := Claim7.holds Tryd.pinned (.plain (OpenSpec.upto textWordsSpec)) textWordsUptoCard

/-- THE SECOND FORM's CARD OF 'anvillaw1.TextJoins'. -/
def textJoinsUptoCard : Claim7 := { stood := { row := textJoinsUptoRow, standIns := [], harness := (true, "05963ba63396d3d4b67adbfd471a0f7584671f65744c8bdaf0df537bf2fa3b0f"), looks := false }, kinds := [], alts := [], laidByText := true, laidKinds := [.data, .data, .data, .data, .pinned], laidTests := true, laidLooks := .later }
def TextJoinsUptoCardSaid : Prop := Claim7.holds Tryd.pinned (.plain (OpenSpec.upto textJoinsSpec)) textJoinsUptoCard

/-- THE SECOND FORM's CARD OF 'anvillaw1.TextReplaces'. -/
def textReplacesUptoCard : Claim7 := { stood := { row := textReplacesUptoRow, standIns := [], harness := (true, "05963ba63396d3d4b67adbfd471a0f7584671f65744c8bdaf0df537bf2fa3b0f"), looks := false }, kinds := [], alts := [], laidByText := true, laidKinds := [.data, .data, .data, .data, .pinned], laidTests := true, laidLooks := .later }
def TextReplacesUptoCardSaid : Prop := Claim7.holds Tryd.pinned (.plain (OpenSpec.upto textReplacesSpec)) textReplacesUptoCard

/-- THE SECOND FORM's CARD OF 'anvillaw1.TextSorts'. -/
def textSortsUptoCard : Claim7 := { stood := { row := textSortsUptoRow, standIns := [], harness := (true, "05963ba63396d3d4b67adbfd471a0f7584671f65744c8bdaf0df537bf2fa3b0f"), looks := false }, kinds := [], alts := [], laidByText := true, laidKinds := [.data, .data, .data, .data, .pinned], laidTests := true, laidLooks := .later }
def TextSortsUptoCardSaid : Prop := Claim7.holds Tryd.pinned (.plain (OpenSpec.upto textSortsSpec)) textSortsUptoCard

/-- THE SECOND FORM's CARD OF 'anvillaw1.TextNumbers'. -/
def textNumbersUptoCard : Claim7 := { stood := { row := textNumbersUptoRow, standIns := [], harness := (true, "05963ba63396d3d4b67adbfd471a0f7584671f65744c8bdaf0df537bf2fa3b0f"), looks := false }, kinds := [], alts := [], laidByText := true, laidKinds := [.data, .data, .data, .data, .pinned], laidTests := true, laidLooks := .later }
def TextNumbersUptoCardSaid : Prop := Claim7.holds Tryd.pinned (.plain (OpenSpec.upto textNumbersSpec)) textNumbersUptoCard

/-- THE SECOND FORM's CARD OF 'anvillaw1.TextEmpty'. -/
def textEmptyUptoCard : Claim7 := { stood := { row := textEmptyUptoRow, standIns := [], harness := (true, "05963ba63396d3d4b67adbfd471a0f7584671f65744c8bdaf0df537bf2fa3b0f"), looks := false }, kinds := [], alts := [], laidByText := true, laidKinds := [.data, .data, .data, .data, .pinned], laidTests := true, laidLooks := .later }
def TextEmptyUptoCardSaid : Prop := Claim7.holds Tryd.pinned (.plain (OpenSpec.upto textEmptySpec)) textEmptyUptoCard
end Rows
end Go.Proofs.YtjfbnjajekedlaaDoor
