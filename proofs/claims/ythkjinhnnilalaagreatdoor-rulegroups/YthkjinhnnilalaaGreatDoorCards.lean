/-
  DERIVED. GIVEN WITH THE SEED: THE CARDS: each row of YthkjinhnnilalaaGreatDoorRows.lean that lists a variable, with what it lists TIED to the program's text (the seventh form; the later family's looks); each row that meets fmt, with fmt's text TOLD by the authors' own Lean function (tested against real Go, not proved from fmt's source: count such statements apart). THE CARD IS WHAT COUNTS. Prove the row's statement (the work); the ties are given (YthkjinhnnilalaaGreatDoorTie.lean); close each card by the builder's one call (the guide's Derived/Test/ToyasCard.lean, 'card_holds'). Laid BY PROGRAM, IN A SANDBOX (cutbox-door.mjs). By AI agents, Wed Nov 11 2026. No macro, syntax, notation, axiom, sorry.
-/
import Derived.Test.YthkjinhnnilalaaGreatDoorRows
import GoSem.ClaimSeven
namespace Go.Proofs.YthkjinhnnilalaaGreatDoor
namespace Rows

/-- THE TIED CARD OF 'anvillaw17.RuleGroups'. -/
def ruleGroupsCard : Claim7 := { stood := { row := ruleGroupsRow, standIns := [], harness := (true, "2c86a33425c3690c2ff331e518b9f31b4a0fd344802a05954c2df8b4c2a80968"), looks := true }, kinds := [], alts := [], laidByText := true, laidKinds := [.data, .pinned], laidTests := true, laidLooks := .later }
def RuleGroupsCardSaid : Prop := Claim7.holds Tryz.pinned (.plain (OpenSpec.ofChange ruleGroupsSpec)) ruleGroupsCard

/-- THE TIED CARD OF 'anvillaw17.RuleStatic'. -/
def ruleStaticCard : Claim7 := { stood := { row := ruleStaticRow, standIns := [], harness := (true, "2c86a33425c3690c2ff331e518b9f31b4a0fd344802a05954c2df8b4c2a80968"), looks := true }, kinds := [], alts := [], laidByText := true, laidKinds := [.data, .pinned], laidTests := true, laidLooks := .later }
def RuleStaticCardSaid : Prop := Claim7.holds Tryz.pinned (.plain (OpenSpec.ofChange ruleStaticSpec)) ruleStaticCard

/-- THE SECOND FORM's CARD OF 'anvillaw17.RuleGroups'. -/
def ruleGroupsUptoCard : Claim7 := { stood := { row := ruleGroupsUptoRow, standIns := [], harness := (true, "2c86a33425c3690c2ff331e518b9f31b4a0fd344802a05954c2df8b4c2a80968"), looks := true }, kinds := [], alts := [], laidByText := true, laidKinds := [.data, .pinned], laidTests := true, laidLooks := .later }
def RuleGroupsUptoCardSaid : Prop := Claim7.holds Tryz.pinned (.plain (OpenSpec.upto ruleGroupsSpec)) ruleGroupsUptoCard

/-- THE SECOND FORM's CARD OF 'anvillaw17.RuleStatic'. -/
def ruleStaticUptoCard : Claim7 := { stood := { row := ruleStaticUptoRow, standIns := [], harness := (true, "2c86a33425c3690c2ff331e518b9f31b4a0fd344802a05954c2df8b4c2a80968"), looks := true }, kinds := [], alts := [], laidByText := true, laidKinds := [.data, .pinned], laidTests := true, laidLooks := .later }
def RuleStaticUptoCardSaid : Prop := Claim7.holds Tryz.pinned (.plain (OpenSpec.upto ruleStaticSpec)) ruleStaticUptoCard
end Rows
end Go.Proofs.YthkjinhnnilalaaGreatDoor
