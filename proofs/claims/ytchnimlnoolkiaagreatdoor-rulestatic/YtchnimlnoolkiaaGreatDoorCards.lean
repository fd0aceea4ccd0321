/-
  DERIVED. GIVEN WITH THE SEED: THE CARDS: each row of YtchnimlnoolkiaaGreatDoorRows.lean that lists a variable, with what it lists TIED to the program's text (the seventh form; the later family's looks); each row that meets fmt, with fmt's text TOLD by the authors' own Lean function (tested against real Go, not proved from fmt's source: count such statements apart). THE CARD IS WHAT COUNTS. Prove the row's statement (the work); the ties are given (YtchnimlnoolkiaaGreatDoorTie.lean); close each card by the builder's one call (the guide's Derived/Test/ToyasCard.lean, 'card_holds'). Laid BY PROGRAM, IN A SANDBOX (cutbox-door.mjs). By AI agents, Wed Nov 11 2026. No macro, syntax, notation, axiom, sorry.
-/
import Derived.Test.YtchnimlnoolkiaaGreatDoorRows
import GoSem.ClaimSeven
namespace Go.Proofs.YtchnimlnoolkiaaGreatDoor
namespace Rows

/-- THE TIED CARD OF 'anvillaw17.RuleTakes'. -/
def ruleTakesCard : Claim7 := { stood := { row := ruleTakesRow, standIns := [], harness := (true, "d49b4c0767d0cc6b829ccd9282015b6a4ab8668a55851732abdebe1f546695ea"), looks := true }, kinds := [], alts := [], laidByText := true, laidKinds := [.data, .pinned], laidTests := true, laidLooks := .later }
def RuleTakesCardSaid : Prop := Claim7.holds Tryz.pinned (.plain (OpenSpec.ofChange ruleTakesSpec)) ruleTakesCard

/-- THE TIED CARD OF 'anvillaw17.RuleGroups'. -/
def ruleGroupsCard : Claim7 := { stood := { row := ruleGroupsRow, standIns := [], harness := (true, "d49b4c0767d0cc6b829ccd9282015b6a4ab8668a55851732abdebe1f546695ea"), looks := true }, kinds := [], alts := [], laidByText := true, laidKinds := [.data, .pinned], laidTests := true, laidLooks := .later }
def RuleGroupsCardSaid : Prop := Claim7.holds Tryz.pinned (.plain (OpenSpec.ofChange ruleGroupsSpec)) ruleGroupsCard

/-- THE TIED CARD OF 'anvillaw17.RuleSets'. -/
def ruleSetsCard : Claim7 := { stood := { row := ruleSetsRow, standIns := [], harness := (true, "d49b4c0767d0cc6b829ccd9282015b6a4ab8668a55851732abdebe1f546695ea"), looks := true }, kinds := [], alts := [], laidByText := true, laidKinds := [.data, .pinned], laidTests := true, laidLooks := .later }
def RuleSetsCardSaid : Prop := Claim7.holds Tryz.pinned (.plain (OpenSpec.ofChange ruleSetsSpec)) ruleSetsCard

/-- THE TIED CARD OF 'anvillaw17.RuleStatic'. -/
def ruleStaticCard : Claim7 := { stood := { row := ruleStaticRow, standIns := [], harness := (true, "d49b4c0767d0cc6b829ccd9282015b6a4ab8668a55851732abdebe1f546695ea"), looks := true }, kinds := [], alts := [], laidByText := true, laidKinds := [.data, .pinned], laidTests := true, laidLooks := .later }
def RuleStaticCardSaid : Prop := Claim7.holds Tryz.pinned (.plain (OpenSpec.ofChange ruleStaticSpec)) ruleStaticCard

/-- THE SECOND FORM's CARD OF 'anvillaw17.RuleTakes'. -/
def ruleTakesUptoCard : Claim7 := { stood := { row := ruleTakesUptoRow, standIns := [], harness := (true, "d49b4c0767d0cc6b829ccd9282015b6a4ab8668a55851732abdebe1f546695ea"), looks := true }, kinds := [], alts := [], laidByText := true, laidKinds := [.data, .pinned], laidTests := true, laidLooks := .later }
def RuleTakesUptoCardSaid : Prop := Claim7.holds Tryz.pinned (.plain (OpenSpec.upto ruleTakesSpec)) ruleTakesUptoCard

/-- THE SECOND FORM's CARD OF 'anvillaw17.RuleGroups'. -/
def ruleGroupsUptoCard : Claim7 := { stood := { row := ruleGroupsUptoRow, standIns := [], harness := (true, "d49b4c0767d0cc6b829ccd9282015b6a4ab8668a55851732abdebe1f546695ea"), looks := true }, kinds := [], alts := [], laidByText := true, laidKinds := [.data, .pinned], laidTests := true, laidLooks := .later }
def RuleGroupsUptoCardSaid : Prop := Claim7.holds Tryz.pinned (.plain (OpenSpec.upto ruleGroupsSpec)) ruleGroupsUptoCard

/-- THE SECOND FORM's CARD OF 'anvillaw17.RuleSets'. -/
def ruleSetsUptoCard : Claim7 := { stood := { row := ruleSetsUptoRow, standIns := [], harness := (true, "d49b4c0767d0cc6b829ccd9282015b6a4ab8668a55851732abdebe1f546695ea"), looks := true }, kinds := [], alts := [], laidByText := true, laidKinds := [.data, .pinned], laidTests := true, laidLooks := .later }
def RuleSetsUptoCardSaid : Prop := Claim7.holds Tryz.pinned (.plain (OpenSpec.upto ruleSetsSpec)) ruleSetsUptoCard

/-- THE SECOND FORM's CARD OF 'anvillaw17.RuleStatic'. -/
def ruleStaticUptoCard : Claim7 := { stood := { row := ruleStaticUptoRow, standIns := [], harness := (true, "d49b4c0767d0cc6b829ccd9282015b6a4ab8668a55851732abdebe1f546695ea"), looks := true }, kinds := [], alts := [], laidByText := true, laidKinds := [.data, .pinned], laidTests := true, laidLooks := .later }
def RuleStaticUptoCardSaid : Prop := Claim7.holds Tryz.pinned (.plain (OpenSpec.upto ruleStaticSpec)) ruleStaticUptoCard
end Rows
end Go.Proofs.YtchnimlnoolkiaaGreatDoor
