/-
  DERIVED. GIVEN WITH THE SEED: THE CARDS: each row of YtkgepklmhdjjnaaGreatDoorRows.lean that lists a variable, with what it lists TIED to the program's text (the seventh form; the later family's looks); each row that meets fmt, with fmt's text TOLD by the authors' own Lean function (tested against real Go, not proved from fmt's source: count such statements apart). THE CARD IS WHAT COUNTS. Prove the row's statement (the work); the ties are given (YtkgepklmhdjjnaaGreatDoorTie.lean); close each card by the builder's one call (the guide's Derived/Test/ToyasCard.lean, 'card_holds'). Laid BY PROGRAM, IN A SANDBOX (cutbox-door.mjs). By AI agents, Wed Nov 11 2026. No macro, syntax, notation, axiom, sorry.
-/
import Derived.Test.YtkgepklmhdjjnaaGreatDoorRows
import GoSem.ClaimSeven
namespace Go.Proofs.YtkgepklmhdjjnaaGreatDoor
namespace Rows

/-- THE TIED CARD OF 'cartularylaw12.FormReads'. -/
def formReadsCard : Claim7 := { stood := { row := formReadsRow, standIns := [], harness := (true, "ba023d0c9d4190c288ed33ad3c6dd325a46ba45cd322f2ccccc2b093838c205a"), looks := true }, kinds := [], alts := [], laidByText := true, laidKinds := [.data, .data, .data, .sentinel, .sentinel], laidTests := true, laidLooks := .later }
def FormReadsCardSaid : Prop := Claim7.holds Tryz.pinned (.plain (OpenSpec.ofChange formReadsSpec)) formReadsCard

/-- THE TIED CARD OF 'cartularylaw12.FormSets'. -/
def formSetsCard : Claim7 := { stood := { row := formSetsRow, standIns := [], harness := (true, "ba023d0c9d4190c288ed33ad3c6dd325a46ba45cd322f2ccccc2b093838c205a"), looks := true }, kinds := [], alts := [], laidByText := true, laidKinds := [.data, .data, .data, .sentinel, .sentinel], laidTests := true, laidLooks := .later }
def FormSetsCardSaid : Prop := Claim7.holds Tryz.pinned (.plain (OpenSpec.ofChange formSetsSpec)) formSetsCard

/-- THE TIED CARD OF 'cartularylaw13.RulesNames'. -/
def rulesNamesCard : Claim7 := { stood := { row := rulesNamesRow, standIns := [], harness := (true, "ba023d0c9d4190c288ed33ad3c6dd325a46ba45cd322f2ccccc2b093838c205a"), looks := true }, kinds := [], alts := [], laidByText := true, laidKinds := [.data, .data, .data], laidTests := true, laidLooks := .later }
def RulesNamesCardSaid : Prop := Claim7.holds Tryz.pinned (.plain (OpenSpec.ofChange rulesNamesSpec)) rulesNamesCard

/-- THE TIED CARD OF 'cartularylaw13.RulesChecks'. -/
def rulesChecksCard : Claim7 := { stood := { row := rulesChecksRow, standIns := [], harness := (true, "ba023d0c9d4190c288ed33ad3c6dd325a46ba45cd322f2ccccc2b093838c205a"), looks := true }, kinds := [], alts := [], laidByText := true, laidKinds := [.data, .data, .data], laidTests := true, laidLooks := .later }
def RulesChecksCardSaid : Prop := Claim7.holds Tryz.pinned (.plain (OpenSpec.ofChange rulesChecksSpec)) rulesChecksCard

/-- THE TIED CARD OF 'cartularylaw13.RulesEvals'. -/
def rulesEvalsCard : Claim7 := { stood := { row := rulesEvalsRow, standIns := [], harness := (true, "ba023d0c9d4190c288ed33ad3c6dd325a46ba45cd322f2ccccc2b093838c205a"), looks := true }, kinds := [], alts := [], laidByText := true, laidKinds := [.data, .data, .data], laidTests := true, laidLooks := .later }
def RulesEvalsCardSaid : Prop := Claim7.holds Tryz.pinned (.plain (OpenSpec.ofChange rulesEvalsSpec)) rulesEvalsCard

/-- THE TIED CARD OF 'cartularylaw13.RulesDecides'. -/
def rulesDecidesCard : Claim7 := { stood := { row := rulesDecidesRow, standIns := [], harness := (true, "ba023d0c9d4190c288ed33ad3c6dd325a46ba45cd322f2ccccc2b093838c205a"), looks := true }, kinds := [], alts := [], laidByText := true, laidKinds := [.data, .data, .data], laidTests := true, laidLooks := .later }
def RulesDecidesCardSaid : Prop := Claim7.holds Tryz.pinned (.plain (OpenSpec.ofChange rulesDecidesSpec)) rulesDecidesCard

/-- THE SECOND FORM's CARD OF 'cartularylaw12.FormReads'. -/
def formReadsUptoCard : Claim7 := { stood := { row := formReadsUptoRow, standIns := [], harness := (true, "ba023d0c9d4190c288ed33ad3c6dd325a46ba45cd322f2ccccc2b093838c205a"), looks := true }, kinds := [], alts := [], laidByText := true, laidKinds := [.data, .data, .data, .sentinel, .sentinel], laidTests := true, laidLooks := .later }
def FormReadsUptoCardSaid : Prop := Claim7.holds Tryz.pinned (.plain (OpenSpec.upto formReadsSpec)) formReadsUptoCard

/-- THE SECOND FORM's CARD OF 'cartularylaw12.FormSets'. -/
def formSetsUptoCard : Claim7 := { stood := { row := formSetsUptoRow, standIns := [], harness := (true, "ba023d0c9d4190c288ed33ad3c6dd325a46ba45cd322f2ccccc2b093838c205a"), looks := true }, kinds := [], alts := [], laidByText := true, laidKinds := [.data, .data, .data, .sentinel, .sentinel], laidTests := true, laidLooks := .later }
def FormSetsUptoCardSaid : Prop := Claim7.holds Tryz.pinned (.plain (OpenSpec.upto formSetsSpec)) formSetsUptoCard

/-- THE SECOND FORM's CARD OF 'cartularylaw13.RulesNames'. -/
def rulesNamesUptoCard : Claim7 := { stood := { row := rulesNamesUptoRow, standIns := [], harness := (true, "ba023d0c9d4190c288ed33ad3c6dd325a46ba45cd322f2ccccc2b093838c205a"), looks := true }, kinds := [], alts := [], laidByText := true, laidKinds := [.data, .data, .data], laidTests := true, laidLooks := .later }
def RulesNamesUptoCardSaid : Prop := Claim7.holds Tryz.pinned (.plain (OpenSpec.upto rulesNamesSpec)) rulesNamesUptoCard

/-- THE SECOND FORM's CARD OF 'cartularylaw13.RulesChecks'. -/
def rulesChecksUptoCard : Claim7 := { stood := { row := rulesChecksUptoRow, standIns := [], harness := (true, "ba023d0c9d4190c288ed33ad3c6dd325a46ba45cd322f2ccccc2b093838c205a"), looks := true }, kinds := [], alts := [], laidByText := true, laidKinds := [.data, .data, .data], laidTests := true, laidLooks := .later }
def RulesChecksUptoCardSaid : Prop := Claim7.holds Tryz.pinned (.plain (OpenSpec.upto rulesChecksSpec)) rulesChecksUptoCard

/-- THE SECOND FORM's CARD OF 'cartularylaw13.RulesEvals'. -/
def rulesEvalsUptoCard : Claim7 := { stood := { row := rulesEvalsUptoRow, standIns := [], harness := (true, "ba023d0c9d4190c288ed33ad3c6dd325a46ba45cd322f2ccccc2b093838c205a"), looks := true }, kinds := [], alts := [], laidByText := true, laidKinds := [.data, .data, .data], laidTests := true, laidLooks := .later }
def RulesEvalsUptoCardSaid : Prop := Claim7.holds Tryz.pinned (.plain (OpenSpec.upto rulesEvalsSpec)) rulesEvalsUptoCard

/-- THE SECOND FORM's CARD OF 'cartularylaw13.RulesDecides'. -/
def rulesDecidesUptoCard : Claim7 := { stood := { row := rulesDecidesUptoRow, standIns := [], harness := (true, "ba023d0c9d4190c288ed33ad3c6dd325a46ba45cd322f2ccccc2b093838c205a"), looks := true }, kinds := [], alts := [], laidByText := true, laidKinds := [.data, .data, .data], laidTests := true, laidLooks := .later }
def RulesDecidesUptoCardSaid : Prop := Claim7.holds Tryz.pinned (.plain (OpenSpec.upto rulesDecidesSpec)) rulesDecidesUptoCard
end Rows
end Go.Proofs.YtkgepklmhdjjnaaGreatDoor
