/-
  DERIVED. GIVEN WITH THE SEED: THE CARDS: each row of YtclllkbljaomoaaGreatDoorRows.lean that lists a variable, with what it lists TIED to the program's text (the seventh form; the later family's looks); each row that meets fmt, with fmt's text TOLD by the authors' own Lean function (tested against real Go, not proved from fmt's source: count such statements apart). THE CARD IS WHAT COUNTS. Prove the row's statement (the work); the ties are given (YtclllkbljaomoaaGreatDoorTie.lean); close each card by the builder's one call (the guide's Derived/Test/ToyasCard.lean, 'card_holds'). Laid BY PROGRAM, IN A SANDBOX (cutbox-door.mjs). By AI agents, Wed Nov 11 2026. No macro, syntax, notation, axiom, sorry.
-/
import Derived.Test.YtclllkbljaomoaaGreatDoorRows
import GoSem.ClaimSeven
namespace Go.Proofs.YtclllkbljaomoaaGreatDoor
namespace Rows

/-- THE TIED CARD OF 'cartularylaw13.RulesNames'. -/
def rulesNamesCard : Claim7 := { stood := { row := rulesNamesRow, standIns := [], harness := (true, "4c89931d1df12411ab6646fff92058b7adefcd7b79b9c58e2e511a0d2874565e"), looks := true }, kinds := [], alts := [], laidByText := true, laidKinds := [.data, .data, .data], laidTests := true, laidLooks := .later }
def RulesNamesCardSaid : Prop := Claim7.holds Tryz.pinned (.plain (OpenSpec.ofChange rulesNamesSpec)) rulesNamesCard

/-- THE TIED CARD OF 'cartularylaw13.RulesChecks'. -/
def rulesChecksCard : Claim7 := { stood := { row := rulesChecksRow, standIns := [], harness := (true, "4c89931d1df12411ab6646fff92058b7adefcd7b79b9c58e2e511a0d2874565e"), looks := true }, kinds := [], alts := [], laidByText := true, laidKinds := [.data, .data, .data], laidTests := true, laidLooks := .later }
def RulesChecksCardSaid : Prop := Claim7.holds Tryz.pinned (.plain (OpenSpec.ofChange rulesChecksSpec)) rulesChecksCard

/-- THE TIED CARD OF 'cartularylaw13.RulesEvals'. -/
def rulesEvalsCard : Claim7 := { stood := { row := rulesEvalsRow, standIns := [], harness := (true, "4c89931d1df12411ab6646fff92058b7adefcd7b79b9c58e2e511a0d2874565e"), looks := true }, kinds := [], alts := [], laidByText := true, laidKinds := [.data, .data, .data], laidTests := true, laidLooks := .later }
def RulesEvalsCardSaid : Prop := Claim7.holds Tryz.pinned (.plain (OpenSpec.ofChange rulesEvalsSpec)) rulesEvalsCard

/-- THE TIED CARD OF 'cartularylaw13.RulesDecides'. -/
def rulesDecidesCard : Claim7 := { stood := { row := rulesDecidesRow, standIns := [], harness := (true, "4c89931d1df12411ab6646fff92058b7adefcd7b79b9c58e2e511a0d2874565e"), looks := true }, kinds := [], alts := [], laidByText := true, laidKinds := [.data, .data, .data], laidTests := true, laidLooks := .later }
def RulesDecidesCardSaid : Prop := Claim7.holds Tryz.pinned (.plain (OpenSpec.ofChange rulesDecidesSpec)) rulesDecidesCard

/-- THE TIED CARD OF 'cartularylaw13.RulesFolds'. -/
def rulesFoldsCard : Claim7 := { stood := { row := rulesFoldsRow, standIns := [], harness := (true, "4c89931d1df12411ab6646fff92058b7adefcd7b79b9c58e2e511a0d2874565e"), looks := true }, kinds := [], alts := [], laidByText := true, laidKinds := [.data, .data, .data], laidTests := true, laidLooks := .later }
def RulesFoldsCardSaid : Prop := Claim7.holds Tryz.pinned (.plain (OpenSpec.ofChange rulesFoldsSpec)) rulesFoldsCard

/-- THE TIED CARD OF 'cartularylaw13.RulesSound'. -/
def rulesSoundCard : Claim7 := { stood := { row := rulesSoundRow, standIns := [], harness := (true, "4c89931d1df12411ab6646fff92058b7adefcd7b79b9c58e2e511a0d2874565e"), looks := true }, kinds := [], alts := [], laidByText := true, laidKinds := [.data, .data, .data], laidTests := true, laidLooks := .later }
def RulesSoundCardSaid : Prop := Claim7.holds Tryz.pinned (.plain (OpenSpec.ofChange rulesSoundSpec)) rulesSoundCard

/-- THE SECOND FORM's CARD OF 'cartularylaw13.RulesNames'. -/
def rulesNamesUptoCard : Claim7 := { stood := { row := rulesNamesUptoRow, standIns := [], harness := (true, "4c89931d1df12411ab6646fff92058b7adefcd7b79b9c58e2e511a0d2874565e"), looks := true }, kinds := [], alts := [], laidByText := true, laidKinds := [.data, .data, .data], laidTests := true, laidLooks := .later }
def RulesNamesUptoCardSaid : Prop := Claim7.holds Tryz.pinned (.plain (OpenSpec.upto rulesNamesSpec)) rulesNamesUptoCard

/-- THE SECOND FORM's CARD OF 'cartularylaw13.RulesChecks'. -/
def rulesChecksUptoCard : Claim7 := { stood := { row := rulesChecksUptoRow, standIns := [], harness := (true, "4c89931d1df12411ab6646fff92058b7adefcd7b79b9c58e2e511a0d2874565e"), looks := true }, kinds := [], alts := [], laidByText := true, laidKinds := [.data, .data, .data], laidTests := true, laidLooks := .later }
def RulesChecksUptoCardSaid : Prop := Claim7.holds Tryz.pinned (.plain (OpenSpec.upto rulesChecksSpec)) rulesChecksUptoCard

/-- THE SECOND FORM's CARD OF 'cartularylaw13.RulesEvals'. -/
def rulesEvalsUptoCard : Claim7 := { stood := { row := rulesEvalsUptoRow, standIns := [], harness := (true, "4c89931d1df12411ab6646fff92058b7adefcd7b79b9c58e2e511a0d2874565e"), looks := true }, kinds := [], alts := [], laidByText := true, laidKinds := [.data, .data, .data], laidTests := true, laidLooks := .later }
def RulesEvalsUptoCardSaid : Prop := Claim7.holds Tryz.pinned (.plain (OpenSpec.upto rulesEvalsSpec)) rulesEvalsUptoCard

/-- THE SECOND FORM's CARD OF 'cartularylaw13.RulesDecides'. -/
def rulesDecidesUptoCard : Claim7 := { stood := { row := rulesDecidesUptoRow, standIns := [], harness := (true, "4c89931d1df12411ab6646fff92058b7adefcd7b79b9c58e2e511a0d2874565e"), looks := true }, kinds := [], alts := [], laidByText := true, laidKinds := [.data, .data, .data], laidTests := true, laidLooks := .later }
def RulesDecidesUptoCardSaid : Prop := Claim7.holds Tryz.pinned (.plain (OpenSpec.upto rulesDecidesSpec)) rulesDecidesUptoCard

/-- THE SECOND FORM's CARD OF 'cartularylaw13.RulesFolds'. -/
def rulesFoldsUptoCard : Claim7 := { stood := { row := rulesFoldsUptoRow, standIns := [], harness := (true, "4c89931d1df12411ab6646fff92058b7adefcd7b79b9c58e2e511a0d2874565e"), looks := true }, kinds := [], alts := [], laidByText := true, laidKinds := [.data, .data, .data], laidTests := true, laidLooks := .later }
def RulesFoldsUptoCardSaid : Prop := Claim7.holds Tryz.pinned (.plain (OpenSpec.upto rulesFoldsSpec)) rulesFoldsUptoCard

/-- THE SECOND FORM's CARD OF 'cartularylaw13.RulesSound'. -/
def rulesSoundUptoCard : Claim7 := { stood := { row := rulesSoundUptoRow, standIns := [], harness := (true, "4c89931d1df12411ab6646fff92058b7adefcd7b79b9c58e2e511a0d2874565e"), looks := true }, kinds := [], alts := [], laidByText := true, laidKinds := [.data, .data, .data], laidTests := true, laidLooks := .later }
def RulesSoundUptoCardSaid : Prop := Claim7.holds Tryz.pinned (.plain (OpenSpec.upto rulesSoundSpec)) rulesSoundUptoCard
end Rows
end Go.Proofs.YtclllkbljaomoaaGreatDoor
