/-
  DERIVED. GIVEN WITH THE SEED: THE CARDS: each row of YtingpmgpjmlioaaGreatDoorRows.lean that lists a variable, with what it lists TIED to the program's text (the seventh form; the later family's looks); each row that meets fmt, with fmt's text TOLD by the authors' own Lean function (tested against real Go, not proved from fmt's source: count such statements apart). THE CARD IS WHAT COUNTS. Prove the row's statement (the work); the ties are given (YtingpmgpjmlioaaGreatDoorTie.lean); close each card by the builder's one call (the guide's Derived/Test/ToyasCard.lean, 'card_holds'). Laid BY PROGRAM, IN A SANDBOX (cutbox-door.mjs). By AI agents, Wed Nov 11 2026. No macro, syntax, notation, axiom, sorry.
-/
import Derived.Test.YtingpmgpjmlioaaGreatDoorRows
import GoSem.ClaimSeven
namespace Go.Proofs.YtingpmgpjmlioaaGreatDoor
namespace Rows

/-- THE TIED CARD OF 'cartularylaw13.RulesChecks'. -/
def rulesChecksCard : Claim7 := { stood := { row := rulesChecksRow, standIns := [], harness := (true, "bfc0306cac5a1977d53860b1ba07fbbd930ef53a8564326609d5dec2543abbc7"), looks := true }, kinds := [], alts := [], laidByText := true, laidKinds := [.data, .data, .data], laidTests := true, laidLooks := .later }
def RulesChecksCardSaid : Prop := Claim7.holds Tryz.pinned (.plain (OpenSpec.ofChange rulesChecksSpec)) rulesChecksCard

/-- THE TIED CARD OF 'cartularylaw13.RulesSound'. -/
def rulesSoundCard : Claim7 := { stood := { row := rulesSoundRow, standIns := [], harness := (true, "bfc0306cac5a1977d53860b1ba07fbbd930ef53a8564326609d5dec2543abbc7"), looks := true }, kinds := [], alts := [], laidByText := true, laidKinds := [.data, .data, .data], laidTests := true, laidLooks := .later }
def RulesSoundCardSaid : Prop := Claim7.holds Tryz.pinned (.plain (OpenSpec.ofChange rulesSoundSpec)) rulesSoundCard

/-- THE TIED CARD OF 'cartularylaw13.RulesTurns'. -/
def rulesTurnsCard : Claim7 := { stood := { row := rulesTurnsRow, standIns := [], harness := (true, "bfc0306cac5a1977d53860b1ba07fbbd930ef53a8564326609d5dec2543abbc7"), looks := true }, kinds := [], alts := [], laidByText := true, laidKinds := [.data, .data, .data], laidTests := true, laidLooks := .later }
def RulesTurnsCardSaid : Prop := Claim7.holds Tryz.pinned (.plain (OpenSpec.ofChange rulesTurnsSpec)) rulesTurnsCard

/-- THE SECOND FORM's CARD OF 'cartularylaw13.RulesChecks'. -/
def rulesChecksUptoCard : Claim7 := { stood := { row := rulesChecksUptoRow, standIns := [], harness := (true, "bfc0306cac5a1977d53860b1ba07fbbd930ef53a8564326609d5dec2543abbc7"), looks := true }, kinds := [], alts := [], laidByText := true, laidKinds := [.data, .data, .data], laidTests := true, laidLooks := .later }
def RulesChecksUptoCardSaid : Prop := Claim7.holds Tryz.pinned (.plain (OpenSpec.upto rulesChecksSpec)) rulesChecksUptoCard

/-- THE SECOND FORM's CARD OF 'cartularylaw13.RulesSound'. -/
def rulesSoundUptoCard : Claim7 := { stood := { row := rulesSoundUptoRow, standIns := [], harness := (true, "bfc0306cac5a1977d53860b1ba07fbbd930ef53a8564326609d5dec2543abbc7"), looks := true }, kinds := [], alts := [], laidByText := true, laidKinds := [.data, .data, .data], laidTests := true, laidLooks := .later }
def RulesSoundUptoCardSaid : Prop := Claim7.holds Tryz.pinned (.plain (OpenSpec.upto rulesSoundSpec)) rulesSoundUptoCard

/-- THE SECOND FORM's CARD OF 'cartularylaw13.RulesTurns'. -/
def rulesTurnsUptoCard : Claim7 := { stood := { row := rulesTurnsUptoRow, standIns := [], harness := (true, "bfc0306cac5a1977d53860b1ba07fbbd930ef53a8564326609d5dec2543abbc7"), looks := true }, kinds := [], alts := [], laidByText := true, laidKinds := [.data, .data, .data], laidTests := true, laidLooks := .later }
def RulesTurnsUptoCardSaid : Prop := Claim7.holds Tryz.pinned (.plain (OpenSpec.upto rulesTurnsSpec)) rulesTurnsUptoCard
end Rows
end Go.Proofs.YtingpmgpjmlioaaGreatDoor
