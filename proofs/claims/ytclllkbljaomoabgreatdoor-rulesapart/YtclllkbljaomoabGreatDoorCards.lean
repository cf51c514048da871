/-
  DERIVED. GIVEN WITH THE SEED: THE CARDS: each row of YtclllkbljaomoabGreatDoorRows.lean that lists a variable, with what it lists TIED to the program's text (the seventh form; the later family's looks); each row that meets fmt, with fmt's text TOLD by the authors' own Lean function (tested against real Go, not proved from fmt's source: count such statements apart). THE CARD IS WHAT COUNTS. Prove the row's statement (the work); the ties are given (YtclllkbljaomoabGreatDoorTie.lean); close each card by the builder's one call (the guide's Derived/Test/ToyasCard.lean, 'card_holds'). Laid BY PROGRAM, IN A SANDBOX (cutbox-door.mjs). By AI agents, Wed Nov 11 2026. No macro, syntax, notation, axiom, sorry.
-/
import Derived.Test.YtclllkbljaomoabGreatDoorRows
import GoSem.ClaimSeven
namespace Go.Proofs.YtclllkbljaomoabGreatDoor
namespace Rows

/-- THE TIED CARD OF 'cartularylaw13.RulesTurns'. -/
def rulesTurnsCard : Claim7 := { stood := { row := rulesTurnsRow, standIns := [], harness := (true, "9fca7cdd20bd1fd53a5acec622d44d2149e5723db8a42534c87db4746d985dbc"), looks := true }, kinds := [], alts := [], laidByText := true, laidKinds := [.data, .data, .data], laidTests := true, laidLooks := .later }
def RulesTurnsCardSaid : Prop := Claim7.holds Tryz.pinned (.plain (OpenSpec.ofChange rulesTurnsSpec)) rulesTurnsCard

/-- THE TIED CARD OF 'cartularylaw13.RulesApart'. -/
def rulesApartCard : Claim7 := { stood := { row := rulesApartRow, standIns := [], harness := (true, "9fca7cdd20bd1fd53a5acec622d44d2149e5723db8a42534c87db4746d985dbc"), looks := true }, kinds := [], alts := [], laidByText := true, laidKinds := [.data, .data, .data], laidTests := true, laidLooks := .later }
def RulesApartCardSaid : Prop := Claim7.holds Tryz.pinned (.plain (OpenSpec.ofChange rulesApartSpec)) rulesApartCard

/-- THE SECOND FORM's CARD OF 'cartularylaw13.RulesTurns'. -/
def rulesTurnsUptoCard : Claim7 := { stood := { row := rulesTurnsUptoRow, standIns := [], harness := (true, "9fca7cdd20bd1fd53a5acec622d44d2149e5723db8a42534c87db4746d985dbc"), looks := true }, kinds := [], alts := [], laidByText := true, laidKinds := [.data, .data, .data], laidTests := true, laidLooks := .later }
def RulesTurnsUptoCardSaid : Prop := Claim7.holds Tryz.pinned (.plain (OpenSpec.upto rulesTurnsSpec)) rulesTurnsUptoCard

/-- THE SECOND FORM's CARD OF 'cartularylaw13.RulesApart'. -/
def rulesApartUptoCard : Claim7 := { stood := { row := rulesApartUptoRow, standIns := [], harness := (true, "9fca7cdd20bd1fd53a5acec622d44d2149e5723db8a42534c87db4746d985dbc"), looks := true }, kinds := [], alts := [], laidByText := true, laidKinds := [.data, .data, .data], laidTests := true, laidLooks := .later }
def RulesApartUptoCardSaid : Prop := Claim7.holds Tryz.pinned (.plain (OpenSpec.upto rulesApartSpec)) rulesApartUptoCard
end Rows
end Go.Proofs.YtclllkbljaomoabGreatDoor
