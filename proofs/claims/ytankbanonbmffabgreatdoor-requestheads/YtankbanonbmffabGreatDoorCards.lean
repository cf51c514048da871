/-
  DERIVED. GIVEN WITH THE SEED: THE CARDS: each row of YtankbanonbmffabGreatDoorRows.lean that lists a variable, with what it lists TIED to the program's text (the seventh form; the later family's looks); each row that meets fmt, with fmt's text TOLD by the authors' own Lean function (tested against real Go, not proved from fmt's source: count such statements apart). THE CARD IS WHAT COUNTS. Prove the row's statement (the work); the ties are given (YtankbanonbmffabGreatDoorTie.lean); close each card by the builder's one call (the guide's Derived/Test/ToyasCard.lean, 'card_holds'). Laid BY PROGRAM, IN A SANDBOX (cutbox-door.mjs). By AI agents, Wed Nov 11 2026. No macro, syntax, notation, axiom, sorry.
-/
import Derived.Test.YtankbanonbmffabGreatDoorRows
import GoSem.ClaimSeven
namespace Go.Proofs.YtankbanonbmffabGreatDoor
namespace Rows

/-- THE TIED CARD OF 'cartularylaw18.RequestHeads'. -/
def requestHeadsCard : Claim7 := { stood := { row := requestHeadsRow, standIns := [], harness := (true, "4234a9dcd20395cfb3ecb0239bbcb7280ab8a0fdfbbca9b856c408b15c726a8d"), looks := true }, kinds := [], alts := [], laidByText := true, laidKinds := [.data, .data, .data, .data, .sentinel, .sentinel, .pinned], laidTests := true, laidLooks := .later }
def RequestHeadsCardSaid : Prop := Claim7.holds Tryz.pinned (.plain (OpenSpec.ofChange requestHeadsSpec)) requestHeadsCard

/-- THE SECOND FORM's CARD OF 'cartularylaw18.RequestHeads'. -/
def requestHeadsUptoCard : Claim7 := { stood := { row := requestHeadsUptoRow, standIns := [], harness := (true, "4234a9dcd20395cfb3ecb0239bbcb7280ab8a0fdfbbca9b856c408b15c726a8d"), looks := true }, kinds := [], alts := [], laidByText := true, laidKinds := [.data, .data, .data, .data, .sentinel, .sentinel, .pinned], laidTests := true, laidLooks := .later }
def RequestHeadsUptoCardSaid : Prop := Claim7.holds Tryz.pinned (.plain (OpenSpec.upto requestHeadsSpec)) requestHeadsUptoCard
end Rows
end Go.Proofs.YtankbanonbmffabGreatDoor
