/-
  DERIVED. GIVEN WITH THE SEED: THE CARDS: each row of YtihkbbhckdpaiabDoorRows.lean that lists a variable, with what it lists TIED to the program's text (the seventh form; the later family's looks); each row that meets fmt, with fmt's text TOLD by the authors' own Lean function (tested against real Go, not proved from fmt's source: count such statements apart). THE CARD IS WHAT COUNTS. Prove the row's statement (the work); the ties are given (YtihkbbhckdpaiabDoorTie.lean); close each card by the builder's one call (the guide's Derived/Test/ToyasCard.lean, 'card_holds'). Laid BY PROGRAM, IN A SANDBOX (cutbox-door.mjs). By AI agents, Wed Nov 11 2026. No macro, syntax, notation, axiom, sorry.
-/
import Derived.Test.YtihkbbhckdpaiabDoorRows
import GoSem.ClaimSeven
namespace Go.Proofs.YtihkbbhckdpaiabDoor
namespace Rows

/-- THE TIED CARD OF 'cartularylaw12.FormEscapes'. -/
def formEscapesCard : Claim7 := { stood := { row := formEscapesRow, standIns := [], harness := (true, "64ab3de66f948e2f5d4f6232c7d2122c0010a40935ed169ddf8fe90f3c0635b2"), looks := true }, kinds := [], alts := [], laidByText := true, laidKinds := [.data, .data, .data, .sentinel, .sentinel], laidTests := true, laidLooks := .later }
def FormEscapesCardSaid : Prop := Claim7.holds Tryd.pinned (.plain (OpenSpec.ofChange formEscapesSpec)) formEscapesCard

/-- THE SECOND FORM's CARD OF 'cartularylaw12.FormEscapes'. -/
def formEscapesUptoCard : Claim7 := { stood := { row := formEscapesUptoRow, standIns := [], harness := (true, "64ab3de66f948e2f5d4f6232c7d2122c0010a40935ed169ddf8fe90f3c0635b2"), looks := true }, kinds := [], alts := [], laidByText := true, laidKinds := [.data, .data, .data, .sentinel, .sentinel], laidTests := true, laidLooks := .later }
def FormEscapesUptoCardSaid : Prop := Claim7.holds Tryd.pinned (.plain (OpenSpec.upto formEscapesSpec)) formEscapesUptoCard
end Rows
end Go.Proofs.YtihkbbhckdpaiabDoor
