/-
  DERIVED. GIVEN WITH THE SEED: THE CARDS: each row of YtihkbbhckdpaiaaDoorRows.lean that lists a variable, with what it lists TIED to the program's text (the seventh form; the later family's looks); each row that meets fmt, with fmt's text TOLD by the authors' own Lean function (tested against real Go, not proved from fmt's source: count such statements apart). THE CARD IS WHAT COUNTS. Prove the row's statement (the work); the ties are given (YtihkbbhckdpaiaaDoorTie.lean); close each card by the builder's one call (the guide's Derived/Test/ToyasCard.lean, 'card_holds'). Laid BY PROGRAM, IN A SANDBOX (cutbox-door.mjs). By AI agents, Wed Nov 11 2026. No macro, syntax, notation, axiom, sorry.
-/
import Derived.Test.YtihkbbhckdpaiaaDoorRows
import GoSem.ClaimSeven
namespace Go.Proofs.YtihkbbhckdpaiaaDoor
namespace Rows

/-- THE TIED CARD OF 'cartularylaw12.FormNames'. -/
def formNamesCard : Claim7 := { stood := { row := formNamesRow, standIns := [], harness := (true, "6bfebf6deb256e1c9969fe7f262ad9697bf6819b0392efbca6153290a70ed5f7"), looks := true }, kinds := [], alts := [], laidByText := true, laidKinds := [.data, .data, .data, .sentinel, .sentinel], laidTests := true, laidLooks := .later }
def FormNamesCardSaid : Prop := Claim7.holds Tryd.pinned (.plain (OpenSpec.ofChange formNamesSpec)) formNamesCard

/-- THE TIED CARD OF 'cartularylaw12.FormBack'. -/
def formBackCard : Claim7 := { stood := { row := formBackRow, standIns := [], harness := (true, "6bfebf6deb256e1c9969fe7f262ad9697bf6819b0392efbca6153290a70ed5f7"), looks := true }, kinds := [], alts := [], laidByText := true, laidKinds := [.data, .data, .data, .sentinel, .sentinel], laidTests := true, laidLooks := .later }
def FormBackCardSaid : Prop := Claim7.holds Tryd.pinned (.plain (OpenSpec.ofChange formBackSpec)) formBackCard

/-- THE SECOND FORM's CARD OF 'cartularylaw12.FormNames'. -/
def formNamesUptoCard : Claim7 := { stood := { row := formNamesUptoRow, standIns := [], harness := (true, "6bfebf6deb256e1c9969fe7f262ad9697bf6819b0392efbca6153290a70ed5f7"), looks := true }, kinds := [], alts := [], laidByText := true, laidKinds := [.data, .data, .data, .sentinel, .sentinel], laidTests := true, laidLooks := .later }
def FormNamesUptoCardSaid : Prop := Claim7.holds Tryd.pinned (.plain (OpenSpec.upto formNamesSpec)) formNamesUptoCard

/-- THE SECOND FORM's CARD OF 'cartularylaw12.FormBack'. -/
def formBackUptoCard : Claim7 := { stood := { row := formBackUptoRow, standIns := [], harness := (true, "6bfebf6deb256e1c9969fe7f262ad9697bf6819b0392efbca6153290a70ed5f7"), looks := true }, kinds := [], alts := [], laidByText := true, laidKinds := [.data, .data, .data, .sentinel, .sentinel], laidTests := true, laidLooks := .later }
def FormBackUptoCardSaid : Prop := Claim7.holds Tryd.pinned (.plain (OpenSpec.upto formBackSpec)) formBackUptoCard
end Rows
end Go.Proofs.YtihkbbhckdpaiaaDoor
