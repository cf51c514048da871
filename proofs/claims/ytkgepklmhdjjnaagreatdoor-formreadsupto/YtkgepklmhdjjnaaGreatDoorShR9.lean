/-
  DERIVED. The document's Set.
-/
import Derived.Test.YtkgepklmhdjjnaaGreatDoorShR8
namespace Go.Proofs.YtkgepklmhdjjnaaGreatDoor
open Go.RowKit

theorem rSet_any (a : Option Addr) (c : Nat) (fs : List Fld) (f : Fld) (w : World) (hv : FdN w a c fs) (hlen : (fs.length + 1) * 48 ≤ 140737488355328) :
    Calls Tryz.prog 23 #[.slice a fs.length c, .agg (fv f)] w fun e w' => ∃ v, e = .returned v ∧ FOwn w' w.heap.size v (setF fs f) ∧ Below w.heap.size w w' := by
  cases hh : hasF fs f.name with
  | false => exact rSet_none a c fs f w hv hlen hh
  | true => exact rSet_has a c fs f w hv hlen hh
end Go.Proofs.YtkgepklmhdjjnaaGreatDoor
