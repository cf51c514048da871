/-
  DERIVED. The walk of plain.
-/
import Derived.Test.YtgjejmhdiegndaaGreatDoorShn
import Derived.Test.YtgjejmhdiegndaaGreatDoorShA
import Derived.Lib.Bytealg
namespace Go.Proofs.YtgjejmhdiegndaaGreatDoor
open Go.RowKit
set_option linter.unusedVariables false

set_option maxRecDepth 100000 in
theorem idx_facts : ∀ n, n < 256 → decide (0 ≤ Lib.indexByte [45, 46, 95, 126] (UInt8.ofNat n)) = markB (UInt8.ofNat n) := by decide
theorem idx_mark (c : UInt8) : decide (0 ≤ Lib.indexByte [45, 46, 95, 126] c) = markB c :=
  all_bytes (fun c => decide (0 ≤ Lib.indexByte [45, 46, 95, 126] c) = markB c) idx_facts c

end Go.Proofs.YtgjejmhdiegndaaGreatDoor
