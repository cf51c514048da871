/-
  DERIVED. Words for the laws: how what came in is opened.
-/
import Derived.Test.YtabcmmhmghgliaaRows
import Derived.Test.YtabcmmhmghgliaaCbase
import Derived.OpenShut
import Derived.ShutString
import Derived.SizedLaws
import Derived.Deep.Slices
import Derived.Deep.Lists
namespace Go.Proofs.Ytabcmmhmghgliaa
open Go.ChangeShapes Go.WideShapes Go.ChangeAt Go.RowKit
set_option linter.unusedVariables false

theorem own_knob : ownKnob Try.prog.godebug = none := by kernel_rfl
theorem laid_out : laidOutB Try.prog = true := by kernel_rfl
end Go.Proofs.Ytabcmmhmghgliaa
