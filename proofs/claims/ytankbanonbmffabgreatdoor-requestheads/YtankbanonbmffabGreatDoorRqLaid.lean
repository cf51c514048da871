/-
  DERIVED. A world that meets what the rows list: tables of the library, two errors, Go's own table that is pinned by name.
-/
import Derived.Test.YtankbanonbmffabGreatDoorRows
import Derived.ChangeSame
import Derived.ChangeVars
import Derived.JoinedOf
import Derived.RowKit
import Derived.RowKitTokens
import Derived.LaidLaws
import Derived.LaidHandle
import Derived.Stop.Joined
import Derived.Stop.LaidErr
import Derived.Lib.LaidTab
import Derived.Lib.LaidIn
namespace Go.Proofs.YtankbanonbmffabGreatDoor
open Go.ChangeShapes Go.WideShapes Go.RowKit
set_option linter.unusedVariables false

theorem own_knob : ownKnob Tryz.prog.godebug = none := by kernel_rfl
theorem laid_out : laidOutB Tryz.prog = true := by kernel_rfl

/-- What the rows list. -/
noncomputable def seatLaid : List (String × DataW Unit) := [("math/bits.deBruijn32tab", Rows.laid_math_bits_deBruijn32tab), ("math/bits.deBruijn64tab", Rows.laid_math_bits_deBruijn64tab), ("internal/strconv.uint64pow10", Rows.laid_internal_strconv_uint64pow10), ("unicode/utf8.acceptRanges", Rows.laid_unicode_utf8_acceptRanges), ("strconv.ErrRange", Rows.laid_strconv_ErrRange), ("strconv.ErrSyntax", Rows.laid_strconv_ErrSyntax), ("unicode/utf8.first", Rows.laid_unicode_utf8_first)]

def oneOf : DataW Unit → Value
  | .lit (.int k z) => .int k z
  | _ => .int .u8 0
/-- A datum's cells, of a table of numbers, or of rows of them. -/
def tabOf : DataW Unit → Array Value
  | .agg l => (l.flatMap fun
    | .agg m => m.map oneOf
    | x => [oneOf x]).toArray
  | _ => #[]
def putG (h : Array Obj) (g : Nat) (cs : Array Value) : Array Obj := h.modify g fun
  | .cells _ t frozen => .cells cs t frozen
  | o => o
/-- A world that meets what the rows list. -/
noncomputable def laidWorld (os : Os) : World :=
  let N := (World.settled Tryz.prog os).heap.size
  let w0 := World.holding Tryz.prog os ⟨#[.cells #[.string ⟨#[118, 97, 108, 117, 101, 32, 111, 117, 116, 32, 111, 102, 32, 114, 97, 110, 103, 101]⟩] 104, .cells #[.string ⟨#[105, 110, 118, 97, 108, 105, 100, 32, 115, 121, 110, 116, 97, 120]⟩] 104], #[], []⟩
  let h0 := putG (putG w0.heap 2 #[.iface 102 (.pointer (some ⟨N, 0, none⟩))]) 1 #[.iface 102 (.pointer (some ⟨N + 1, 0, none⟩))]
  let h1 := putG (putG (putG h0 6 (tabOf Rows.laid_math_bits_deBruijn32tab)) 7 (tabOf Rows.laid_math_bits_deBruijn64tab)) 5 (tabOf Rows.laid_internal_strconv_uint64pow10)
  let h2 := putG (putG h1 4 (tabOf Rows.laid_unicode_utf8_acceptRanges)) 3 (tabOf Go.Pinned.utf8First)
  { w0 with heap := h2 }
noncomputable abbrev N0 : Nat := (World.settled Tryz.prog default).heap.size
set_option maxRecDepth 1000000 in
theorem laidWorld_met (os : Os) (args : Array Value) : laidMetH Tryz.prog seatLaid ((laidWorld os).forCall (fun _ _ => 0) ⟨#[], args, []⟩).memory :=
  (_root_.Go.LaidIn.of_run [2, 1, 6, 7, 5, 4, 3, N0, N0 + 1] 8 (by kernel_rfl) (by kernel_rfl) (by kernel_rfl) (by kernel_rfl) : _root_.Go.LaidIn Tryz.prog _ seatLaid _).met
end Go.Proofs.YtankbanonbmffabGreatDoor
