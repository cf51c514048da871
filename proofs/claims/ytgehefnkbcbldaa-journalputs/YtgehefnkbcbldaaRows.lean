/-
  No cell of these rows narrows 'for every input' (looked for: loops, veiled, ifaces, maps, wideKeys, modest, calm, conditions, laid).
  DERIVED. THE GIVEN ROWS OF THIS SEAT. 5 by the template 'for every input the law returns true; each argument reads behind the call as it read before'; 0 by the template 'total and deterministic' (their statements: YtgehefnkbcbldaaTotals.lean).
  GIVEN WITH THE SEED: the statements are not yours to turn. If you find one false, say at which input.
  Laid BY PROGRAM, IN A SANDBOX (cutbox-rows.mjs): the forced cells as the released guide's own fill.sh prints them over the translation 7c62af365e29e670… (all of the seat's roots in one cut). By AI agents, Wed Nov 11 2026. No macro, syntax, notation, axiom, sorry.
-/
import Derived.Test.YtgehefnkbcbldaaChecked
import GoSem.Claim
import GoSem.ClaimJoined
import GoSem.ClaimMapViews
import Derived.JoinedTies
import Derived.KernelRfl
namespace Go.Proofs.Ytgehefnkbcbldaa
/- THE CELL 'sum', in the pinned program and in every row, IS THE sha256 OF THE DUMP (.gsa) THAT YtgehefnkbcbldaaProg.lean LOADS. Nothing in Lean hashes anything: it is a label: what it is worth is what the hold of that sum in a sandbox is worth. -/
noncomputable def Try.pinned : Pinned := { name := "ytgehefnkbcbldaa", sum := "7c62af365e29e6705d04f65eddc10579e7166aaa86a9577d72b1aecc32db70b5", checked := Try.checked }
namespace Rows
def none {H : Type} : Left H := { results := [], args := [] }

/-- 'cartularylaw04.JournalAtoms': WHATEVER THE INPUT: true; the input reads as it did. -/
def journalAtomsSpec : ChangeSpec := { name := "journalAtoms", fn := fun _ => fun
  | [d1, d2, d3, d4] => { results := [.lit (.bool true)], args := [d1, d2, d3, d4] }
  | _ => none }
def journalAtomsRow : OpenClaim := { program := "ytgehefnkbcbldaa", sum := "7c62af365e29e6705d04f65eddc10579e7166aaa86a9577d72b1aecc32db70b5", func := "cartulary/cartularylaw04.JournalAtoms", spec := "journalAtoms", unfollowed := true, recurses := true, apart := false }
def JournalAtomsSaid : Prop := journalAtomsRow.holds Try.pinned (OpenSpec.ofChange journalAtomsSpec)

/-- ITS FALSE NEIGHBOUR: 'it returns false'. Refute it at one input. -/
def journalAtomsWrong : ChangeSpec := { name := "journalAtoms", fn := fun _ => fun
  | [d1, d2, d3, d4] => { results := [.lit (.bool false)], args := [d1, d2, d3, d4] }
  | _ => none }
def JournalAtomsWrongFalsely : Prop := journalAtomsRow.holds Try.pinned (OpenSpec.ofChange journalAtomsWrong)

/-- 'cartularylaw04.JournalGhosts': WHATEVER THE INPUT: true; the input reads as it did. -/
def journalGhostsSpec : ChangeSpec := { name := "journalGhosts", fn := fun _ => fun
  | [d1, d2, d3, d4, d5, d6] => { results := [.lit (.bool true)], args := [d1, d2, d3, d4, d5, d6] }
  | _ => none }
def journalGhostsRow : OpenClaim := { program := "ytgehefnkbcbldaa", sum := "7c62af365e29e6705d04f65eddc10579e7166aaa86a9577d72b1aecc32db70b5", func := "cartulary/cartularylaw04.JournalGhosts", spec := "journalGhosts", unfollowed := true, recurses := true, apart := false }
def JournalGhostsSaid : Prop := journalGhostsRow.holds Try.pinned (OpenSpec.ofChange journalGhostsSpec)

/-- ITS FALSE NEIGHBOUR: 'it returns false'. Refute it at one input. -/
def journalGhostsWrong : ChangeSpec := { name := "journalGhosts", fn := fun _ => fun
  | [d1, d2, d3, d4, d5, d6] => { results := [.lit (.bool false)], args := [d1, d2, d3, d4, d5, d6] }
  | _ => none }
def JournalGhostsWrongFalsely : Prop := journalGhostsRow.holds Try.pinned (OpenSpec.ofChange journalGhostsWrong)

/-- 'cartularylaw04.JournalRoom': WHATEVER THE INPUT: true; the input reads as it did. -/
def journalRoomSpec : ChangeSpec := { name := "journalRoom", fn := fun _ => fun
  | [d1, d2] => { results := [.lit (.bool true)], args := [d1, d2] }
  | _ => none }
def journalRoomRow : OpenClaim := { program := "ytgehefnkbcbldaa", sum := "7c62af365e29e6705d04f65eddc10579e7166aaa86a9577d72b1aecc32db70b5", func := "cartulary/cartularylaw04.JournalRoom", spec := "journalRoom", unfollowed := true, recurses := true, apart := false }
def JournalRoomSaid : Prop := journalRoomRow.holds Try.pinned (OpenSpec.ofChange journalRoomSpec)

/-- ITS FALSE NEIGHBOUR: 'it returns false'. Refute it at one input. -/
def journalRoomWrong : ChangeSpec := { name := "journalRoom", fn := fun _ => fun
  | [d1, d2] => { results := [.lit (.bool false)], args := [d1, d2] }
  | _ => none }
def JournalRoomWrongFalsely : Prop := journalRoomRow.holds Try.pinned (OpenSpec.ofChange journalRoomWrong)

/-- 'cartularylaw04.JournalNone': WHATEVER THE INPUT: true; the input reads as it did. -/
def journalNoneSpec : ChangeSpec := { name := "journalNone", fn := fun _ => fun
  | [d1, d2] => { results := [.lit (.bool true)], args := [d1, d2] }
  | _ => none }
def journalNoneRow : OpenClaim := { program := "ytgehefnkbcbldaa", sum := "7c62af365e29e6705d04f65eddc10579e7166aaa86a9577d72b1aecc32db70b5", func := "cartulary/cartularylaw04.JournalNone", spec := "journalNone", unfollowed := true, recurses := true, apart := false }
def JournalNoneSaid : Prop := journalNoneRow.holds Try.pinned (OpenSpec.ofChange journalNoneSpec)

/-- ITS FALSE NEIGHBOUR: 'it returns false'. Refute it at one input. -/
def journalNoneWrong : ChangeSpec := { name := "journalNone", fn := fun _ => fun
  | [d1, d2] => { results := [.lit (.bool false)], args := [d1, d2] }
  | _ => none }
def JournalNoneWrongFalsely : Prop := journalNoneRow.holds Try.pinned (OpenSpec.ofChange journalNoneWrong)

/-- 'cartularylaw04.JournalPuts': WHATEVER THE INPUT: true; the input reads as it did. -/
def journalPutsSpec : ChangeSpec := { name := "journalPuts", fn := fun _ => fun
  | [d1, d2, d3] => { results := [.lit (.bool true)], args := [d1, d2, d3] }
  | _ => none }
def journalPutsRow : OpenClaim := { program := "ytgehefnkbcbldaa", sum := "7c62af365e29e6705d04f65eddc10579e7166aaa86a9577d72b1aecc32db70b5", func := "cartulary/cartularylaw04.JournalPuts", spec := "journalPuts", unfollowed := true, recurses := true, apart := false }
def JournalPutsSaid : Prop := journalPutsRow.holds Try.pinned (OpenSpec.ofChange journalPutsSpec)

/-- ITS FALSE NEIGHBOUR: 'it returns false'. Refute it at one input. -/
def journalPutsWrong : ChangeSpec := { name := "journalPuts", fn := fun _ => fun
  | [d1, d2, d3] => { results := [.lit (.bool false)], args := [d1, d2, d3] }
  | _ => none }
def JournalPutsWrongFalsely : Prop := journalPutsRow.holds Try.pinned (OpenSpec.ofChange journalPutsWrong)

/- THE SECOND FORM. 'bulk': how many values and letters a reading holds, each counted each time it is reached (what is shared counts as often as it is met; a slice's spare places count too). A statement '..UptoSaid' is the law's where the arguments, and the package variables that the reading takes, are together of bulk at most 1048576: NARROWER than '..Said'. Prove '..Said' where nothing that the law and all that it calls make is longer than what came in: it says more and counts as full. Else prove '..UptoSaid'. A law counts once. -/
mutual
def uptoBulk {H : Type} : DataW H → Nat
  | .lit (.string bytes) => bytes.length + 1
  | .lit _ => 1
  | .nil => 1
  | .ptr d => uptoBulk d + 1
  | .slice elems spare => uptoBulkAll elems + uptoBulkAll spare + 1
  | .agg parts => uptoBulkAll parts + 1
  | .iface _ d => uptoBulk d + 1
  | .map entries => uptoBulkEntries entries + 1
  | .held _ => 1
def uptoBulkAll {H : Type} : List (DataW H) → Nat
  | [] => 0
  | d :: r => uptoBulk d + uptoBulkAll r
def uptoBulkEntries {H : Type} : List (Lit × DataW H) → Nat
  | [] => 0
  | x :: r => uptoBulkEntry x + uptoBulkEntries r
def uptoBulkEntry {H : Type} : Lit × DataW H → Nat
  | (.string bytes, d) => bytes.length + uptoBulk d + 1
  | (_, d) => uptoBulk d + 1
 end
def uptoSmall : (H : Type) → List (DataW H) → Bool := fun _ ds => decide (uptoBulkAll ds ≤ 1048576)
def OpenSpec.upto (s : _root_.Go.ChangeSpec) : _root_.Go.OpenSpec := { _root_.Go.OpenSpec.ofChange s with cond := some uptoSmall }

/-- 'cartularylaw04.JournalAtoms', WHERE WHAT IT READS IS OF BULK AT MOST 1048576: true; the input reads as it did. -/
def journalAtomsUptoRow : OpenClaim := { program := "ytgehefnkbcbldaa", sum := "7c62af365e29e6705d04f65eddc10579e7166aaa86a9577d72b1aecc32db70b5", func := "cartulary/cartularylaw04.JournalAtoms", spec := "journalAtoms", unfollowed := true, recurses := true, apart := false, narrowed := true }
def JournalAtomsUptoSaid : Prop := journalAtomsUptoRow.holds Try.pinned (OpenSpec.upto journalAtomsSpec)

/-- 'cartularylaw04.JournalGhosts', WHERE WHAT IT READS IS OF BULK AT MOST 1048576: true; the input reads as it did. -/
def journalGhostsUptoRow : OpenClaim := { program := "ytgehefnkbcbldaa", sum := "7c62af365e29e6705d04f65eddc10579e7166aaa86a9577d72b1aecc32db70b5", func := "cartulary/cartularylaw04.JournalGhosts", spec := "journalGhosts", unfollowed := true, recurses := true, apart := false, narrowed := true }
def JournalGhostsUptoSaid : Prop := journalGhostsUptoRow.holds Try.pinned (OpenSpec.upto journalGhostsSpec)

/-- 'cartularylaw04.JournalRoom', WHERE WHAT IT READS IS OF BULK AT MOST 1048576: true; the input reads as it did. -/
def journalRoomUptoRow : OpenClaim := { program := "ytgehefnkbcbldaa", sum := "7c62af365e29e6705d04f65eddc10579e7166aaa86a9577d72b1aecc32db70b5", func := "cartulary/cartularylaw04.JournalRoom", spec := "journalRoom", unfollowed := true, recurses := true, apart := false, narrowed := true }
def JournalRoomUptoSaid : Prop := journalRoomUptoRow.holds Try.pinned (OpenSpec.upto journalRoomSpec)

/-- 'cartularylaw04.JournalNone', WHERE WHAT IT READS IS OF BULK AT MOST 1048576: true; the input reads as it did. -/
def journalNoneUptoRow : OpenClaim := { program := "ytgehefnkbcbldaa", sum := "7c62af365e29e6705d04f65eddc10579e7166aaa86a9577d72b1aecc32db70b5", func := "cartulary/cartularylaw04.JournalNone", spec := "journalNone", unfollowed := true, recurses := true, apart := false, narrowed := true }
def JournalNoneUptoSaid : Prop := journalNoneUptoRow.holds Try.pinned (OpenSpec.upto journalNoneSpec)

/-- 'cartularylaw04.JournalPuts', WHERE WHAT IT READS IS OF BULK AT MOST 1048576: true; the input reads as it did. -/
def journalPutsUptoRow : OpenClaim := { program := "ytgehefnkbcbldaa", sum := "7c62af365e29e6705d04f65eddc10579e7166aaa86a9577d72b1aecc32db70b5", func := "cartulary/cartularylaw04.JournalPuts", spec := "journalPuts", unfollowed := true, recurses := true, apart := false, narrowed := true }
def JournalPutsUptoSaid : Prop := journalPutsUptoRow.holds Try.pinned (OpenSpec.upto journalPutsSpec)

end Rows
end Go.Proofs.Ytgehefnkbcbldaa
