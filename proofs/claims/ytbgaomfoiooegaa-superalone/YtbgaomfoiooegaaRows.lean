/-
  No cell of these rows narrows 'for every input' (looked for: loops, veiled, ifaces, maps, wideKeys, modest, calm, conditions, laid).
  DERIVED. THE GIVEN ROWS OF THIS SEAT. 6 by the template 'for every input the law returns true; each argument reads behind the call as it read before'; 0 by the template 'total and deterministic' (their statements: YtbgaomfoiooegaaTotals.lean).
  GIVEN WITH THE SEED: the statements are not yours to turn. If you find one false, say at which input.
  Laid BY PROGRAM, IN A SANDBOX (cutbox-rows.mjs): the forced cells as the released guide's own fill.sh prints them over the translation 06f9413ce1824f74… (all of the seat's roots in one cut). By AI agents, Wed Nov 11 2026. No macro, syntax, notation, axiom, sorry.
-/
import Derived.Test.YtbgaomfoiooegaaChecked
import GoSem.Claim
import GoSem.ClaimJoined
import GoSem.ClaimMapViews
import Derived.JoinedTies
import Derived.KernelRfl
namespace Go.Proofs.Ytbgaomfoiooegaa
/- THE CELL 'sum', in the pinned program and in every row, IS THE sha256 OF THE DUMP (.gsa) THAT YtbgaomfoiooegaaProg.lean LOADS. Nothing in Lean hashes anything: it is a label: what it is worth is what the hold of that sum in a sandbox is worth. -/
noncomputable def Try.pinned : Pinned := { name := "ytbgaomfoiooegaa", sum := "06f9413ce1824f74123397683646318439c09be75462f3c5f4f156773c63a2bb", checked := Try.checked }
namespace Rows
def none {H : Type} : Left H := { results := [], args := [] }

/-- 'cartularylaw03.SuperPlays': WHATEVER THE INPUT: true; the input reads as it did. -/
def superPlaysSpec : ChangeSpec := { name := "superPlays", fn := fun _ => fun
  | [d1, d2, d3] => { results := [.lit (.bool true)], args := [d1, d2, d3] }
  | _ => none }
def superPlaysRow : OpenClaim := { program := "ytbgaomfoiooegaa", sum := "06f9413ce1824f74123397683646318439c09be75462f3c5f4f156773c63a2bb", func := "cartulary/cartularylaw03.SuperPlays", spec := "superPlays", unfollowed := true, recurses := true, apart := false }
def SuperPlaysSaid : Prop := superPlaysRow.holds Try.pinned (OpenSpec.ofChange superPlaysSpec)

/-- ITS FALSE NEIGHBOUR: 'it returns false'. Refute it at one input. -/
def superPlaysWrong : ChangeSpec := { name := "superPlays", fn := fun _ => fun
  | [d1, d2, d3] => { results := [.lit (.bool false)], args := [d1, d2, d3] }
  | _ => none }
def SuperPlaysWrongFalsely : Prop := superPlaysRow.holds Try.pinned (OpenSpec.ofChange superPlaysWrong)

/-- 'cartularylaw03.SuperHolds': WHATEVER THE INPUT: true; the input reads as it did. -/
def superHoldsSpec : ChangeSpec := { name := "superHolds", fn := fun _ => fun
  | [d1, d2, d3, d4, d5] => { results := [.lit (.bool true)], args := [d1, d2, d3, d4, d5] }
  | _ => none }
def superHoldsRow : OpenClaim := { program := "ytbgaomfoiooegaa", sum := "06f9413ce1824f74123397683646318439c09be75462f3c5f4f156773c63a2bb", func := "cartulary/cartularylaw03.SuperHolds", spec := "superHolds", unfollowed := true, recurses := true, apart := false }
def SuperHoldsSaid : Prop := superHoldsRow.holds Try.pinned (OpenSpec.ofChange superHoldsSpec)

/-- ITS FALSE NEIGHBOUR: 'it returns false'. Refute it at one input. -/
def superHoldsWrong : ChangeSpec := { name := "superHolds", fn := fun _ => fun
  | [d1, d2, d3, d4, d5] => { results := [.lit (.bool false)], args := [d1, d2, d3, d4, d5] }
  | _ => none }
def SuperHoldsWrongFalsely : Prop := superHoldsRow.holds Try.pinned (OpenSpec.ofChange superHoldsWrong)

/-- 'cartularylaw03.SuperAlone': WHATEVER THE INPUT: true; the input reads as it did. -/
def superAloneSpec : ChangeSpec := { name := "superAlone", fn := fun _ => fun
  | [d1, d2, d3] => { results := [.lit (.bool true)], args := [d1, d2, d3] }
  | _ => none }
def superAloneRow : OpenClaim := { program := "ytbgaomfoiooegaa", sum := "06f9413ce1824f74123397683646318439c09be75462f3c5f4f156773c63a2bb", func := "cartulary/cartularylaw03.SuperAlone", spec := "superAlone", unfollowed := true, recurses := true, apart := false }
def SuperAloneSaid : Prop := superAloneRow.holds Try.pinned (OpenSpec.ofChange superAloneSpec)

/-- ITS FALSE NEIGHBOUR: 'it returns false'. Refute it at one input. -/
def superAloneWrong : ChangeSpec := { name := "superAlone", fn := fun _ => fun
  | [d1, d2, d3] => { results := [.lit (.bool false)], args := [d1, d2, d3] }
  | _ => none }
def SuperAloneWrongFalsely : Prop := superAloneRow.holds Try.pinned (OpenSpec.ofChange superAloneWrong)

/-- 'cartularylaw03.SuperNone': WHATEVER THE INPUT: true; the input reads as it did. -/
def superNoneSpec : ChangeSpec := { name := "superNone", fn := fun _ => fun
  | [d1, d2] => { results := [.lit (.bool true)], args := [d1, d2] }
  | _ => none }
def superNoneRow : OpenClaim := { program := "ytbgaomfoiooegaa", sum := "06f9413ce1824f74123397683646318439c09be75462f3c5f4f156773c63a2bb", func := "cartulary/cartularylaw03.SuperNone", spec := "superNone", unfollowed := true, recurses := true, apart := false }
def SuperNoneSaid : Prop := superNoneRow.holds Try.pinned (OpenSpec.ofChange superNoneSpec)

/-- ITS FALSE NEIGHBOUR: 'it returns false'. Refute it at one input. -/
def superNoneWrong : ChangeSpec := { name := "superNone", fn := fun _ => fun
  | [d1, d2] => { results := [.lit (.bool false)], args := [d1, d2] }
  | _ => none }
def SuperNoneWrongFalsely : Prop := superNoneRow.holds Try.pinned (OpenSpec.ofChange superNoneWrong)

/-- 'cartularylaw03.SuperCounts': WHATEVER THE INPUT: true; the input reads as it did. -/
def superCountsSpec : ChangeSpec := { name := "superCounts", fn := fun _ => fun
  | [d1, d2] => { results := [.lit (.bool true)], args := [d1, d2] }
  | _ => none }
def superCountsRow : OpenClaim := { program := "ytbgaomfoiooegaa", sum := "06f9413ce1824f74123397683646318439c09be75462f3c5f4f156773c63a2bb", func := "cartulary/cartularylaw03.SuperCounts", spec := "superCounts", unfollowed := true, recurses := true, apart := false }
def SuperCountsSaid : Prop := superCountsRow.holds Try.pinned (OpenSpec.ofChange superCountsSpec)

/-- ITS FALSE NEIGHBOUR: 'it returns false'. Refute it at one input. -/
def superCountsWrong : ChangeSpec := { name := "superCounts", fn := fun _ => fun
  | [d1, d2] => { results := [.lit (.bool false)], args := [d1, d2] }
  | _ => none }
def SuperCountsWrongFalsely : Prop := superCountsRow.holds Try.pinned (OpenSpec.ofChange superCountsWrong)

/-- 'cartularylaw03.SuperTwo': WHATEVER THE INPUT: true; the input reads as it did. -/
def superTwoSpec : ChangeSpec := { name := "superTwo", fn := fun _ => fun
  | [d1, d2] => { results := [.lit (.bool true)], args := [d1, d2] }
  | _ => none }
def superTwoRow : OpenClaim := { program := "ytbgaomfoiooegaa", sum := "06f9413ce1824f74123397683646318439c09be75462f3c5f4f156773c63a2bb", func := "cartulary/cartularylaw03.SuperTwo", spec := "superTwo", unfollowed := true, recurses := true, apart := false }
def SuperTwoSaid : Prop := superTwoRow.holds Try.pinned (OpenSpec.ofChange superTwoSpec)

/-- ITS FALSE NEIGHBOUR: 'it returns false'. Refute it at one input. -/
def superTwoWrong : ChangeSpec := { name := "superTwo", fn := fun _ => fun
  | [d1, d2] => { results := [.lit (.bool false)], args := [d1, d2] }
  | _ => none }
def SuperTwoWrongFalsely : Prop := superTwoRow.holds Try.pinned (OpenSpec.ofChange superTwoWrong)

/- THE SECOND FORM. 'bulk': how many values and letters a reading holds, each counted each time it is reached (what is shared counts as often as it is met; a slice's spare places count too). A statement '..UptoSaid' is the law's where the arguments, and the package variables that the reading takes, are together of bulk at most 1048576: NARROWER than '..Said'. Prove '..Said' where nothing that the law and all that it calls make is longer than what came in: it says more and counts as full. Else prove '..UptoSaid'. A law counts once. -/
mutual
def uptoBulk {H : Type} : DataW H → Nat
  | .lit (.string bytes) => bytes.length + 1
  | .lit _ => 1
  | .nil => 1
  | .ptr d => uptoBulk d + 1
  | .slice elems spare => uptoBulkAll elems + uptoBulkAll spare + 1
  | .agg parts => uptoBulkAll parts + 1
  | .iface _ d => uptoBulk d + 1
  | .map entries => uptoBulkEntries entries + 1
  | .held _ => 1
def uptoBulkAll {H : Type} : List (DataW H) → Nat
  | [] => 0
  | d :: r => uptoBulk d + uptoBulkAll r
def uptoBulkEntries {H : Type} : List (Lit × DataW H) → Nat
  | [] => 0
  | x :: r => uptoBulkEntry x + uptoBulkEntries r
def uptoBulkEntry {H : Type} : Lit × DataW H → Nat
  | (.string bytes, d) => bytes.length + uptoBulk d + 1
  | (_, d) => uptoBulk d + 1
 end
def uptoSmall : (H : Type) → List (DataW H) → Bool := fun _ ds => decide (uptoBulkAll ds ≤ 1048576)
def OpenSpec.upto (s : _root_.Go.ChangeSpec) : _root_.Go.OpenSpec := { _root_.Go.OpenSpec.ofChange s with cond := some uptoSmall }

/-- 'cartularylaw03.SuperPlays', WHERE WHAT IT READS IS OF BULK AT MOST 1048576: true; the input reads as it did. -/
def superPlaysUptoRow : OpenClaim := { program := "ytbgaomfoiooegaa", sum := "06f9413ce1824f74123397683646318439c09be75462f3c5f4f156773c63a2bb", func := "cartulary/cartularylaw03.SuperPlays", spec := "superPlays", unfollowed := true, recurses := true, apart := false, narrowed := true }
def SuperPlaysUptoSaid : Prop := superPlaysUptoRow.holds Try.pinned (OpenSpec.upto superPlaysSpec)

/-- 'cartularylaw03.SuperHolds', WHERE WHAT IT READS IS OF BULK AT MOST 1048576: true; the input reads as it did. -/
def superHoldsUptoRow : OpenClaim := { program := "ytbgaomfoiooegaa", sum := "06f9413ce1824f74123397683646318439c09be75462f3c5f4f156773c63a2bb", func := "cartulary/cartularylaw03.SuperHolds", spec := "superHolds", unfollowed := true, recurses := true, apart := false, narrowed := true }
def SuperHoldsUptoSaid : Prop := superHoldsUptoRow.holds Try.pinned (OpenSpec.upto superHoldsSpec)

/-- 'cartularylaw03.SuperAlone', WHERE WHAT IT READS IS OF BULK AT MOST 1048576: true; the input reads as it did. -/
def superAloneUptoRow : OpenClaim := { program := "ytbgaomfoiooegaa", sum := "06f9413ce1824f74123397683646318439c09be75462f3c5f4f156773c63a2bb", func := "cartulary/cartularylaw03.SuperAlone", spec := "superAlone", unfollowed := true, recurses := true, apart := false, narrowed := true }
def SuperAloneUptoSaid : Prop := superAloneUptoRow.holds Try.pinned (OpenSpec.upto superAloneSpec)

/-- 'cartularylaw03.SuperNone', WHERE WHAT IT READS IS OF BULK AT MOST 1048576: true; the input reads as it did. -/
def superNoneUptoRow : OpenClaim := { program := "ytbgaomfoiooegaa", sum := "06f9413ce1824f74123397683646318439c09be75462f3c5f4f156773c63a2bb", func := "cartulary/cartularylaw03.SuperNone", spec := "superNone", unfollowed := true, recurses := true, apart := false, narrowed := true }
def SuperNoneUptoSaid : Prop := superNoneUptoRow.holds Try.pinned (OpenSpec.upto superNoneSpec)

/-- 'cartularylaw03.SuperCounts', WHERE WHAT IT READS IS OF BULK AT MOST 1048576: true; the input reads as it did. -/
def superCountsUptoRow : OpenClaim := { program := "ytbgaomfoiooegaa", sum := "06f9413ce1824f74123397683646318439c09be75462f3c5f4f156773c63a2bb", func := "cartulary/cartularylaw03.SuperCounts", spec := "superCounts", unfollowed := true, recurses := true, apart := false, narrowed := true }
def SuperCountsUptoSaid : Prop := superCountsUptoRow.holds Try.pinned (OpenSpec.upto superCountsSpec)

/-- 'cartularylaw03.SuperTwo', WHERE WHAT IT READS IS OF BULK AT MOST 1048576: true; the input reads as it did. -/
def superTwoUptoRow : OpenClaim := { program := "ytbgaomfoiooegaa", sum := "06f9413ce1824f74123397683646318439c09be75462f3c5f4f156773c63a2bb", func := "cartulary/cartularylaw03.SuperTwo", spec := "superTwo", unfollowed := true, recurses := true, apart := false, narrowed := true }
def SuperTwoUptoSaid : Prop := superTwoUptoRow.holds Try.pinned (OpenSpec.upto superTwoSpec)

end Rows
end Go.Proofs.Ytbgaomfoiooegaa
