/-
  DERIVED. Words shared by all walks of a seat without slices of bytes.
-/
import Derived.Test.YtabcmmhmghgliaaProg
import Derived.WalkKit
import Derived.ProofKit
import Derived.ArgAppend
import Derived.Laws.AppendOwnNone
import Derived.WalkLawsBesides
import Derived.KernelRfl
namespace Go.Proofs.Ytabcmmhmghgliaa
open Go.RowKit

theorem hide {p : Prop} (h : p) : Hid p := h
theorem unhide {p : Prop} (h : Hid p) : p := h.out
theorem addr_add (b o j : Nat) : (⟨b, o, none⟩ : Addr).add j = ⟨b, o + j, none⟩ := by
  by_cases h : j = 0
  · subst h; simp [Addr.add]
  · simp [Addr.add, h]
end Go.Proofs.Ytabcmmhmghgliaa
