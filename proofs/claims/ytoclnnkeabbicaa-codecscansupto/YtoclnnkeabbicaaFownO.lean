/-
  DERIVED. Slices of frames of one's own beside other rows that grow.
-/
import Derived.Test.YtoclnnkeabbicaaOpenF
namespace Go.Proofs.Ytoclnnkeabbicaa
open Go.RowKit

theorem FOwn.other {w w' : World} {lim base : Nat} {v : Value} {fs : List (UInt8 × List UInt8)} {row : Option Nat} (h : FOwn false w lim base v fs) (hg : w.grownBy w' row)
    (hr : ∀ j, row = some j → lim ≤ j ∧ ∃ cur e', w.heap[j]? = some (.cells cur e' (0, 0)) ∧ e' ≠ 37) : FOwn false w' lim base v fs := by
  obtain ⟨cs, h1, h2⟩ := h
  refine ⟨cs, ownsRow_other h1 hg (fun j hj => (hr j hj).2), fun i hi => ?_⟩
  obtain ⟨a, n, c, e1, e2, e3⟩ := h2 i hi
  exact ⟨a, n, c, e1, e2, e3.grown hg (fun j hj => ⟨(hr j hj).1, fun h => by cases h⟩)⟩

theorem Safe.lim {own : Bool} {w : World} {l1 l2 : Nat} {a : Option Addr} {n c : Nat} {d : List UInt8} (h : Safe own w l1 a n c d) (hl : l1 ≤ l2) : Safe own w l2 a n c d := by
  refine ⟨h.1, h.2.imp id ?_⟩
  rintro ⟨b, off, e, h⟩
  exact ⟨b, off, e, h.imp (fun h => by omega) id⟩

end Go.Proofs.Ytoclnnkeabbicaa
