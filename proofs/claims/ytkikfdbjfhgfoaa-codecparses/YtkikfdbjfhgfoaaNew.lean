/-
  DERIVED. Bytes in new memory.
-/
import Derived.Test.YtkikfdbjfhgfoaaFrame
namespace Go.Proofs.Ytkikfdbjfhgfoaa
open Go.RowKit

/-- Bytes that are read, in memory that is new from a block on, unless there are none. -/
def NewSl (w : World) (B : Nat) (v : Value) (m : List UInt8) : Prop := Sl w v m ∧ (m = [] ∨ Own w B v m)

theorem Sl.empty {w : World} {a : Option Addr} {n c : Nat} (h : Sl w (.slice a n c) []) {w' : World} (hs : w.heap.size ≤ w'.heap.size) : Sl w' (.slice a n c) [] := by
  obtain ⟨ao, cap, e, h1, h2, h4⟩ := h
  refine ⟨ao, cap, e, h1, h2, fun hc => ?_⟩
  obtain ⟨b, off, e2, hb, _⟩ := h4 hc
  exact ⟨b, off, e2, by omega, fun i hi => by simp at hi⟩

theorem NewSl.setCell {w : World} {B : Nat} {a : Option Addr} {n c : Nat} {m : List UInt8} (h : NewSl w B (.slice a n c) m) {p : Addr} (hp : p.block < B) (x : Value) : NewSl (w.setCell p x) B (.slice a n c) m := by
  rcases h.2 with rfl | ho
  · exact ⟨h.1.empty (by simp), .inl rfl⟩
  · have := ownsRow_setCell_below ho hp x
    exact ⟨Own.sl this, .inr this⟩
theorem NewSl.below {B B' : Nat} {w w' : World} {v : Value} {m : List UInt8} (h : NewSl w B v m) (hb : Below B' w w') (hB : w.heap.size ≤ B') : NewSl w' B v m :=
  ⟨h.1.below hb hB, h.2.imp id (fun h => Own.below h hb hB)⟩

theorem NewSl.mono {w : World} {B B' : Nat} {v : Value} {m : List UInt8} (h : NewSl w B v m) (hB : B' ≤ B) : NewSl w B' v m := ⟨h.1, h.2.imp id (fun h => Own.mono h hB)⟩

end Go.Proofs.Ytkikfdbjfhgfoaa
