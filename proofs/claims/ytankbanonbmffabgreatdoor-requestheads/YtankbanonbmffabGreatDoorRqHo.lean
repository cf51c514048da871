/-
  DERIVED. How a slice of bools that came in is opened.
-/
import Derived.Test.YtankbanonbmffabGreatDoorRqLaid
import Derived.Test.YtankbanonbmffabGreatDoorRqZ
import Derived.Deep.Grids
namespace Go.Proofs.YtankbanonbmffabGreatDoor
open Go.ChangeShapes Go.WideShapes Go.RowKit Go.Deep
set_option linter.unusedVariables false

/-- A slice of bools. -/
def Bls (w : World) (v : Value) (l : List Bool) : Prop := ∃ ao cap, v = .slice ao l.length cap ∧ l.length ≤ cap ∧ cap ≤ 9223372036854775807 ∧
  (l ≠ [] → ∃ b off, ao = some ⟨b, off, none⟩ ∧ b < w.heap.size ∧ ∀ i, (h : i < l.length) → w.cell? ⟨b, off + i, none⟩ = some (.bool l[i]))
theorem Tryz.cellsBool : Tryz.prog.cellsOf 4 = 1 := by kernel_rfl

theorem open_bls {H : Type} {enc : TypeId × Value → H} {W : World} {a : Option Addr} {n c : Nat} {d : DataW H} {p : List MemPlace}
    (h : DataW.Trod enc Tryz.prog W 0 (fun _ => true) true 22 (.slice a n c) d p) : ∃ l : List Bool, Bls W (.slice a n c) l := by
  obtain ⟨fuel, hf⟩ := h
  rcases open_bools Tryz.underlying22 Tryz.underlying4 Tryz.cellsBool hf with ⟨hcs, hx⟩ | ⟨x, l, cp, B, hcs, _, hl, hm, hx, hcell⟩
  · simp [Value.cells] at hcs
    obtain ⟨rfl, rfl, rfl⟩ := hcs
    exact ⟨[], none, 0, rfl, by simp, by simp, fun h => absurd rfl h⟩
  · simp [Value.cells] at hcs
    obtain ⟨rfl, rfl, rfl⟩ := hcs
    unfold maxLen at hm
    have hlen : ((List.range n).map B).length = n := by simp
    refine ⟨(List.range n).map B, some x, c, by rw [hlen], by rw [hlen]; omega, hm, fun hne => ?_⟩
    have hn0 : 0 < n := by rw [← hlen]; exact List.length_pos_iff.2 hne
    have h0 := hcell 0 (by omega)
    have hsp := World.cell?_spot h0
    obtain ⟨b, off, sp⟩ := x
    have hsp' : sp = none := by
      cases sp with
      | none => rfl
      | some k => simp [Addr.add] at hsp
    subst hsp'
    refine ⟨b, off, rfl, ?_, fun i hi => ?_⟩
    · rw [addr_add] at h0
      exact World.block_lt_of_cell? W ⟨b, off + 0, none⟩ h0
    · have hi' : i < n := by rw [hlen] at hi; exact hi
      have := hcell i (by omega)
      rw [addr_add] at this
      rw [this]
      simp
end Go.Proofs.YtankbanonbmffabGreatDoor
