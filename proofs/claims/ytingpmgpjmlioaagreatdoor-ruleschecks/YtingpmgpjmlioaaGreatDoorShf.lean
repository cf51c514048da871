/-
  DERIVED. Fields, mayBe, Check.
-/
import Derived.Test.YtingpmgpjmlioaaGreatDoorShu
import Derived.Laws.Cover1
import Derived.Sort.Walk0
namespace Go.Proofs.YtingpmgpjmlioaaGreatDoor
open Go.RowKit
set_option linter.unusedVariables false

/-- A field. -/
structure Fld where
  name : List UInt8
  text : Bool
  n : Int
  s : List UInt8
deriving DecidableEq

abbrev fv (f : Fld) : Array Value := #[sv f.name, .bool f.text, .int .i64 f.n, sv f.s]

/-- A slice of fields that reads as these. -/
def FdL (w : World) (v : Value) (fs : List Fld) : Prop :=
  ∃ ao cap, v = .slice ao fs.length cap ∧ fs.length ≤ cap ∧ cap ≤ 9223372036854775807 ∧
    (fs.length ≠ 0 → ∃ b off, ao = some ⟨b, off, none⟩ ∧ b < w.heap.size ∧ ∀ i, (h : i < fs.length) →
      w.cell? ⟨b, off + i * 4, none⟩ = some (sv fs[i].name) ∧ w.cell? ⟨b, off + i * 4 + 1, none⟩ = some (.bool fs[i].text) ∧ w.cell? ⟨b, off + i * 4 + 2, none⟩ = some (.int .i64 fs[i].n) ∧ w.cell? ⟨b, off + i * 4 + 3, none⟩ = some (sv fs[i].s))

theorem FdL.below {B : Nat} {w w' : World} {v : Value} {fs : List Fld} (h : FdL w v fs) (hb : Below B w w') (hB : w.heap.size ≤ B) : FdL w' v fs := by
  obtain ⟨ao, cap, rfl, h1, h2, h4⟩ := h
  refine ⟨ao, cap, rfl, h1, h2, fun hz => ?_⟩
  obtain ⟨b, off, e, hlt, hc⟩ := h4 hz
  refine ⟨b, off, e, by have := hb.size; omega, fun i hi => ?_⟩
  obtain ⟨c0, c1, c2, c3⟩ := hc i hi
  exact ⟨(hb.cell (p := ⟨b, off + i * 4, none⟩) (by show b < B; omega)).trans c0, (hb.cell (p := ⟨b, off + i * 4 + 1, none⟩) (by show b < B; omega)).trans c1, (hb.cell (p := ⟨b, off + i * 4 + 2, none⟩) (by show b < B; omega)).trans c2, (hb.cell (p := ⟨b, off + i * 4 + 3, none⟩) (by show b < B; omega)).trans c3⟩

/-- Fields whose texts are lengths of this machine, and whose numbers are ints. -/
def fits (f : Fld) : Prop := f.name.length ≤ 9223372036854775807 ∧ f.s.length ≤ 9223372036854775807 ∧ -9223372036854775808 ≤ f.n ∧ f.n ≤ 9223372036854775807

/-- A value is of its kind. -/
def valB (f : Fld) : Bool := if f.text then f.n == 0 && decide (f.s.length ≤ 200) else f.s.isEmpty
/-- What a field may not be. -/
def mayF (f : Fld) : Int := if nameB f.name then (if valB f then 0 else 122) else 121

theorem mayF_name {f : Fld} (h : nameB f.name = false) : mayF f = 121 := by simp [mayF, h]
theorem mayF_val {f : Fld} (h : nameB f.name = true) (h2 : valB f = false) : mayF f = 122 := by simp [mayF, h, h2]
theorem mayF_ok {f : Fld} (h : nameB f.name = true) (h2 : valB f = true) : mayF f = 0 := by simp [mayF, h, h2]

end Go.Proofs.YtingpmgpjmlioaaGreatDoor
