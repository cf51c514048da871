/-
  DERIVED. Fields, mayBe, Check.
-/
import Derived.Test.YtfgjbmpbailebaaDoorShu
import Derived.Laws.Cover1
import Derived.Sort.Walk0
namespace Go.Proofs.YtfgjbmpbailebaaDoor
open Go.RowKit
set_option linter.unusedVariables false

/-- A field. -/
structure Fld where
  name : List UInt8
  text : Bool
  n : Int
  s : List UInt8
deriving DecidableEq

abbrev fv (f : Fld) : Array Value := #[sv f.name, .bool f.text, .int .i64 f.n, sv f.s]

/-- A slice of fields that reads as these. -/
def FdL (w : World) (v : Value) (fs : List Fld) : Prop :=
  ∃ ao cap, v = .slice ao fs.length cap ∧ fs.length ≤ cap ∧ cap ≤ 9223372036854775807 ∧
    (fs.length ≠ 0 → ∃ b off, ao = some ⟨b, off, none⟩ ∧ b < w.heap.size ∧ ∀ i, (h : i < fs.length) →
      w.cell? ⟨b, off + i * 4, none⟩ = some (sv fs[i].name) ∧ w.cell? ⟨b, off + i * 4 + 1, none⟩ = some (.bool fs[i].text) ∧ w.cell? ⟨b, off + i * 4 + 2, none⟩ = some (.int .i64 fs[i].n) ∧ w.cell? ⟨b, off + i * 4 + 3, none⟩ = some (sv fs[i].s))

theorem FdL.below {B : Nat} {w w' : World} {v : Value} {fs : List Fld} (h : FdL w v fs) (hb : Below B w w') (hB : w.heap.size ≤ B) : FdL w' v fs := by
  obtain ⟨ao, cap, rfl, h1, h2, h4⟩ := h
  refine ⟨ao, cap, rfl, h1, h2, fun hz => ?_⟩
  obtain ⟨b, off, e, hlt, hc⟩ := h4 hz
  refine ⟨b, off, e, by have := hb.size; omega, fun i hi => ?_⟩
  obtain ⟨c0, c1, c2, c3⟩ := hc i hi
  exact ⟨(hb.cell (p := ⟨b, off + i * 4, none⟩) (by show b < B; omega)).trans c0, (hb.cell (p := ⟨b, off + i * 4 + 1, none⟩) (by show b < B; omega)).trans c1, (hb.cell (p := ⟨b, off + i * 4 + 2, none⟩) (by show b < B; omega)).trans c2, (hb.cell (p := ⟨b, off + i * 4 + 3, none⟩) (by show b < B; omega)).trans c3⟩

/-- Fields whose texts are lengths of this machine, and whose numbers are ints. -/
def fits (f : Fld) : Prop := f.name.length ≤ 9223372036854775807 ∧ f.s.length ≤ 9223372036854775807 ∧ -9223372036854775808 ≤ f.n ∧ f.n ≤ 9223372036854775807

/-- A value is of its kind. -/
def valB (f : Fld) : Bool := if f.text then f.n == 0 && decide (f.s.length ≤ 200) else f.s.isEmpty
/-- What a field may not be. -/
def mayF (f : Fld) : Int := if nameB f.name then (if valB f then 0 else 122) else 121

theorem mayF_name {f : Fld} (h : nameB f.name = false) : mayF f = 121 := by simp [mayF, h]
theorem mayF_val {f : Fld} (h : nameB f.name = true) (h2 : valB f = false) : mayF f = 122 := by simp [mayF, h, h2]
theorem mayF_ok {f : Fld} (h : nameB f.name = true) (h2 : valB f = true) : mayF f = 0 := by simp [mayF, h, h2]

set_option maxHeartbeats 2000000 in
theorem mayBe_any (f : Fld) (w : World) (hf : fits f) :
    Calls Tryd.prog 58 #[.agg (fv f)] w fun e w' => e = .returned (.int .i64 (mayF f)) ∧ Below w.heap.size w w' := by
  obtain ⟨name, text, n, s⟩ := f
  obtain ⟨f1, f2, f3, f4⟩ := hf
  simp only at f1 f2 f3 f4
  have HB := hide ((Below.refl w.heap.size w).alloc (Nat.le_refl _) (.cells (fv ⟨name, text, n, s⟩) 30))
  cases hn : nameB name with
  | false =>
    have HN := hide hn
    have HA := hide (mayF_name (f := ⟨name, text, n, s⟩) hn)
    clear hn
    go_enter Tryd.func58, Tryd.ntmps58
    go_wp2_with (go_at_call 43; refine (Name_any name _ f1).mono ?_; rintro e w' ⟨rfl, rfl⟩; rw [unhide HN])
    go_ret
    rw [unhide HA]
    exact ⟨rfl, unhide HB⟩
  | true =>
    have HN := hide hn
    cases text with
    | true =>
      by_cases h3 : n = 0
      · subst h3
        by_cases h2 : s.length ≤ 200
        · have HA := hide (mayF_ok (f := ⟨name, true, 0, s⟩) hn (by simp [valB, h2]))
          have hd : (s.length : Int) ≤ 200 := by omega
          clear hn
          go_enter Tryd.func58, Tryd.ntmps58
          go_wp2_with (go_at_call 43; refine (Name_any name _ f1).mono ?_; rintro e w' ⟨rfl, rfl⟩; rw [unhide HN])
          go_ret
          rw [unhide HA]
          exact ⟨rfl, unhide HB⟩
        · have HA := hide (mayF_val (f := ⟨name, true, 0, s⟩) hn (by simp [valB, h2]))
          have hd : (200 : Int) < s.length := by omega
          clear hn
          go_enter Tryd.func58, Tryd.ntmps58
          go_wp2_with (go_at_call 43; refine (Name_any name _ f1).mono ?_; rintro e w' ⟨rfl, rfl⟩; rw [unhide HN])
          go_ret
          rw [unhide HA]
          exact ⟨rfl, unhide HB⟩
      · have HA := hide (mayF_val (f := ⟨name, true, n, s⟩) hn (by simp [valB, h3]))
        have h3' : (n != 0) = true := by simp [h3]
        clear hn h3
        go_enter Tryd.func58, Tryd.ntmps58
        go_wp2_with (go_at_call 43; refine (Name_any name _ f1).mono ?_; rintro e w' ⟨rfl, rfl⟩; rw [unhide HN])
        go_ret
        rw [unhide HA]
        exact ⟨rfl, unhide HB⟩
    | false =>
      by_cases h3 : s = []
      · subst h3
        have HA := hide (mayF_ok (f := ⟨name, false, n, []⟩) hn rfl)
        clear hn
        go_enter Tryd.func58, Tryd.ntmps58
        go_wp2_with (go_at_call 43; refine (Name_any name _ f1).mono ?_; rintro e w' ⟨rfl, rfl⟩; rw [unhide HN])
        go_ret
        rw [unhide HA]
        exact ⟨rfl, unhide HB⟩
      · have HA := hide (mayF_val (f := ⟨name, false, n, s⟩) hn (by simp [valB, h3]))
        have h3' : (s != []) = true := by simp [h3]
        have h4' : s.isEmpty = false := by simp [h3]
        clear hn h3
        go_enter Tryd.func58, Tryd.ntmps58
        go_wp2_with (go_at_call 43; refine (Name_any name _ f1).mono ?_; rintro e w' ⟨rfl, rfl⟩; rw [unhide HN])
        go_ret
        rw [unhide HA]
        exact ⟨rfl, unhide HB⟩
end Go.Proofs.YtfgjbmpbailebaaDoor
