/-
  DERIVED. The walk of Check.
-/
import Derived.Test.YtingpmgpjmlioaaGreatDoorShf
namespace Go.Proofs.YtingpmgpjmlioaaGreatDoor
open Go.RowKit
set_option linter.unusedVariables false

def chkL (p : List UInt8) : List Fld → Int
  | [] => 0
  | f :: r => if mayF f ≠ 0 then mayF f else if f.name ≤ p then 123 else chkL f.name r
/-- What Check answers. -/
def checkF (fs : List Fld) : Int := if 16 < fs.length then 120 else chkL [] fs

theorem drop_fld {s : List Fld} {k : Nat} {d : Fld} (h : s[k]? = some d) : s.drop k = d :: s.drop (k + 1) := by
  obtain ⟨h1, h2⟩ := List.getElem?_eq_some_iff.1 h
  rw [← h2]; exact List.drop_eq_getElem_cons h1

theorem str_le (a p : List UInt8) : (Op.bytesLess a p || a == p) = decide (a ≤ p) := by
  rw [Go.Proofs.bytesLess_eq]
  rcases List.le_iff_lt_or_eq.1 (show p ≤ p from List.le_refl p) with h | h
  · exact absurd h (List.lt_irrefl p)
  · by_cases hlt : a < p
    · simp [hlt, List.le_of_lt hlt]
    · by_cases he : a = p
      · subst he; simp
      · have : ¬ a ≤ p := fun hle => (List.le_iff_lt_or_eq.1 hle).elim hlt he
        simp [hlt, he, this]

theorem bel_box {w wr w4 : World} {o : Obj} (h : Below w.heap.size w wr) (h4 : Below (wr.alloc o).heap.size (wr.alloc o) w4) : Below w.heap.size w w4 :=
  (h.alloc h.size o).trans (h4.mono (by have := h.size; simp; omega))

end Go.Proofs.YtingpmgpjmlioaaGreatDoor
