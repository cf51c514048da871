/-
  DERIVED. Parse, as the laws call it; a request's box.
-/
import Derived.Test.YtankbanonbmffabGreatDoorRqY
import Derived.Test.YtankbanonbmffabGreatDoorRqSa
namespace Go.Proofs.YtankbanonbmffabGreatDoor
open Go.RowKit
set_option linter.unusedVariables false

theorem HdL.empty (w : World) : HdL w (.slice none 0 0) [] := ⟨Option.none, 0, rfl, by simp, by simp, fun h => absurd rfl h⟩
/-- Parse, where the text is not taken. -/
theorem parse_no (s : List UInt8) (w : World) (hs : s.length ≤ 281474976710656) {e0 : Int} (h0 : qParse s = .no e0) : Calls Tryz.prog 5 #[qv s] w fun e w' => e = .returned (.tuple #[.agg #[qv [], qv [], qv [], .slice none 0 0, qv [], .bool false], .int .i64 0, .int .i64 e0]) ∧ Below w.heap.size w w' :=
  (parse_any s w hs).mono fun e w' h => by rw [h0] at h; exact h
/-- Parse, where it is. -/
theorem parse_yes (s : List UInt8) (w : World) (hs : s.length ≤ 281474976710656) {r : Rq} {n : Nat} (h0 : qParse s = .ok r n) : Calls Tryz.prog 5 #[qv s] w fun e w' => ∃ a c, e = .returned (.tuple #[.agg #[qv r.m, qv r.p, qv r.q, .slice a r.hs.length c, qv r.b, .bool r.cl], .int .i64 (n : Int), .int .i64 200]) ∧ HOwn w' w.heap.size (.slice a r.hs.length c) r.hs ∧ Below w.heap.size w w' :=
  (parse_any s w hs).mono fun e w' h => by
    rw [h0] at h
    obtain ⟨⟨hv, h1, h2⟩, h3⟩ := h
    obtain ⟨a, c, rfl⟩ := h2.sl
    exact ⟨a, c, h1, h2, h3⟩

/-- A request's box. -/
def RBox (w : World) (x : Nat) (v0 v1 v2 v3 v4 v5 : Value) : Prop := w.heap[x]? = some (.cells #[v0, v1, v2, v3, v4, v5] 27 (0, 0))
theorem RBox.new (w : World) (v0 v1 v2 v3 v4 v5 : Value) : RBox (w.alloc (.cells #[v0, v1, v2, v3, v4, v5] 27)) w.heap.size v0 v1 v2 v3 v4 v5 := heap_alloc_new _ _
section
variable {w : World} {x : Nat} {v0 v1 v2 v3 v4 v5 : Value}
theorem RBox.lt (h : RBox w x v0 v1 v2 v3 v4 v5) : x < w.heap.size := lt_of_block h
theorem RBox.below {B : Nat} {w' : World} (h : RBox w x v0 v1 v2 v3 v4 v5) (hb : Below B w w') (hB : w.heap.size ≤ B) : RBox w' x v0 v1 v2 v3 v4 v5 := (hb.block x (by have := h.lt; omega)).trans h
theorem RBox.c0 (h : RBox w x v0 v1 v2 v3 v4 v5) : w.cell? ⟨x, 0, none⟩ = some v0 := (cell_of_row _ _ _ _ _ _ h).trans rfl
theorem RBox.c1 (h : RBox w x v0 v1 v2 v3 v4 v5) : w.cell? ⟨x, 1, none⟩ = some v1 := (cell_of_row _ _ _ _ _ _ h).trans rfl
theorem RBox.c2 (h : RBox w x v0 v1 v2 v3 v4 v5) : w.cell? ⟨x, 2, none⟩ = some v2 := (cell_of_row _ _ _ _ _ _ h).trans rfl
theorem RBox.c3 (h : RBox w x v0 v1 v2 v3 v4 v5) : w.cell? ⟨x, 3, none⟩ = some v3 := (cell_of_row _ _ _ _ _ _ h).trans rfl
theorem RBox.c4 (h : RBox w x v0 v1 v2 v3 v4 v5) : w.cell? ⟨x, 4, none⟩ = some v4 := (cell_of_row _ _ _ _ _ _ h).trans rfl
theorem RBox.c5 (h : RBox w x v0 v1 v2 v3 v4 v5) : w.cell? ⟨x, 5, none⟩ = some v5 := (cell_of_row _ _ _ _ _ _ h).trans rfl
end

theorem sameR_self (m p q : List UInt8) (hs : List Hd) (b : List UInt8) (cl : Bool) : sameR m p q hs b cl m p q hs b cl = true := by simp [sameR]
theorem cat_bytes (s t : List UInt8) : ((⟨s.toArray⟩ : ByteArray) ++ ⟨t.toArray⟩) = ⟨(s ++ t).toArray⟩ := by
  apply ByteArray.ext
  simp
/-- What was told of a text's beginning. -/
theorem grows_more {s t : List UInt8} {c n : Nat} {r : Rq} (h0 : qParse (s.take c) = .no 0) (h1 : qParse (s ++ t) = .ok r n) : c < n ∨ s.length < n := by
  refine Classical.byContradiction fun hc => ?_
  have h2 := (qParse_steady.ok _ _ _ h1).2 ((s.take c).drop n)
  have e : (s ++ t).take n ++ (s.take c).drop n = s.take c := by
    have : (s ++ t).take n = (s.take c).take n := by
      rw [List.take_append_of_le_length (by omega), List.take_take, Nat.min_eq_left (by omega)]
    rw [this, List.take_append_drop]
  rw [e, h0] at h2
  cases h2
theorem grows_no {s t : List UInt8} {c : Nat} {e : Int} (h0 : qParse (s.take c) = .no e) (he : e ≠ 0) : qParse (s ++ t) = .no e := by
  have h := qParse_steady.no _ _ h0 he (s.drop c ++ t)
  rwa [← List.append_assoc, List.take_append_drop] at h
theorem grows_ok {s t : List UInt8} {c n : Nat} {r : Rq} (h0 : qParse (s.take c) = .ok r n) : qParse (s ++ t) = .ok r n := by
  have h := qParse_steady.all h0 (s.drop c ++ t)
  rwa [← List.append_assoc, List.take_append_drop] at h
end Go.Proofs.YtankbanonbmffabGreatDoor
