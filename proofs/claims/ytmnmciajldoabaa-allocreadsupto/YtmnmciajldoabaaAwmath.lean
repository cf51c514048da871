/-
  DERIVED. The runs of the free blocks are those that the document makes of them, one by one.
-/
import Derived.Test.YtmnmciajldoabaaAmath
import Derived.Test.YtmnmciajldoabaaImath
namespace Go.Proofs.Ytmnmciajldoabaa
set_option linter.unusedVariables false

theorem blocks_bks (X : List (Nat × Nat)) : blocks X = bks X := rfl
theorem norm_consB {n : Nat} {X : List (Nat × Nat)} (h : Norm X) (hh : ∀ m l r, X = (m, l) :: r → n + 1 ≤ m) : Norm (consB n X) := by
  cases X with
  | nil => show 0 < 1; omega
  | cons x r =>
    obtain ⟨m, l⟩ := x
    have h1 := hh m l r rfl
    simp only [consB]
    by_cases e : m = n + 1
    · rw [if_pos e]
      cases r with
      | nil => show 0 < l + 1; omega
      | cons y r =>
        obtain ⟨h2, h3, h4⟩ := h
        refine ⟨by show 0 < l + 1; omega, ?_, h4⟩
        simp only at h3 ⊢
        omega
    · rw [if_neg e]
      exact ⟨by show 0 < 1; omega, by simp only; omega, h⟩
theorem norm_runsF (f : Nat → Bool) : ∀ k n, Norm (runsF f k n)
  | 0, _ => trivial
  | k + 1, n => by
    have ih := norm_runsF f k (n + 1)
    rw [runsF]
    split
    · exact norm_consB ih (runsF_head f k (n + 1))
    · exact ih
theorem canon_free (B : Nat) (U V : Nat → Bool) : canon ((List.range' 0 B).filter (may U V)) = runsOf B U V := by
  refine canon_of ?_ ?_
  · rw [runsOf]
    exact norm_runsF _ _ _
  · rw [← blocks_bks, runsOf, blocks_runsF]
end Go.Proofs.Ytmnmciajldoabaa
