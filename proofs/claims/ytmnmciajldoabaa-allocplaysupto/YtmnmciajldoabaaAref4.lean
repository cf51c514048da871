/-
  DERIVED. The document's map: Take that is refused, Give.
-/
import Derived.Test.YtmnmciajldoabaaAref3
namespace Go.Proofs.Ytmnmciajldoabaa
open Go.RowKit
set_option linter.unusedVariables false

theorem rTake_full (w : World) (N b B n : Nat) (v1 v2 : Value) (U V : Nat → Bool) (h : RmAt w N b B v1 v2 U V) (hn : total (runsOf B U V) < n) (hn2 : (n : Int) ≤ 9223372036854775807) :
    Calls Try.prog 9 #[.pointer (some ⟨b, 0, none⟩), .int .i64 (n : Int)] w fun e w' => e = .returned (.tuple #[.slice none 0 0, .int .i64 50]) ∧ w' = w := by
  have HM := hide h
  have hn0 : ¬ (n : Int) < 0 := by omega
  clear h
  go_enter Try.func9, Try.ntmps9
  go_wp2_with fail
  refine (rFree_any w N b B v1 v2 U V (unhide HM)).mono ?_
  rintro e w1 ⟨rfl, hw1⟩
  subst w1
  have hn1 : decide (total (runsOf B U V) < n) = true := decide_eq_true (by omega)
  go_wp2
  go_ret2
  exact ⟨rfl, rfl⟩
theorem rTake_neg (w : World) (b : Nat) (n : Int) (hn : n < 0) :
    Calls Try.prog 9 #[.pointer (some ⟨b, 0, none⟩), .int .i64 n] w fun e w' => e = .returned (.tuple #[.slice none 0 0, .int .i64 1]) ∧ w' = w := by
  go_enter Try.func9, Try.ntmps9
  go_wp2
  go_ret2
  exact ⟨rfl, rfl⟩
end Go.Proofs.Ytmnmciajldoabaa
