/-
  DERIVED. The document's Pick, to the letter.
-/
import Derived.Test.YtbgaomfoiooegaaDkept
namespace Go.Proofs.Ytbgaomfoiooegaa
open Go.RowKit
set_option linter.unusedVariables false

theorem Pick_eq (p : Int) (L : Nat) (w : World) (p1 : -9223372036854775808 ≤ p) (p2 : p < 9223372036854775808) (hL : L < 9223372036854775807) :
    Calls Try.prog 18 #[.int .i64 p, .int .i64 ((L : Int) + 1)] w fun e w' => e = .returned (.int .i64 (pickR p L)) ∧ w = w' := by
  have hpos : (L : Int) + 1 ≠ 0 := by omega
  by_cases hn : p < 0
  · have ht := tm_neg p hn L
    go_enter Try.func18, Try.ntmps18
    go_wp2
    go_ret
    exact ⟨rfl, rfl⟩
  · have ht := tm_pos p hn L
    go_enter Try.func18, Try.ntmps18
    go_wp2
    go_ret
    exact ⟨rfl, rfl⟩

theorem Pick_byte (p : Int) (w : World) (p1 : -9223372036854775808 ≤ p) (p2 : p < 9223372036854775808) :
    Calls Try.prog 18 #[.int .i64 p, .int .i64 256] w fun e w' => e = .returned (.int .i64 (pickR p 255)) ∧ w = w' :=
  Pick_eq p 255 w p1 p2 (by omega)
end Go.Proofs.Ytbgaomfoiooegaa
