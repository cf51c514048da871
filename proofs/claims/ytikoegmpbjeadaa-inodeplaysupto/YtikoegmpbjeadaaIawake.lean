/-
  DERIVED. The chapter's examples: awake. And the calls without a node.
-/
import Derived.Test.YtikoegmpbjeadaaIext
import Derived.Test.YtikoegmpbjeadaaIplace
import Derived.Test.YtikoegmpbjeadaaIbytes
import Derived.Test.YtikoegmpbjeadaaIsame
namespace Go.Proofs.Ytikoegmpbjeadaa
open Go.RowKit
set_option linter.unusedVariables false

theorem Cut_nil (w : World) (k : Int) : Calls Try.prog 24 #[.pointer none, .int .i64 k] w fun e w' => e = .returned (.tuple #[.slice none 0 0, .int .i64 1]) ∧ w' = w := by
  go_enter Try.func24, Try.ntmps24
  go_wp2
  go_ret2
  exact ⟨rfl, rfl⟩
theorem Copy_nil (w : World) : Calls Try.prog 11 #[.pointer none] w fun e w' => e = .returned (.pointer none) ∧ w' = w := by
  go_enter Try.func11, Try.ntmps11
  go_wp2
  go_ret
  exact ⟨rfl, rfl⟩

theorem ex_bks : bks [(7, 2)] = [7, 8] := by decide
theorem ex_tell : tellN 513 [7, 8] = [129, 4, 1, 7, 2] := by decide +kernel
theorem Need_513 (w : World) (b : Nat) (v : Value) (h : NdAt w b 0 v []) : Calls Try.prog 18 #[.pointer (some ⟨b, 0, none⟩), .int .i64 513] w fun e w' => e = .returned (.tuple #[.int .i64 2, .int .i64 0]) ∧ w' = w := Need_ok w b 0 v [] h 513 (by omega)
theorem Extend_513 (w : World) (b : Nat) (v u : Value) (h : NdAt w b 0 v []) (hu : Rn w u [(7, 2)]) : Calls Try.prog 19 #[.pointer (some ⟨b, 0, none⟩), .int .i64 513, u] w fun e w' => e = .returned (.int .i64 0) ∧ ∃ v', NdAt w' b 513 v' [7, 8] ∧ w.grownBy w' (some b) := by
  refine (Extend_ok w b 0 513 v u [] [(7, 2)] h (by omega) hu (by simp) (by decide)).mono fun e w' h => ?_
  obtain ⟨h1, v', h2, _, h3⟩ := h
  refine ⟨h1, v', ?_, h3⟩
  rw [List.nil_append, ex_bks] at h2
  exact h2
theorem At_512 (w : World) (b : Nat) (v : Value) (h : NdAt w b 513 v [7, 8]) : Calls Try.prog 23 #[.pointer (some ⟨b, 0, none⟩), .int .i64 512] w fun e w' => e = .returned (.tuple #[.int .i64 8, .int .i64 0, .int .i64 0]) ∧ w' = w := by
  refine (At_ok w b 513 v [7, 8] h 512 (by omega)).mono fun e w' h => ?_
  obtain ⟨c, rfl, h2, h3⟩ := h
  have : c = 8 := by simpa using h2.symm
  subst this
  exact ⟨rfl, h3⟩
theorem At_513 (w : World) (b : Nat) (v : Value) (h : NdAt w b 513 v [7, 8]) : Calls Try.prog 23 #[.pointer (some ⟨b, 0, none⟩), .int .i64 513] w fun e w' => e = .returned (.tuple #[.int .i64 0, .int .i64 0, .int .i64 60]) ∧ w' = w := At_far w b 513 v [7, 8] h 513 (by omega) (by omega)
theorem Bytes_513 (w : World) (b : Nat) (v : Value) (h : NdAt w b 513 v [7, 8]) : Calls Try.prog 20 #[.pointer (some ⟨b, 0, none⟩)] w fun e w' => ∃ u, e = .returned u ∧ Own w' w.heap.size u [129, 4, 1, 7, 2] ∧ w.grownBy w' none := by
  refine (Bytes_any w b 513 v [7, 8] h).mono fun e w' h => ?_
  rw [ex_tell] at h
  exact h

set_option maxRecDepth 20000 in
set_option maxHeartbeats 2000000 in
theorem awake_ok (w : World) : Calls Try.prog 9 #[] w fun e w' => e = .returned (.bool true) ∧ w.grownBy w' none := by
  go_enter Try.func9, Try.ntmps9
  go_wp2_with fail
  refine (New_any w).mono ?_
  rintro e w1 ⟨rfl, m1, g1⟩
  obtain ⟨b, hb⟩ : ∃ b, b = w.heap.size := ⟨_, rfl⟩
  rw [← hb] at m1 ⊢
  have M1 := hide m1
  have G1 := hide g1
  have HB : Hid (w.heap.size ≤ b) := hide (by omega)
  clear hb m1 g1
  go_wp2_with fail
  refine (Need_513 w1 b _ (unhide M1)).mono ?_
  rintro e w1' ⟨rfl, rfl⟩
  go_wp2_with fail
  refine (Extend_513 _ b _ _ ((unhide M1).grown (World.grownBy_alloc _ _ _)) (Rn.one w1' 7 2 (by simp [fits]))).mono ?_
  rintro e w2 ⟨rfl, v2, m2, g2⟩
  have M2 := hide m2
  have G2 : Hid (w.grownBy w2 none) := hide (own_step ((unhide G1).trans (World.grownBy_alloc _ _ _)) (unhide HB) g2)
  clear m2 g2 M1 G1
  go_wp2_with fail
  refine (At_512 w2 b _ (unhide M2)).mono ?_
  rintro e w3 ⟨rfl, rfl⟩
  go_wp2_with fail
  refine (At_513 w3 b _ (unhide M2)).mono ?_
  rintro e w4 ⟨rfl, rfl⟩
  go_wp2_with fail
  refine (Bytes_513 w4 b _ (unhide M2)).mono ?_
  rintro e w5 ⟨u, rfl, o5, g5⟩
  have hst := o5.sl.str
  have G5 : Hid (w.grownBy w5 none) := hide ((unhide G2).trans g5)
  clear o5 g5 M2 G2
  go_wp2
  go_ret
  exact ⟨rfl, unhide G5⟩
end Go.Proofs.Ytikoegmpbjeadaa
