/-
  DERIVED. No device: Format, Load, Store on a nil pointer.
-/
import Derived.Test.YtbgaomfoiooegaaScheck
namespace Go.Proofs.Ytbgaomfoiooegaa
open Go.RowKit
set_option linter.unusedVariables false

theorem Format_nil (at_ : Int) (v : Value) (w : World) : Calls Try.prog 11 #[.pointer none, .int .i64 at_, v] w fun e w' => e = .returned (.int .i64 1) ∧ w = w' := by
  go_enter Try.func11, Try.ntmps11
  go_wp2_with (go_at_call 23; refine (check_nil _ _ _).mono ?_; rintro e w' ⟨rfl, rfl⟩)
  go_ret
  exact ⟨rfl, rfl⟩
theorem Store_nil (at_ : Int) (v : Value) (w : World) : Calls Try.prog 17 #[.pointer none, .int .i64 at_, v] w fun e w' => e = .returned (.int .i64 1) ∧ w = w' := by
  go_enter Try.func17, Try.ntmps17
  go_wp2_with (go_at_call 23; refine (check_nil _ _ _).mono ?_; rintro e w' ⟨rfl, rfl⟩)
  go_ret
  exact ⟨rfl, rfl⟩
theorem Load_nil (at_ : Int) (w : World) : Calls Try.prog 12 #[.pointer none, .int .i64 at_] w fun e w' => e = .returned (.tuple #[.slice none 0 0, .int .i64 0, .int .i64 1]) ∧ w = w' := by
  go_enter Try.func12, Try.ntmps12
  go_wp2_with (go_at_call 23; refine (check_nil _ _ _).mono ?_; rintro e w' ⟨rfl, rfl⟩)
  go_ret3
  exact ⟨rfl, rfl⟩

section
variable {w : World} {b : Nat} {pm : Value} {fused : Bool} {fuse : Int} {down : Bool} {ops : Int} {a : Option Addr} {n c : Nat}
theorem Format_bad (at_ : Int) (x : Option Addr) (l q : Nat) (h : DevAt w b (.slice a n c) pm fused fuse down ops) (hn : n ≤ 512) (hE : chkE n at_ l ≠ 0) :
    Calls Try.prog 11 #[.pointer (some ⟨b, 0, none⟩), .int .i64 at_, .slice x l q] w fun e w' => e = .returned (.int .i64 (chkE n at_ l)) ∧ ∀ B, Below B w w' := by
  have HD := hide h
  clear h
  have hne : (chkE n at_ l != 0) = true := by rw [bne_iff_ne]; exact hE
  go_enter Try.func11, Try.ntmps11
  go_wp2_with fail
  refine (check_dev at_ x l q (unhide HD) hn).mono ?_
  rintro e w' ⟨rfl, bb⟩
  have HB := hide bb
  clear bb
  go_wp2
  go_ret
  exact ⟨rfl, unhide HB⟩
theorem Store_bad (at_ : Int) (x : Option Addr) (l q : Nat) (h : DevAt w b (.slice a n c) pm fused fuse down ops) (hn : n ≤ 512) (hE : chkE n at_ l ≠ 0) :
    Calls Try.prog 17 #[.pointer (some ⟨b, 0, none⟩), .int .i64 at_, .slice x l q] w fun e w' => e = .returned (.int .i64 (chkE n at_ l)) ∧ ∀ B, Below B w w' := by
  have HD := hide h
  clear h
  have hne : (chkE n at_ l != 0) = true := by rw [bne_iff_ne]; exact hE
  go_enter Try.func17, Try.ntmps17
  go_wp2_with fail
  refine (check_dev at_ x l q (unhide HD) hn).mono ?_
  rintro e w' ⟨rfl, bb⟩
  have HB := hide bb
  clear bb
  go_wp2
  go_ret
  exact ⟨rfl, unhide HB⟩
theorem Load_bad (at_ : Int) (h : DevAt w b (.slice a n c) pm fused fuse down ops) (hn : n ≤ 512) (hE : chkE n at_ 0 ≠ 0) :
    Calls Try.prog 12 #[.pointer (some ⟨b, 0, none⟩), .int .i64 at_] w fun e w' => e = .returned (.tuple #[.slice none 0 0, .int .i64 0, .int .i64 (chkE n at_ 0)]) ∧ ∀ B, Below B w w' := by
  have HD := hide h
  clear h
  have hne : (chkE n at_ 0 != 0) = true := by rw [bne_iff_ne]; exact hE
  go_enter Try.func12, Try.ntmps12
  go_wp2_with fail
  refine (check_dev at_ none 0 0 (unhide HD) hn).mono ?_
  rintro e w' ⟨rfl, bb⟩
  have HB := hide bb
  clear bb
  go_wp2
  go_ret3
  exact ⟨rfl, unhide HB⟩
end
end Go.Proofs.Ytbgaomfoiooegaa
