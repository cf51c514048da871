/-
  DERIVED. Write and Flush where they stop.
-/
import Derived.Test.YtbgaomfoiooegaaDread
namespace Go.Proofs.Ytbgaomfoiooegaa
open Go.RowKit
set_option linter.unusedVariables false

section
variable {w : World} {b : Nat} {fl pm : Value} {fused : Bool} {fuse : Int} {down : Bool} {ops : Int} {a : Option Addr} {n c : Nat}

theorem Write_closed (k : Int) (v : Value) (h : DevAt w b (.slice a n c) pm fused fuse down ops) (hE : openE n down k ≠ 0) :
    Calls Try.prog 21 #[.pointer (some ⟨b, 0, none⟩), .int .i64 k, v] w fun e w' => e = .returned (.int .i64 (openE n down k)) ∧ w = w' := by
  have HD := hide h
  clear h
  have hne : (openE n down k != 0) = true := by rw [bne_iff_ne]; exact hE
  go_enter Try.func21, Try.ntmps21
  go_wp2_with (go_at_call 32; refine (open_dev k (unhide HD)).mono ?_; rintro e w' ⟨rfl, rfl⟩)
  go_ret
  exact ⟨rfl, rfl⟩

theorem Write_sized (k : Int) (a' : Option Addr) (n' c' : Nat) (h : DevAt w b (.slice a n c) pm fused fuse down ops) (hE : openE n down k = 0) (hn : n' ≠ 512) :
    Calls Try.prog 21 #[.pointer (some ⟨b, 0, none⟩), .int .i64 k, .slice a' n' c'] w fun e w' => e = .returned (.int .i64 21) ∧ w = w' := by
  have HD := hide h
  clear h
  have hne : ((n' : Int) != 512) = true := by rw [bne_iff_ne]; omega
  go_enter Try.func21, Try.ntmps21
  go_wp2_with (go_at_call 32; refine (open_dev k (unhide HD)).mono ?_; rintro e w' ⟨rfl, rfl⟩; rw [hE])
  go_ret
  exact ⟨rfl, rfl⟩

theorem Write_burnt (k : Int) (a' : Option Addr) (c' : Nat) (h : DevAt w b (.slice a n c) pm fused fuse down ops) (hE : openE n down k = 0) (hB : burnE fused fuse ≠ 0) (f1 : 0 ≤ fuse) (f2 : fuse < 9223372036854775808) (o1 : 0 ≤ ops) (o2 : ops < 9223372036854775807) :
    Calls Try.prog 21 #[.pointer (some ⟨b, 0, none⟩), .int .i64 k, .slice a' 512 c'] w fun e w' => e = .returned (.int .i64 (burnE fused fuse)) ∧ DevAt w' b (.slice a n c) pm fused (burnF fused fuse) (burnD fused fuse down) (burnO fused fuse ops) ∧ Only b w w' := by
  have HD := hide h
  clear h
  have hne : (burnE fused fuse != 0) = true := by rw [bne_iff_ne]; exact hB
  go_enter Try.func21, Try.ntmps21
  go_wp2_with (first | (go_at_call 32; refine (open_dev k (unhide HD)).mono ?_; rintro e w' ⟨rfl, rfl⟩; rw [hE]) | fail)
  refine (burn_dev (unhide HD) f1 f2 o1 o2).mono ?_
  rintro e w1 ⟨rfl, d1, o1⟩
  have H1 := hide (And.intro d1 o1)
  clear d1 o1
  go_wp2
  go_ret
  exact ⟨rfl, unhide H1⟩

theorem Flush_down (h : DevAt w b fl pm fused fuse true ops) :
    Calls Try.prog 38 #[.pointer (some ⟨b, 0, none⟩)] w fun e w' => e = .returned (.int .i64 2) ∧ w = w' := by
  have HD := hide h
  clear h
  go_enter Try.func38, Try.ntmps38
  go_wp2_with (go_at_call 29; refine (up_dev (unhide HD)).mono ?_; rintro e w' ⟨rfl, rfl⟩)
  go_ret
  exact ⟨rfl, rfl⟩

theorem Flush_burnt (h : DevAt w b fl pm fused fuse false ops) (hB : burnE fused fuse ≠ 0) (f1 : 0 ≤ fuse) (f2 : fuse < 9223372036854775808) (o1 : 0 ≤ ops) (o2 : ops < 9223372036854775807) :
    Calls Try.prog 38 #[.pointer (some ⟨b, 0, none⟩)] w fun e w' => e = .returned (.int .i64 (burnE fused fuse)) ∧ DevAt w' b fl pm fused (burnF fused fuse) (burnD fused fuse false) (burnO fused fuse ops) ∧ Only b w w' := by
  have HD := hide h
  clear h
  have hne : (burnE fused fuse != 0) = true := by rw [bne_iff_ne]; exact hB
  go_enter Try.func38, Try.ntmps38
  go_wp2_with (first | (go_at_call 29; refine (up_dev (unhide HD)).mono ?_; rintro e w' ⟨rfl, rfl⟩) | fail)
  refine (burn_dev (unhide HD) f1 f2 o1 o2).mono ?_
  rintro e w1 ⟨rfl, d1, o1⟩
  have H1 := hide (And.intro d1 o1)
  clear d1 o1
  go_wp2
  go_ret
  exact ⟨rfl, unhide H1⟩
end
end Go.Proofs.Ytbgaomfoiooegaa
