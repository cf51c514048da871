/-
  DERIVED. The law's awake: the chapter's examples.
-/
import Derived.Test.YtbgaomfoiooegaaSrun
import Derived.Lib.SlBytesConst
namespace Go.Proofs.Ytbgaomfoiooegaa
open Go.RowKit
set_option linter.unusedVariables false

set_option maxRecDepth 100000 in
set_option maxHeartbeats 3200000 in
theorem awake_any (w : World) : Calls Try.prog 9 #[] w fun e w' => e = .returned (.bool true) ∧ Below w.heap.size w w' := by
  have kc := fun (w : World) (C : Array Value) (n c : Nat) => Lib.run_convert_bytes_const (P := Try.prog) w 22 5 C n c Try.underlying22 Try.underlying5
  go_enter Try.func9, Try.ntmps9
  go_wp2_with fail
  refine (New_run w w (Below.refl _ _)).mono ?_
  rintro e w1 ⟨rfl, r1, _⟩
  obtain ⟨b, hb⟩ : ∃ b, b = w.heap.size + 2 := ⟨_, rfl⟩
  obtain ⟨F1, hF1⟩ : ∃ F1, F1 = (fun k => w.heap.size ≤ k ∧ k < w1.heap.size) := ⟨_, rfl⟩
  rw [← hb, ← hF1] at r1
  rw [← hb]
  have R1 := hide r1
  clear r1 hb hF1
  go_wp2_with fail
  refine (Load_no (unhide R1) Up.new 4 (by omega) (by omega) (by rw [new_rcd 4 (by omega)]; rfl)).mono ?_
  rintro e w2 ⟨rfl, r2, _⟩
  have R2 := hide r2
  clear r2
  go_wp2_with fail
  refine (Format_up ((unhide R2).grown ((Below.refl _ _).alloc (Nat.le_refl _) _)) Up.new.burn.burn 4 (by omega) (by omega) _ 1 [97] (Sl.new w2 [97] (by simp [maxLen]) (1, 2)) ((unhide R2).newF 1 0) (by decide)).mono ?_
  rintro e w3 ⟨rfl, F3, T3, r3, p3, u3, _, _⟩
  have R3 := hide r3
  have hT3 := p3.rec_
  clear r3 p3
  go_wp2_with fail
  refine (Store_up ((unhide R3).grown ((Below.refl _ _).alloc (Nat.le_refl _) _)) u3 4 (by omega) (by omega) _ 1 [98] (Sl.new w3 [98] (by simp [maxLen]) (1, 2)) ((unhide R3).newF 1 0) (by decide) (by rw [hT3]) (by rw [hT3]; decide)).mono ?_
  rintro e w4 ⟨rfl, F4, T4, r4, p4, u4, _, _⟩
  have R4 := hide r4
  have hT4 := p4.rec_
  rw [hT3] at hT4
  clear r4 p4 hT3
  go_wp2_with fail
  refine (Load_up (unhide R4) u4 4 (by omega) (by omega) (by rw [hT4])).mono ?_
  rintro e w5 ⟨a, n, c, rfl, l5, _, r5, _⟩
  rw [hT4] at l5 ⊢
  have R5 := hide r5
  have hcv := l5.str
  clear r5 hT4
  go_wp2
  go_ret
  exact ⟨rfl, (unhide R5).bel⟩
end Go.Proofs.Ytbgaomfoiooegaa
