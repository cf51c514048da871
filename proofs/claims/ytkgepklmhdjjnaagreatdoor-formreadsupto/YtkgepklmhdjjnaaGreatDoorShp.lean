/-
  DERIVED. The walk of plain.
-/
import Derived.Test.YtkgepklmhdjjnaaGreatDoorShn
import Derived.Test.YtkgepklmhdjjnaaGreatDoorShA
namespace Go.Proofs.YtkgepklmhdjjnaaGreatDoor
open Go.RowKit
set_option linter.unusedVariables false

set_option maxRecDepth 100000 in
theorem idx_facts : ∀ n, n < 256 → decide (0 ≤ Lib.indexByte [45, 46, 95, 126] (UInt8.ofNat n)) = markB (UInt8.ofNat n) := by decide
theorem idx_mark (c : UInt8) : decide (0 ≤ Lib.indexByte [45, 46, 95, 126] c) = markB c :=
  all_bytes (fun c => decide (0 ≤ Lib.indexByte [45, 46, 95, 126] c) = markB c) idx_facts c

theorem IndexByte_mark (c : UInt8) (w : World) :
    Calls Tryz.prog 90 #[.string ⟨#[45, 46, 95, 126]⟩, u8v c] w fun e w' => (∃ n : Int, e = .returned (.int .i64 n) ∧ decide (0 ≤ n) = markB c) ∧ w = w' := by
  refine (Tryz.strings_IndexByte ⟨#[45, 46, 95, 126]⟩ (c.toNat : Int) w).mono ?_
  rintro e w' ⟨rfl, rfl⟩
  refine ⟨⟨_, rfl, ?_⟩, rfl⟩
  have : ((c.toNat : Int).toNat.toUInt8) = c := by simp
  rw [this]
  exact idx_mark c

set_option maxHeartbeats 2000000 in
theorem plain_any (c : UInt8) (w : World) :
    Calls Tryz.prog 45 #[u8v c] w fun e w' => e = .returned (.bool (plainB c)) ∧ w = w' := by
  have hc := c.toNat_lt
  unfold plainB
  cases h1 : smallB c with
  | true =>
    have H1 := hide h1
    clear h1
    simp only [Bool.true_or]
    go_enter Tryz.func45, Tryz.ntmps45
    go_wp2_with (go_at_call 48; refine (small_any c _).mono ?_; rintro e w' ⟨rfl, rfl⟩; rw [unhide H1])
    go_ret
    exact ⟨rfl, rfl⟩
  | false =>
    have H1 := hide h1
    clear h1
    cases h2 : capB c with
    | true =>
      have a1 : (65 : Int) ≤ c.toNat := by unfold capB at h2; simp at h2; omega
      have a2 : (c.toNat : Int) ≤ 90 := by unfold capB at h2; simp at h2; omega
      clear h2
      simp only [Bool.false_or, Bool.true_or]
      go_enter Tryz.func45, Tryz.ntmps45
      go_wp2_with (go_at_call 48; refine (small_any c _).mono ?_; rintro e w' ⟨rfl, rfl⟩; rw [unhide H1])
      go_ret
      exact ⟨rfl, rfl⟩
    | false =>
      have a : ¬ (65 : Int) ≤ c.toNat ∨ ((65 : Int) ≤ c.toNat ∧ ¬ (c.toNat : Int) ≤ 90) := by unfold capB at h2; simp at h2; omega
      clear h2
      cases h3 : digitB c with
      | true =>
        have H3 := hide h3
        clear h3
        simp only [Bool.false_or, Bool.true_or]
        rcases a with a | ⟨a, a'⟩
        all_goals
          go_enter Tryz.func45, Tryz.ntmps45
          go_wp2_with (first | (go_at_call 48; refine (small_any c _).mono ?_; rintro e w' ⟨rfl, rfl⟩; rw [unhide H1]) | (go_at_call 49; refine (digit_any c _).mono ?_; rintro e w' ⟨rfl, rfl⟩; rw [unhide H3]))
          go_ret
          exact ⟨rfl, rfl⟩
      | false =>
        have H3 := hide h3
        clear h3
        simp only [Bool.false_or]
        have HQ : Hid (¬ (65 : Int) ≤ c.toNat ∨ ¬ (c.toNat : Int) ≤ 90) := hide (by omega)
        rcases a with a | ⟨a, a'⟩
        all_goals
          go_enter Tryz.func45, Tryz.ntmps45
          go_wp2_with (first | (go_at_call 48; refine (small_any c _).mono ?_; rintro e w' ⟨rfl, rfl⟩; rw [unhide H1]) | (go_at_call 49; refine (digit_any c _).mono ?_; rintro e w' ⟨rfl, rfl⟩; rw [unhide H3]) | (go_at_call 90; refine (IndexByte_mark c _).mono ?_; rintro e w' ⟨⟨n, rfl, hn⟩, rfl⟩; have HN := hide hn; clear hn))
          go_ret
          rw [← unhide HN]
          refine ⟨?_, rfl⟩
          first | rfl | (rw [show decide ((c.toNat : Int) ≤ 90) = false from decide_eq_false (by have := unhide HQ; omega)]; rfl)
end Go.Proofs.YtkgepklmhdjjnaaGreatDoor
