/-
  DERIVED. Walks of small, digit, hex: bytes.
-/
import Derived.Test.YtkgepklmhdjjnaaGreatDoorBase
import Derived.Test.YtkgepklmhdjjnaaGreatDoorShm
import Derived.Deep.RegionWith
namespace Go.Proofs.YtkgepklmhdjjnaaGreatDoor
open Go.RowKit
set_option linter.unusedVariables false

abbrev u8v (c : UInt8) : Value := bv c

set_option maxHeartbeats 1000000 in
theorem small_any (c : UInt8) (w : World) :
    Calls Tryz.prog 48 #[u8v c] w fun e w' => e = .returned (.bool (smallB c)) ∧ w = w' := by
  have hc := c.toNat_lt
  unfold smallB
  by_cases h1 : (97 : Int) ≤ c.toNat
  · rw [decide_eq_true h1, Bool.true_and]
    go_enter Tryz.func48, Tryz.ntmps48
    go_wp2
    go_ret
    exact ⟨rfl, rfl⟩
  · rw [decide_eq_false h1]
    go_enter Tryz.func48, Tryz.ntmps48
    go_wp2
    go_ret
    exact ⟨rfl, rfl⟩

set_option maxHeartbeats 1000000 in
theorem digit_any (c : UInt8) (w : World) :
    Calls Tryz.prog 49 #[u8v c] w fun e w' => e = .returned (.bool (digitB c)) ∧ w = w' := by
  have hc := c.toNat_lt
  unfold digitB
  by_cases h1 : (48 : Int) ≤ c.toNat
  · rw [decide_eq_true h1, Bool.true_and]
    go_enter Tryz.func49, Tryz.ntmps49
    go_wp2
    go_ret
    exact ⟨rfl, rfl⟩
  · rw [decide_eq_false h1]
    go_enter Tryz.func49, Tryz.ntmps49
    go_wp2
    go_ret
    exact ⟨rfl, rfl⟩

theorem digitB_iff {c : UInt8} : digitB c = true ↔ 48 ≤ c.toNat ∧ c.toNat ≤ 57 := by
  simp [digitB]; omega

set_option maxHeartbeats 2000000 in
/-- A hexadecimal digit. -/
theorem hex_ok (c : UInt8) (x : Nat) (h : hexV c = some x) (w : World) :
    Calls Tryz.prog 44 #[u8v c] w fun e w' => e = .returned (.tuple #[.int .u8 (x : Int), .bool true]) ∧ w = w' := by
  have hc := c.toNat_lt
  by_cases hd : digitB c = true
  · have hx : x = c.toNat - 48 := by unfold hexV at h; rw [if_pos hd] at h; exact (Option.some.inj h).symm
    have h48 := (digitB_iff.1 hd)
    have HD := hide hd
    have hw : IntKind.u8.wrap ((c.toNat : Int) - 48) = x := by rw [hx]; simp [IntKind.wrap, IntKind.signed, IntKind.bits]; omega
    clear h hd hx h48
    go_enter Tryz.func44, Tryz.ntmps44
    go_wp2_with (go_at_call 49; refine (digit_any c _).mono ?_; rintro e w' ⟨rfl, rfl⟩; rw [unhide HD])
    go_ret2
    exact ⟨by simp, rfl⟩
  · have hd' : digitB c = false := by simpa using hd
    unfold hexV at h
    rw [if_neg hd] at h
    have HD := hide hd'
    clear hd hd'
    by_cases h1 : 65 ≤ c.toNat ∧ c.toNat ≤ 70
    · rw [if_pos h1] at h
      have hx : x = c.toNat - 55 := (Option.some.inj h).symm
      have a1 : (65 : Int) ≤ c.toNat := by omega
      have a2 : (c.toNat : Int) ≤ 70 := by omega
      have HX : Hid ((c.toNat : Int) - 65 + 10 = x) := hide (by omega)
      clear h h1 hx
      go_enter Tryz.func44, Tryz.ntmps44
      go_wp2_with (go_at_call 49; refine (digit_any c _).mono ?_; rintro e w' ⟨rfl, rfl⟩; rw [unhide HD])
      go_ret2
      exact ⟨by simp [unhide HX], rfl⟩
    · rw [if_neg h1] at h
      by_cases h2 : 97 ≤ c.toNat ∧ c.toNat ≤ 102
      · rw [if_pos h2] at h
        have hx : x = c.toNat - 87 := (Option.some.inj h).symm
        have a0 : ¬ (c.toNat : Int) ≤ 70 := by omega
        have a00 : (65 : Int) ≤ c.toNat := by omega
        have a1 : (97 : Int) ≤ c.toNat := by omega
        have a2 : (c.toNat : Int) ≤ 102 := by omega
        have HX : Hid ((c.toNat : Int) - 97 + 10 = x) := hide (by omega)
        clear h h1 h2 hx
        go_enter Tryz.func44, Tryz.ntmps44
        go_wp2_with (go_at_call 49; refine (digit_any c _).mono ?_; rintro e w' ⟨rfl, rfl⟩; rw [unhide HD])
        go_ret2
        exact ⟨by simp [unhide HX], rfl⟩
      · rw [if_neg h2] at h; cases h

set_option maxHeartbeats 2000000 in
/-- None. -/
theorem hex_no (c : UInt8) (h : hexV c = none) (w : World) :
    Calls Tryz.prog 44 #[u8v c] w fun e w' => e = .returned (.tuple #[.int .u8 0, .bool false]) ∧ w = w' := by
  have hc := c.toNat_lt
  by_cases hd : digitB c = true
  · unfold hexV at h; rw [if_pos hd] at h; cases h
  · have hd' : digitB c = false := by simpa using hd
    unfold hexV at h
    rw [if_neg hd] at h
    have HD := hide hd'
    clear hd hd'
    by_cases h1 : 65 ≤ c.toNat ∧ c.toNat ≤ 70
    · rw [if_pos h1] at h; cases h
    · by_cases h2 : 97 ≤ c.toNat ∧ c.toNat ≤ 102
      · rw [if_neg h1, if_pos h2] at h; cases h
      · clear h
        have h3 : ¬ (65 : Int) ≤ c.toNat ∨ ((65 : Int) ≤ c.toNat ∧ ¬ (c.toNat : Int) ≤ 70) := by omega
        have h4 : ¬ (97 : Int) ≤ c.toNat ∨ ((97 : Int) ≤ c.toNat ∧ ¬ (c.toNat : Int) ≤ 102) := by omega
        clear h1 h2
        rcases h3 with h3 | ⟨h3, h3'⟩ <;> rcases h4 with h4 | ⟨h4, h4'⟩
        all_goals first | (exfalso; omega) | skip
        all_goals
          go_enter Tryz.func44, Tryz.ntmps44
          go_wp2_with (go_at_call 49; refine (digit_any c _).mono ?_; rintro e w' ⟨rfl, rfl⟩; rw [unhide HD])
          go_ret2
          exact ⟨rfl, rfl⟩
end Go.Proofs.YtkgepklmhdjjnaaGreatDoor
