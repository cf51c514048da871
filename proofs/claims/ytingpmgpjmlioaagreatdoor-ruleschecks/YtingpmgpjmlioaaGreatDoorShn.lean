/-
  DERIVED. Walks of small, digit, hex: bytes.
-/
import Derived.Test.YtingpmgpjmlioaaGreatDoorBase
import Derived.Test.YtingpmgpjmlioaaGreatDoorShm
import Derived.Deep.RegionWith
namespace Go.Proofs.YtingpmgpjmlioaaGreatDoor
open Go.RowKit
set_option linter.unusedVariables false

abbrev u8v (c : UInt8) : Value := bv c

set_option maxHeartbeats 1000000 in
theorem small_any (c : UInt8) (w : World) :
    Calls Tryz.prog 89 #[u8v c] w fun e w' => e = .returned (.bool (smallB c)) ∧ w = w' := by
  have hc := c.toNat_lt
  unfold smallB
  by_cases h1 : (97 : Int) ≤ c.toNat
  · rw [decide_eq_true h1, Bool.true_and]
    go_enter Tryz.func89, Tryz.ntmps89
    go_wp2
    go_ret
    exact ⟨rfl, rfl⟩
  · rw [decide_eq_false h1]
    go_enter Tryz.func89, Tryz.ntmps89
    go_wp2
    go_ret
    exact ⟨rfl, rfl⟩

set_option maxHeartbeats 1000000 in
theorem digit_any (c : UInt8) (w : World) :
    Calls Tryz.prog 90 #[u8v c] w fun e w' => e = .returned (.bool (digitB c)) ∧ w = w' := by
  have hc := c.toNat_lt
  unfold digitB
  by_cases h1 : (48 : Int) ≤ c.toNat
  · rw [decide_eq_true h1, Bool.true_and]
    go_enter Tryz.func90, Tryz.ntmps90
    go_wp2
    go_ret
    exact ⟨rfl, rfl⟩
  · rw [decide_eq_false h1]
    go_enter Tryz.func90, Tryz.ntmps90
    go_wp2
    go_ret
    exact ⟨rfl, rfl⟩

theorem digitB_iff {c : UInt8} : digitB c = true ↔ 48 ≤ c.toNat ∧ c.toNat ≤ 57 := by
  simp [digitB]; omega

end Go.Proofs.YtingpmgpjmlioaaGreatDoor

namespace Go.Proofs.YtingpmgpjmlioaaGreatDoor
open Go.RowKit
set_option linter.unusedVariables false

abbrev sv (s : List UInt8) : Value := .string ⟨s.toArray⟩

/-- A string's byte. -/
theorem byte_at {s : List UInt8} {k : Nat} {c : UInt8} (h : s[k]? = some c) : ∀ hb : k < (⟨s.toArray⟩ : ByteArray).size, (⟨s.toArray⟩ : ByteArray)[k]'hb = c := by
  intro hb
  obtain ⟨h1, h2⟩ := List.getElem?_eq_some_iff.1 h
  rw [← h2]; rfl

theorem nch_small {c : UInt8} (h : smallB c = true) : nchB c = true := by simp [nchB, h]
theorem nch_digit {c : UInt8} (h : digitB c = true) : nchB c = true := by simp [nchB, h]
theorem nch_mark {c : UInt8} (h : c.toNat = 95) : nchB c = true := by simp [nchB, h]
theorem nch_no {c : UInt8} (h1 : smallB c = false) (h2 : digitB c = false) (h3 : c.toNat ≠ 95) : nchB c = false := by simp [nchB, h1, h2, h3]

theorem all_take_succ {s : List UInt8} {k : Nat} {c : UInt8} {p : UInt8 → Bool} (h : s[k]? = some c) (hp : p c = true) (ha : (s.take k).all p = true) : (s.take (k + 1)).all p = true := by
  rw [List.take_add_one, h]; simp [List.all_append, ha, hp]

theorem all_false {s : List UInt8} {k : Nat} {c : UInt8} {p : UInt8 → Bool} (h : s[k]? = some c) (hp : p c = false) : s.all p = false := by
  rw [List.all_eq_false]; exact ⟨c, List.mem_of_getElem? h, by simp [hp]⟩

set_option maxHeartbeats 2000000 in
theorem Name_any (s : List UInt8) (w : World) (hs : s.length ≤ 9223372036854775807) :
    Calls Tryz.prog 54 #[sv s] w fun e w' => e = .returned (.bool (nameB s)) ∧ w = w' := by
  rcases s with _ | ⟨c, r⟩
  · go_enter Tryz.func54, Tryz.ntmps54
    go_wp2_with fail
    go_ret
    exact ⟨rfl, rfl⟩
  · obtain ⟨s, hse⟩ : ∃ s, s = c :: r := ⟨_, rfl⟩
    have hh : nameB s = (smallB c && decide (s.length ≤ 32) && s.all nchB) := by subst hse; rfl
    have H0 := hide (byte_at (s := s) (k := 0) (c := c) (by rw [hse]; rfl))
    rw [← hse] at hs ⊢
    have hne : (s == []) = false := by rw [hse]; rfl
    have hpos : 0 < s.length := by rw [hse]; simp
    clear hse
    rw [hh]
    have HH := hide hh
    clear hh
    by_cases h32 : s.length ≤ 32
    · cases hsm : smallB c with
      | false =>
        have HS := hide hsm
        clear hsm
        go_enter Tryz.func54, Tryz.ntmps54
        go_wp2_with (go_at_call 89; rw [unhide H0]; refine (small_any c _).mono ?_; rintro e w' ⟨rfl, rfl⟩; rw [unhide HS])
        go_ret
        exact ⟨rfl, rfl⟩
      | true =>
        have HS := hide hsm
        rw [decide_eq_true h32, Bool.true_and, Bool.true_and]
        clear hsm
        obtain ⟨N, hN⟩ : ∃ N, N = s.length := ⟨_, rfl⟩
        have HN := hide hN
        go_enter Tryz.func54, Tryz.ntmps54
        go_wp2_with (go_at_call 89; rw [unhide H0]; refine (small_any c _).mono ?_; rintro e w' ⟨rfl, rfl⟩; rw [unhide HS])
        go_loopw [3, 19] (fun _ i wr => ∃ k : Nat, k ≤ s.length ∧ i = .int .i64 k ∧ Hid ((s.take k).all nchB = true) ∧ Hid (wr = w)) (fun _ i _ => s.length - (intOf i).toNat)
        case atStart => exact ⟨0, by omega, rfl, hide rfl, hide rfl⟩
        case round =>
          obtain ⟨k, hk, rfl, HA, HW⟩ := hrel
          by_cases hlt : k < s.length
          · obtain ⟨d, hd⟩ : ∃ d, s[k]? = some d := ⟨_, List.getElem?_eq_getElem hlt⟩
            have HD := hide hd
            have hB := byte_at hd
            clear hd
            cases h1 : smallB d with
            | true =>
              have H1 := hide h1
              have HA' := hide (all_take_succ (unhide HD) (nch_small h1) (unhide HA))
              clear h1
              go_wp2_with (go_at_call 89; refine (small_any d _).mono ?_; rintro e w' ⟨rfl, rfl⟩; rw [unhide H1])
              go_roundw
              case rel => exact ⟨k + 1, by omega, by go_num, HA', HW⟩
              case measure => simp [intOf]; omega
            | false =>
              have H1 := hide h1
              cases h2 : digitB d with
              | true =>
                have H2 := hide h2
                have HA' := hide (all_take_succ (unhide HD) (nch_digit h2) (unhide HA))
                clear h1 h2
                go_wp2_with (first | (go_at_call 89; refine (small_any d _).mono ?_; rintro e w' ⟨rfl, rfl⟩; rw [unhide H1]) | (go_at_call 90; refine (digit_any d _).mono ?_; rintro e w' ⟨rfl, rfl⟩; rw [unhide H2]))
                go_roundw
                case rel => exact ⟨k + 1, by omega, by go_num, HA', HW⟩
                case measure => simp [intOf]; omega
              | false =>
                have H2 := hide h2
                by_cases h3 : d.toNat = 95
                · have HA' := hide (all_take_succ (unhide HD) (nch_mark h3) (unhide HA))
                  have hq : ((d.toNat : Int) != 95) = false := by simp; omega
                  clear h1 h2 h3
                  go_wp2_with (first | (go_at_call 89; refine (small_any d _).mono ?_; rintro e w' ⟨rfl, rfl⟩; rw [unhide H1]) | (go_at_call 90; refine (digit_any d _).mono ?_; rintro e w' ⟨rfl, rfl⟩; rw [unhide H2]))
                  go_roundw
                  case rel => exact ⟨k + 1, by omega, by go_num, HA', HW⟩
                  case measure => simp [intOf]; omega
                · have HF := hide (all_false (unhide HD) (nch_no h1 h2 h3))
                  have hq : ((d.toNat : Int) != 95) = true := by simp; omega
                  clear h1 h2 h3
                  go_wp2_with (first | (go_at_call 89; refine (small_any d _).mono ?_; rintro e w' ⟨rfl, rfl⟩; rw [unhide H1]) | (go_at_call 90; refine (digit_any d _).mono ?_; rintro e w' ⟨rfl, rfl⟩; rw [unhide H2]))
                  go_ret
                  rw [unhide HF]
                  exact ⟨rfl, (unhide HW).symm⟩
          · have HF : Hid (s.all nchB = true) := hide (by have := unhide HA; rwa [List.take_of_length_le (by omega)] at this)
            go_wp2_with fail
            go_ret
            rw [unhide HF]
            exact ⟨rfl, (unhide HW).symm⟩
    · rw [decide_eq_false h32, Bool.and_false, Bool.false_and]
      have h32' : decide ((s.length : Int) > 32) = true := decide_eq_true (by omega)
      go_enter Tryz.func54, Tryz.ntmps54
      go_wp2_with fail
      go_ret
      exact ⟨rfl, rfl⟩
end Go.Proofs.YtingpmgpjmlioaaGreatDoor
