/-
  DERIVED. The document's Name, plain, Escaped.
-/
import Derived.Test.YtfgjbmpbailebaaDoorShe
namespace Go.Proofs.YtfgjbmpbailebaaDoor
open Go.RowKit
set_option linter.unusedVariables false

theorem small_no {c : UInt8} (h : smallB c = false) : (c.toNat : Int) < 97 ∨ (¬ (c.toNat : Int) < 97 ∧ (122 : Int) < c.toNat) := by
  unfold smallB at h; simp at h; omega
theorem small_yes {c : UInt8} (h : smallB c = true) : ¬ (c.toNat : Int) < 97 ∧ ¬ (122 : Int) < c.toNat := by
  unfold smallB at h; simp at h; omega
theorem digit_no {c : UInt8} (h : digitB c = false) : (c.toNat : Int) < 48 ∨ (¬ (c.toNat : Int) < 48 ∧ (57 : Int) < c.toNat) := by
  unfold digitB at h; simp at h; omega
theorem digit_yes {c : UInt8} (h : digitB c = true) : ¬ (c.toNat : Int) < 48 ∧ ¬ (57 : Int) < c.toNat := by
  unfold digitB at h; simp at h; omega
theorem cap_no {c : UInt8} (h : capB c = false) : (c.toNat : Int) < 65 ∨ (¬ (c.toNat : Int) < 65 ∧ (90 : Int) < c.toNat) := by
  unfold capB at h; simp at h; omega
theorem cap_yes {c : UInt8} (h : capB c = true) : ¬ (c.toNat : Int) < 65 ∧ ¬ (90 : Int) < c.toNat := by
  unfold capB at h; simp at h; omega

set_option maxHeartbeats 4000000 in
theorem rName_any (s : List UInt8) (w : World) (hs : s.length ≤ 9223372036854775807) :
    Calls Tryd.prog 27 #[sv s] w fun e w' => e = .returned (.bool (nameB s)) ∧ w = w' := by
  rcases s with _ | ⟨c, r⟩
  · go_enter Tryd.func27, Tryd.ntmps27
    go_wp2_with fail
    go_ret
    exact ⟨rfl, rfl⟩
  · obtain ⟨s, hse⟩ : ∃ s, s = c :: r := ⟨_, rfl⟩
    have hh : nameB s = (smallB c && decide (s.length ≤ 32) && s.all nchB) := by subst hse; rfl
    have h0 := byte_at (s := s) (k := 0) (c := c) (by rw [hse]; rfl)
    rw [← hse] at hs ⊢
    have hpos : ¬ (s.length : Int) < 1 := by rw [hse]; simp; omega
    have hpos0 : 0 < s.length := by rw [hse]; simp
    have hcl := c.toNat_lt
    clear hse
    rw [hh]
    clear hh
    by_cases h32 : s.length ≤ 32
    · have h32' : ¬ (32 : Int) < s.length := by omega
      cases hsm : smallB c with
      | false =>
        rcases small_no hsm with hq | ⟨hq, hq'⟩
        all_goals
          clear hsm
          go_enter Tryd.func27, Tryd.ntmps27
          go_wp2_with fail
          go_ret
          exact ⟨rfl, rfl⟩
      | true =>
        rw [decide_eq_true h32, Bool.true_and, Bool.true_and]
        obtain ⟨hq, hq'⟩ := small_yes hsm
        clear hsm
        go_enter Tryd.func27, Tryd.ntmps27
        go_wp2_with fail
        clear hq hq' h0
        go_loopw [3, 4] (fun i _ wr => ∃ k : Nat, k ≤ s.length ∧ i = .int .i64 k ∧ Hid ((s.take k).all nchB = true) ∧ Hid (wr = w)) (fun i _ _ => s.length - (intOf i).toNat)
        case atStart => exact ⟨0, by omega, rfl, hide rfl, hide rfl⟩
        case round =>
          obtain ⟨k, hk, rfl, HA, HW⟩ := hrel
          by_cases hlt : k < s.length
          · obtain ⟨d, hd⟩ : ∃ d, s[k]? = some d := ⟨_, List.getElem?_eq_getElem hlt⟩
            have HD := hide hd
            have hB := byte_at hd
            have hdl := d.toNat_lt
            clear hd
            cases h1 : smallB d with
            | true =>
              have HA' := hide (all_take_succ (unhide HD) (nch_small h1) (unhide HA))
              obtain ⟨g1, g2⟩ := small_yes h1
              clear h1
              go_wp2_with fail
              go_roundw
              case rel => exact ⟨k + 1, by omega, by go_num, HA', HW⟩
              case measure => simp [intOf]; omega
            | false =>
              cases h2 : digitB d with
              | true =>
                have HA' := hide (all_take_succ (unhide HD) (nch_digit h2) (unhide HA))
                obtain ⟨g1, g2⟩ := digit_yes h2
                have g3 : (d.toNat : Int) < 97 := by omega
                clear h1 h2
                go_wp2_with fail
                go_roundw
                case rel => exact ⟨k + 1, by omega, by go_num, HA', HW⟩
                case measure => simp [intOf]; omega
              | false =>
                by_cases h3 : d.toNat = 95
                · have HA' := hide (all_take_succ (unhide HD) (nch_mark h3) (unhide HA))
                  have hq : ((d.toNat : Int) != 95) = false := by simp; omega
                  have g1 : (d.toNat : Int) < 97 := by omega
                  have g2 : ¬ (d.toNat : Int) < 48 := by omega
                  have g3 : (57 : Int) < d.toNat := by omega
                  clear h1 h2 h3
                  go_wp2_with fail
                  go_roundw
                  case rel => exact ⟨k + 1, by omega, by go_num, HA', HW⟩
                  case measure => simp [intOf]; omega
                · have HF := hide (all_false (unhide HD) (nch_no h1 h2 h3))
                  have hq : ((d.toNat : Int) != 95) = true := by simp; omega
                  have g1 := small_no h1
                  have g2 := digit_no h2
                  clear h1 h2 h3
                  rcases g1 with g1 | ⟨g1, g1'⟩ <;> rcases g2 with g2 | ⟨g2, g2'⟩
                  all_goals first | (exfalso; omega) | skip
                  all_goals
                    go_wp2_with fail
                    go_ret
                    rw [unhide HF]
                    exact ⟨rfl, (unhide HW).symm⟩
          · have HF : Hid (s.all nchB = true) := hide (by have := unhide HA; rwa [List.take_of_length_le (by omega)] at this)
            go_wp2_with fail
            go_ret
            rw [unhide HF]
            exact ⟨rfl, (unhide HW).symm⟩
    · rw [decide_eq_false h32, Bool.and_false, Bool.false_and]
      have h32' : (32 : Int) < s.length := by omega
      go_enter Tryd.func27, Tryd.ntmps27
      go_wp2_with fail
      go_ret
      exact ⟨rfl, rfl⟩

theorem plain_split (c : UInt8) : plainB c = true ↔ (smallB c = true ∨ capB c = true ∨ digitB c = true ∨ markB c = true) := by
  unfold plainB
  simp only [Bool.or_eq_true]
  exact ⟨fun h => by rcases h with ((h | h) | h) | h <;> simp [h], fun h => by rcases h with h | h | h | h <;> simp [h]⟩

end Go.Proofs.YtfgjbmpbailebaaDoor
