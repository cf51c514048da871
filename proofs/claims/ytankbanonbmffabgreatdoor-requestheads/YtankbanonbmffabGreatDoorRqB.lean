/-
  DERIVED. The walks of the predicates on bytes.
-/
import Derived.Test.YtankbanonbmffabGreatDoorRq2
import Derived.Lib.Bytealg
namespace Go.Proofs.YtankbanonbmffabGreatDoor
open Go.RowKit
set_option linter.unusedVariables false

theorem idx_contains (l : List UInt8) (c : UInt8) : decide (0 ≤ Lib.indexByte l c) = l.contains c ∧ -1 ≤ Lib.indexByte l c := by
  induction l with
  | nil => exact ⟨rfl, by simp [Lib.indexByte]⟩
  | cons b r ih =>
    obtain ⟨h1, h2⟩ := ih
    by_cases h : b = c
    · subst h; simp [Lib.indexByte]
    · have hb : (b == c) = false := by simp [h]
      have hc : (c == b) = false := by simp [Ne.symm h]
      have e : Lib.indexByte (b :: r) c = if Lib.indexByte r c == -1 then -1 else Lib.indexByte r c + 1 := by rw [Lib.indexByte, hb]; rfl
      rw [List.contains_cons, hc, Bool.false_or, ← h1, e]
      by_cases hm : Lib.indexByte r c = -1
      · rw [hm]; decide
      · rw [if_neg (by simp [hm])]
        refine ⟨?_, by omega⟩
        simp only [decide_eq_decide]; omega
theorem qIdx_any (l : List UInt8) (c : UInt8) (w : World) :
    Calls Tryz.prog 53 #[qv l, bv c] w fun e w' => (∃ n : Int, e = .returned (.int .i64 n) ∧ decide (0 ≤ n) = l.contains c) ∧ w' = w := by
  refine (Tryz.strings_IndexByte ⟨l.toArray⟩ (c.toNat : Int) w).mono ?_
  rintro e w' ⟨rfl, rfl⟩
  refine ⟨⟨_, rfl, ?_⟩, rfl⟩
  have : ((c.toNat : Int).toNat.toUInt8) = c := by simp
  rw [this]
  exact (idx_contains l c).1


set_option maxHeartbeats 1000000 in
theorem isSmall_any (c : UInt8) (w : World) : Calls Tryz.prog 79 #[bv c] w fun e w' => e = .returned (.bool (smallB c)) ∧ w' = w := by
  have hc := c.toNat_lt
  unfold smallB
  by_cases h1 : (97 : Int) ≤ c.toNat
  · rw [decide_eq_true h1, Bool.true_and]
    go_enter Tryz.func79, Tryz.ntmps79
    go_wp2
    go_ret
    exact ⟨rfl, rfl⟩
  · rw [decide_eq_false h1]
    go_enter Tryz.func79, Tryz.ntmps79
    go_wp2
    go_ret
    exact ⟨rfl, rfl⟩

set_option maxHeartbeats 1000000 in
theorem isCapital_any (c : UInt8) (w : World) : Calls Tryz.prog 33 #[bv c] w fun e w' => e = .returned (.bool (capB c)) ∧ w' = w := by
  have hc := c.toNat_lt
  unfold capB
  by_cases h1 : (65 : Int) ≤ c.toNat
  · rw [decide_eq_true h1, Bool.true_and]
    go_enter Tryz.func33, Tryz.ntmps33
    go_wp2
    go_ret
    exact ⟨rfl, rfl⟩
  · rw [decide_eq_false h1]
    go_enter Tryz.func33, Tryz.ntmps33
    go_wp2
    go_ret
    exact ⟨rfl, rfl⟩

set_option maxHeartbeats 1000000 in
theorem isDigit_any (c : UInt8) (w : World) : Calls Tryz.prog 45 #[bv c] w fun e w' => e = .returned (.bool (digitB c)) ∧ w' = w := by
  have hc := c.toNat_lt
  unfold digitB
  by_cases h1 : (48 : Int) ≤ c.toNat
  · rw [decide_eq_true h1, Bool.true_and]
    go_enter Tryz.func45, Tryz.ntmps45
    go_wp2
    go_ret
    exact ⟨rfl, rfl⟩
  · rw [decide_eq_false h1]
    go_enter Tryz.func45, Tryz.ntmps45
    go_wp2
    go_ret
    exact ⟨rfl, rfl⟩

set_option maxHeartbeats 2000000 in
theorem isLetter_any (c : UInt8) (w : World) : Calls Tryz.prog 56 #[bv c] w fun e w' => e = .returned (.bool (qLetter c)) ∧ w' = w := by
  unfold qLetter
  obtain ⟨BisSmall, hBisSmall⟩ : ∃ BisSmall, smallB c = BisSmall := ⟨_, rfl⟩
  have HisSmall := hide hBisSmall
  rw [hBisSmall]
  clear hBisSmall
  cases BisSmall with
  | true =>
    go_enter Tryz.func56, Tryz.ntmps56
    go_wp2_with (first | (go_at_call 79; refine (isSmall_any c _).mono ?_; rintro e w' ⟨rfl, rfl⟩; rw [unhide HisSmall]))
    go_ret
    exact ⟨by simp, rfl⟩
  | false =>
    simp only [Bool.false_or]
    obtain ⟨BisCapital, hBisCapital⟩ : ∃ BisCapital, capB c = BisCapital := ⟨_, rfl⟩
    have HisCapital := hide hBisCapital
    rw [hBisCapital]
    clear hBisCapital
    go_enter Tryz.func56, Tryz.ntmps56
    go_wp2_with (first | (go_at_call 79; refine (isSmall_any c _).mono ?_; rintro e w' ⟨rfl, rfl⟩; rw [unhide HisSmall]) | (go_at_call 33; refine (isCapital_any c _).mono ?_; rintro e w' ⟨rfl, rfl⟩; rw [unhide HisCapital]))
    go_ret
    exact ⟨by simp, rfl⟩

set_option maxHeartbeats 2000000 in
theorem isPlain_any (c : UInt8) (w : World) : Calls Tryz.prog 52 #[bv c] w fun e w' => e = .returned (.bool (qPlain c)) ∧ w' = w := by
  unfold qPlain
  obtain ⟨BisLetter, hBisLetter⟩ : ∃ BisLetter, qLetter c = BisLetter := ⟨_, rfl⟩
  have HisLetter := hide hBisLetter
  rw [hBisLetter]
  clear hBisLetter
  cases BisLetter with
  | true =>
    go_enter Tryz.func52, Tryz.ntmps52
    go_wp2_with (first | (go_at_call 56; refine (isLetter_any c _).mono ?_; rintro e w' ⟨rfl, rfl⟩; rw [unhide HisLetter]))
    go_ret
    exact ⟨by simp, rfl⟩
  | false =>
    simp only [Bool.false_or]
    obtain ⟨BisDigit, hBisDigit⟩ : ∃ BisDigit, digitB c = BisDigit := ⟨_, rfl⟩
    have HisDigit := hide hBisDigit
    rw [hBisDigit]
    clear hBisDigit
    cases BisDigit with
    | true =>
      go_enter Tryz.func52, Tryz.ntmps52
      go_wp2_with (first | (go_at_call 56; refine (isLetter_any c _).mono ?_; rintro e w' ⟨rfl, rfl⟩; rw [unhide HisLetter]) | (go_at_call 45; refine (isDigit_any c _).mono ?_; rintro e w' ⟨rfl, rfl⟩; rw [unhide HisDigit]) | (go_at_call 53; refine (unhide HI _).mono ?_; rintro e w' ⟨⟨n, rfl, hn⟩, rfl⟩; rw [← unhide HK] at hn))
      go_ret
      exact ⟨by simp, rfl⟩
    | false =>
      simp only [Bool.false_or]
      obtain ⟨K, hK⟩ : ∃ K, K = (qPlainS : List UInt8).contains c := ⟨_, rfl⟩
      have HI : Hid (∀ W, Calls Tryz.prog 53 #[.string ⟨#[45, 46, 95, 126]⟩, bv c] W fun e w' => (∃ n : Int, e = .returned (.int .i64 n) ∧ decide (0 ≤ n) = (qPlainS : List UInt8).contains c) ∧ w' = W) := hide (fun W => qIdx_any qPlainS c W)
      have HK := hide hK
      rw [← hK]
      clear hK
      go_enter Tryz.func52, Tryz.ntmps52
      go_wp2_with (first | (go_at_call 56; refine (isLetter_any c _).mono ?_; rintro e w' ⟨rfl, rfl⟩; rw [unhide HisLetter]) | (go_at_call 45; refine (isDigit_any c _).mono ?_; rintro e w' ⟨rfl, rfl⟩; rw [unhide HisDigit]) | (go_at_call 53; refine (unhide HI _).mono ?_; rintro e w' ⟨⟨n, rfl, hn⟩, rfl⟩; rw [← unhide HK] at hn))
      go_ret
      exact ⟨rfl, rfl⟩

set_option maxHeartbeats 2000000 in
theorem isTokenByte_any (c : UInt8) (w : World) : Calls Tryz.prog 37 #[bv c] w fun e w' => e = .returned (.bool (qTok c)) ∧ w' = w := by
  unfold qTok
  obtain ⟨BisLetter, hBisLetter⟩ : ∃ BisLetter, qLetter c = BisLetter := ⟨_, rfl⟩
  have HisLetter := hide hBisLetter
  rw [hBisLetter]
  clear hBisLetter
  cases BisLetter with
  | true =>
    go_enter Tryz.func37, Tryz.ntmps37
    go_wp2_with (first | (go_at_call 56; refine (isLetter_any c _).mono ?_; rintro e w' ⟨rfl, rfl⟩; rw [unhide HisLetter]))
    go_ret
    exact ⟨by simp, rfl⟩
  | false =>
    simp only [Bool.false_or]
    obtain ⟨BisDigit, hBisDigit⟩ : ∃ BisDigit, digitB c = BisDigit := ⟨_, rfl⟩
    have HisDigit := hide hBisDigit
    rw [hBisDigit]
    clear hBisDigit
    cases BisDigit with
    | true =>
      go_enter Tryz.func37, Tryz.ntmps37
      go_wp2_with (first | (go_at_call 56; refine (isLetter_any c _).mono ?_; rintro e w' ⟨rfl, rfl⟩; rw [unhide HisLetter]) | (go_at_call 45; refine (isDigit_any c _).mono ?_; rintro e w' ⟨rfl, rfl⟩; rw [unhide HisDigit]) | (go_at_call 53; refine (unhide HI _).mono ?_; rintro e w' ⟨⟨n, rfl, hn⟩, rfl⟩; rw [← unhide HK] at hn))
      go_ret
      exact ⟨by simp, rfl⟩
    | false =>
      simp only [Bool.false_or]
      obtain ⟨K, hK⟩ : ∃ K, K = (qTokS : List UInt8).contains c := ⟨_, rfl⟩
      have HI : Hid (∀ W, Calls Tryz.prog 53 #[.string ⟨#[33, 35, 36, 37, 38, 39, 42, 43, 45, 46, 94, 95, 96, 124, 126]⟩, bv c] W fun e w' => (∃ n : Int, e = .returned (.int .i64 n) ∧ decide (0 ≤ n) = (qTokS : List UInt8).contains c) ∧ w' = W) := hide (fun W => qIdx_any qTokS c W)
      have HK := hide hK
      rw [← hK]
      clear hK
      go_enter Tryz.func37, Tryz.ntmps37
      go_wp2_with (first | (go_at_call 56; refine (isLetter_any c _).mono ?_; rintro e w' ⟨rfl, rfl⟩; rw [unhide HisLetter]) | (go_at_call 45; refine (isDigit_any c _).mono ?_; rintro e w' ⟨rfl, rfl⟩; rw [unhide HisDigit]) | (go_at_call 53; refine (unhide HI _).mono ?_; rintro e w' ⟨⟨n, rfl, hn⟩, rfl⟩; rw [← unhide HK] at hn))
      go_ret
      exact ⟨rfl, rfl⟩

set_option maxHeartbeats 2000000 in
theorem isHex_any (c : UInt8) (w : World) : Calls Tryz.prog 54 #[bv c] w fun e w' => e = .returned (.bool (qHex c)) ∧ w' = w := by
  unfold qHex
  obtain ⟨D, hD⟩ : ∃ D, digitB c = D := ⟨_, rfl⟩
  have HD := hide hD
  rw [hD]
  clear hD
  cases D with
  | true =>
    go_enter Tryz.func54, Tryz.ntmps54
    go_wp2_with (go_at_call 45; refine (isDigit_any c _).mono ?_; rintro e w' ⟨rfl, rfl⟩; rw [unhide HD])
    go_ret
    exact ⟨by simp, rfl⟩
  | false =>
    simp only [Bool.false_or]
    unfold qLow qHigh
    by_cases h1 : (97 : Int) ≤ c.toNat
    · rw [decide_eq_true h1, Bool.true_and]
      by_cases h2 : (c.toNat : Int) ≤ 102
      · rw [decide_eq_true h2, Bool.true_or]
        go_enter Tryz.func54, Tryz.ntmps54
        go_wp2_with (go_at_call 45; refine (isDigit_any c _).mono ?_; rintro e w' ⟨rfl, rfl⟩; rw [unhide HD])
        go_ret
        exact ⟨rfl, rfl⟩
      · have h3 : (65 : Int) ≤ c.toNat := by omega
        have h4 : decide ((c.toNat : Int) ≤ 70) = false := decide_eq_false (by omega)
        have h2' : decide ((c.toNat : Int) ≤ 102) = false := decide_eq_false h2
        rw [h2', decide_eq_true h3, h4]
        clear h2
        go_enter Tryz.func54, Tryz.ntmps54
        go_wp2_with (go_at_call 45; refine (isDigit_any c _).mono ?_; rintro e w' ⟨rfl, rfl⟩; rw [unhide HD])
        go_ret
        exact ⟨by simp, rfl⟩
    · have h1' : decide ((97 : Int) ≤ c.toNat) = false := decide_eq_false h1
      rw [h1', Bool.false_and, Bool.false_or]
      clear h1
      by_cases h3 : (65 : Int) ≤ c.toNat
      · rw [decide_eq_true h3, Bool.true_and]
        go_enter Tryz.func54, Tryz.ntmps54
        go_wp2_with (go_at_call 45; refine (isDigit_any c _).mono ?_; rintro e w' ⟨rfl, rfl⟩; rw [unhide HD])
        go_ret
        exact ⟨rfl, rfl⟩
      · have h3' : decide ((65 : Int) ≤ c.toNat) = false := decide_eq_false h3
        rw [h3', Bool.false_and]
        clear h3
        go_enter Tryz.func54, Tryz.ntmps54
        go_wp2_with (go_at_call 45; refine (isDigit_any c _).mono ?_; rintro e w' ⟨rfl, rfl⟩; rw [unhide HD])
        go_ret
        exact ⟨rfl, rfl⟩

set_option maxHeartbeats 2000000 in
theorem isValueByte_any (c : UInt8) (w : World) : Calls Tryz.prog 38 #[bv c] w fun e w' => e = .returned (.bool (qVal c)) ∧ w' = w := by
  unfold qVal
  by_cases h9 : c.toNat = 9
  · have e9 : ((c.toNat : Int) == 9) = true := u8_eq h9
    rw [decide_eq_true h9]
    clear h9
    go_enter Tryz.func38, Tryz.ntmps38
    go_wp2
    go_ret
    exact ⟨by simp, rfl⟩
  · have e9 : ((c.toNat : Int) == 9) = false := u8_ne h9
    rw [decide_eq_false h9, Bool.false_or]
    clear h9
    by_cases h1 : (32 : Int) ≤ c.toNat
    · rw [decide_eq_true h1, Bool.true_and]
      by_cases h2 : (c.toNat : Int) ≤ 126
      · rw [decide_eq_true h2, Bool.true_or]
        go_enter Tryz.func38, Tryz.ntmps38
        go_wp2
        go_ret
        exact ⟨rfl, rfl⟩
      · have h2' : decide ((c.toNat : Int) ≤ 126) = false := decide_eq_false h2
        rw [h2', Bool.false_or]
        clear h2
        go_enter Tryz.func38, Tryz.ntmps38
        go_wp2
        go_ret
        exact ⟨by simp, rfl⟩
    · have h1' : decide ((32 : Int) ≤ c.toNat) = false := decide_eq_false h1
      rw [h1', Bool.false_and, Bool.false_or]
      clear h1
      go_enter Tryz.func38, Tryz.ntmps38
      go_wp2
      go_ret
      exact ⟨by simp, rfl⟩
end Go.Proofs.YtankbanonbmffabGreatDoor
