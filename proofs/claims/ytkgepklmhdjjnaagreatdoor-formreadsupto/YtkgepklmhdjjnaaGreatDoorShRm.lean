/-
  DERIVED. The document's way to read a number is the program's, in plain words.
-/
import Derived.Test.YtkgepklmhdjjnaaGreatDoorShbm
namespace Go.Proofs.YtkgepklmhdjjnaaGreatDoor
open Go.RowKit
set_option linter.unusedVariables false

/-- Digits read from the left, below 0. -/
def numL : Int → List UInt8 → Option Int
  | n, [] => some n
  | n, d :: r => if digitB d then (if 10 * n - ((d.toNat : Int) - 48) < -9223372036854775808 then none else numL (10 * n - ((d.toNat : Int) - 48)) r) else none

theorem numL_append : ∀ (l m : List UInt8) (n : Int), numL n (l ++ m) = (numL n l).bind (fun a => numL a m)
  | [], m, n => rfl
  | d :: r, m, n => by
    show numL n (d :: (r ++ m)) = _
    rw [numL, numL]
    by_cases h1 : digitB d = true
    · rw [if_pos h1, if_pos h1]
      by_cases h2 : 10 * n - ((d.toNat : Int) - 48) < -9223372036854775808
      · rw [if_pos h2, if_pos h2]; rfl
      · rw [if_neg h2, if_neg h2]; exact numL_append r m _
    · rw [if_neg h1, if_neg h1]; rfl

theorem digit_of {k : Nat} (h : k < 10) : digitB (UInt8.ofNat (48 + k)) = true ∧ ((UInt8.ofNat (48 + k)).toNat : Int) - 48 = k := by
  have e : (UInt8.ofNat (48 + k)).toNat = 48 + k := by simp; omega
  refine ⟨digitB_iff.2 (by omega), by omega⟩

theorem numL_one (n : Int) (k : Nat) (h : k < 10) (hb : -9223372036854775808 ≤ 10 * n - k) : numL n [UInt8.ofNat (48 + k)] = some (10 * n - k) := by
  rw [numL, if_pos (digit_of h).1, (digit_of h).2, if_neg (by omega)]; rfl

theorem numL_dec (u : Nat) (hu : u ≤ 9223372036854775808) : numL 0 (Lib.decDigits u) = some (-(u : Int)) := by
  induction u using Nat.strongRecOn with
  | ind u ih =>
    by_cases h : u < 10
    · rw [Lib.decDigits_one h, numL_one 0 u h (by omega)]; congr 1; omega
    · rw [Lib.decDigits, dif_neg h, numL_append, ih (u / 10) (by omega) (by omega)]
      show numL (-((u / 10 : Nat) : Int)) [UInt8.ofNat (48 + u % 10)] = _
      rw [numL_one _ (u % 10) (by omega) (by omega)]
      congr 1
      omega

theorem dec_len : ∀ (k u : Nat), u < 10 ^ (k + 1) → Lib.nDigits u ≤ k + 1
  | 0, u, h => by rw [Lib.nDigits_small (by omega)]; omega
  | k + 1, u, h => by
    by_cases h10 : u < 10
    · rw [Lib.nDigits_small h10]; omega
    · rw [Lib.nDigits_big h10]
      have := dec_len k (u / 10) (by rw [Nat.pow_succ] at h; omega)
      omega

theorem dec_head (u : Nat) (hu : 1 ≤ u) : (Lib.decDigits u).head? ≠ some 48 := by
  induction u using Nat.strongRecOn with
  | ind u ih =>
    by_cases h : u < 10
    · rw [Lib.decDigits_one h]
      intro e
      have e2 := congrArg UInt8.toNat (Option.some.inj e)
      simp at e2; omega
    · rw [Lib.decDigits, dif_neg h, List.head?_append]
      have := ih (u / 10) (by omega) (by omega)
      cases hh : (Lib.decDigits (u / 10)).head? with
      | none => exact absurd (List.head?_eq_none_iff.1 hh) (dec_ne _)
      | some c => rw [hh] at this; exact this

/-- Digits that are read are those of the number. -/
theorem numL_only : ∀ (k : Nat) (l : List UInt8) (n : Int), l.length = k + 1 → l.head? ≠ some 48 → numL 0 l = some n → n < 0 ∧ -9223372036854775808 ≤ n ∧ l = Lib.decDigits (-n).toNat
  | k, l, n, hl, hh, hn => by
    obtain ⟨a, d, rfl⟩ : ∃ a d, l = a ++ [d] := ⟨l.dropLast, l.getLast (by intro e; rw [e] at hl; simp at hl), (List.dropLast_concat_getLast _).symm⟩
    rw [numL_append] at hn
    cases ha : numL 0 a with
    | none => rw [ha] at hn; cases hn
    | some m =>
      rw [ha] at hn
      simp only [Option.bind_some] at hn
      rw [numL] at hn
      by_cases h1 : digitB d = true
      · rw [if_pos h1] at hn
        by_cases h2 : 10 * m - ((d.toNat : Int) - 48) < -9223372036854775808
        · rw [if_pos h2] at hn; cases hn
        · rw [if_neg h2] at hn
          have e := Option.some.inj hn
          have hd := digitB_iff.1 h1
          have hde : d = UInt8.ofNat (48 + (d.toNat - 48)) := by rw [show 48 + (d.toNat - 48) = d.toNat by omega]; simp
          cases k with
          | zero =>
            obtain rfl : a = [] := List.length_eq_zero_iff.1 (by rw [List.length_append] at hl; simp only [List.length_cons, List.length_nil] at hl; omega)
            cases ha
            have hd48 : d.toNat ≠ 48 := fun e2 => hh (by
              show some d = some 48
              rw [hde, e2]; rfl)
            refine ⟨by omega, by omega, ?_⟩
            rw [Lib.decDigits_one (by omega)]
            show [d] = _
            rw [show 48 + (-n).toNat = 48 + (d.toNat - 48) by omega, ← hde]
          | succ k =>
            have hal : a.length = k + 1 := by simp at hl; omega
            have hah : a.head? ≠ some 48 := by
              rcases a with _ | ⟨c, r⟩
              · simp at hal
              · exact hh
            obtain ⟨i1, i2, i3⟩ := numL_only k a m hal hah ha
            refine ⟨by omega, by omega, ?_⟩
            have hq : (-n).toNat = 10 * (-m).toNat + (d.toNat - 48) := by omega
            have hu : 1 ≤ (-m).toNat := by omega
            rw [i3, hq]
            obtain ⟨u, hue⟩ : ∃ u, u = (-m).toNat := ⟨_, rfl⟩
            rw [← hue] at hu ⊢
            conv => rhs; rw [Lib.decDigits]
            rw [dif_neg (by omega), show (10 * u + (d.toNat - 48)) / 10 = u by omega, show (10 * u + (d.toNat - 48)) % 10 = d.toNat - 48 by omega, ← hde]
      · rw [if_neg h1] at hn; cases hn

/-- What stands behind a '-'. -/
def digs (s : List UInt8) : List UInt8 := if s.head? = some 45 then s.tail else s
/-- The document's way to read a number. -/
def refNum (s : List UInt8) : Option Int :=
  if (digs s).length < 1 ∨ 19 < (digs s).length ∨ ((digs s).head? = some 48 ∧ s ≠ [48]) then none
  else match numL 0 (digs s) with
    | none => none
    | some n => if (digs s).length < s.length then some n else if n = -9223372036854775808 then none else some (-n)

theorem readNum_iff (s : List UInt8) (n : Int) : readNum s = some n ↔ (-9223372036854775808 ≤ n ∧ n ≤ 9223372036854775807 ∧ Lib.itoa n = s) := by
  constructor
  · intro h
    unfold readNum at h
    split at h
    · rename_i m hm
      split at h
      · rename_i hi
        obtain rfl := Option.some.inj h
        exact ⟨(Lib.atoiAll_bounds hm).1, (Lib.atoiAll_bounds hm).2, hi⟩
      · cases h
    · cases h
  · rintro ⟨h0, h1, rfl⟩
    exact readNum_itoa n h0 h1

theorem refNum_iff (s : List UInt8) (n : Int) : refNum s = some n ↔ (-9223372036854775808 ≤ n ∧ n ≤ 9223372036854775807 ∧ Lib.itoa n = s) := by
  constructor
  · intro h
    unfold refNum at h
    split at h
    · cases h
    · rename_i hc
      split at h
      · cases h
      · rename_i m hm
        by_cases hneg : s.head? = some 45
        · obtain ⟨r, rfl⟩ : ∃ r, s = 45 :: r := by
            rcases s with _ | ⟨c, r⟩
            · cases hneg
            · exact ⟨r, by rw [Option.some.inj hneg]⟩
          have hdg : digs (45 :: r) = r := by simp [digs]
          rw [hdg] at hm hc h
          rw [if_pos (by simp)] at h
          obtain rfl := Option.some.inj h
          have hhd : r.head? ≠ some 48 := fun e => hc (.inr (.inr ⟨e, by simp⟩))
          obtain ⟨k, hk⟩ : ∃ k, r.length = k + 1 := ⟨r.length - 1, by omega⟩
          obtain ⟨i1, i2, i3⟩ := numL_only k r m hk hhd hm
          refine ⟨i2, by omega, ?_⟩
          unfold Lib.itoa
          rw [if_pos i1, show m.natAbs = (-m).toNat by omega, ← i3]
        · have hdg : digs s = s := by unfold digs; rw [if_neg hneg]
          rw [hdg] at hm hc h
          rw [if_neg (Nat.lt_irrefl _)] at h
          split at h
          · cases h
          · rename_i hmin
            obtain rfl := Option.some.inj h
            by_cases hhd : s.head? = some 48
            · have hs : s = [48] := by
                by_cases he : s = [48]
                · exact he
                · exact absurd (.inr (.inr ⟨hhd, he⟩)) hc
              subst hs
              have : numL 0 [48] = some 0 := by decide
              rw [this] at hm
              obtain rfl := Option.some.inj hm
              exact ⟨by decide, by decide, by simp [Lib.itoa, Lib.decDigits]⟩
            · obtain ⟨k, hk⟩ : ∃ k, s.length = k + 1 := ⟨s.length - 1, by omega⟩
              obtain ⟨i1, i2, i3⟩ := numL_only k s m hk hhd hm
              refine ⟨by omega, by omega, ?_⟩
              unfold Lib.itoa
              rw [if_neg (by omega), ← i3]
  · rintro ⟨h0, h1, rfl⟩
    by_cases hn : n < 0
    · have hs : Lib.itoa n = 45 :: Lib.decDigits n.natAbs := by unfold Lib.itoa; rw [if_pos hn]
      rw [hs]
      have hdg : digs (45 :: Lib.decDigits n.natAbs) = Lib.decDigits n.natAbs := by simp [digs]
      unfold refNum
      have hl := Lib.decDigits_length n.natAbs
      have hlp := Lib.nDigits_pos n.natAbs
      have hlm := dec_len 18 n.natAbs (by omega)
      have hhd := dec_head n.natAbs (by omega)
      rw [hdg, if_neg (by
        rintro (h | h | h)
        · omega
        · omega
        · exact hhd h.1), numL_dec _ (by omega)]
      simp only
      rw [if_pos (by simp)]
      congr 1; omega
    · have hs : Lib.itoa n = Lib.decDigits n.toNat := by unfold Lib.itoa; rw [if_neg hn]
      rw [hs]
      have hne := dec_ne n.toNat
      have hdd := dec_digits n.toNat
      have hdg : digs (Lib.decDigits n.toNat) = Lib.decDigits n.toNat := by
        unfold digs
        rw [if_neg]
        intro e
        have := hdd 45 (List.mem_of_head? e)
        revert this; decide
      unfold refNum
      have hl := Lib.decDigits_length n.toNat
      have hlp := Lib.nDigits_pos n.toNat
      have hlm := dec_len 18 n.toNat (by omega)
      rw [hdg, if_neg (by
        rintro (h | h | ⟨h, h'⟩)
        · omega
        · omega
        · by_cases hz : n = 0
          · subst hz; exact h' (by simp [Lib.decDigits])
          · exact dec_head n.toNat (by omega) h), numL_dec _ (by omega)]
      simp only
      rw [if_neg (Nat.lt_irrefl _), if_neg (by omega)]
      congr 1; omega

theorem refNum_eq (s : List UInt8) : refNum s = readNum s := by
  cases h : refNum s with
  | none =>
    cases h2 : readNum s with
    | none => rfl
    | some n => rw [(refNum_iff s n).2 ((readNum_iff s n).1 h2)] at h; cases h
  | some n => exact ((readNum_iff s n).2 ((refNum_iff s n).1 h)).symm
end Go.Proofs.YtkgepklmhdjjnaaGreatDoor
