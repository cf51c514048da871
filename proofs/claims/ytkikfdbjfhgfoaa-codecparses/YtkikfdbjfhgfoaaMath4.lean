/-
  DERIVED. The plain mathematics of the document's way to read a number.
-/
import Derived.Test.YtkikfdbjfhgfoaaMath3
namespace Go.Proofs.Ytkikfdbjfhgfoaa

def valr : List UInt8 → Nat
  | [] => 0
  | c :: r => c.toNat % 128 + 128 * valr r
theorem valr_snoc : ∀ (p : List UInt8) (c : UInt8), valr (p ++ [c]) = valr p + c.toNat % 128 * 2 ^ (7 * p.length)
  | [], c => by simp [valr]
  | a :: p, c => by
    have e : 2 ^ (7 * (p.length + 1)) = 128 * 2 ^ (7 * p.length) := by rw [Nat.mul_add, Nat.pow_add]; omega
    rw [List.cons_append, valr, valr, valr_snoc p c, List.length_cons, e, Nat.mul_add, Nat.mul_left_comm]
    omega
theorem valr_lt : ∀ (p : List UInt8), valr p < 2 ^ (7 * p.length)
  | [] => by simp [valr]
  | a :: p => by
    have e : 2 ^ (7 * (p.length + 1)) = 128 * 2 ^ (7 * p.length) := by rw [Nat.mul_add, Nat.pow_add]; omega
    have h := valr_lt p
    have hm : a.toNat % 128 < 128 := Nat.mod_lt _ (by decide)
    simp only [valr, List.length_cons, e]
    omega

theorem layF_len_eq : ∀ (k f n : Nat), k ≤ f → n < 128 ^ (k + 1) → (k = 0 ∨ 128 ^ k ≤ n) → (layF f n).length = k + 1
  | 0, 0, n, _, _, _ => by simp [layF]
  | 0, f + 1, n, _, h, _ => by simp only [layF]; rw [if_pos (by simpa using h)]; rfl
  | k + 1, 0, n, h, _, _ => by omega
  | k + 1, f + 1, n, hk, h, h2 => by
    have h3 : 128 ^ (k + 1) ≤ n := by omega
    have h4 : 128 ^ k * 128 ≤ n := by rw [← Nat.pow_succ]; exact h3
    have h5 : 1 ≤ 128 ^ k := Nat.pow_pos (by decide)
    simp only [layF]
    rw [if_neg (by omega), List.length_cons, layF_len_eq k f (n / 128) (by omega) (by rw [Nat.pow_succ] at h; omega) (by right; omega)]
theorem layF_len_le : ∀ (k f n : Nat), n < 128 ^ (k + 1) → (layF f n).length ≤ k + 1
  | _, 0, n, _ => by simp [layF]
  | 0, f + 1, n, h => by simp only [layF]; rw [if_pos (by simpa using h)]; simp
  | k + 1, f + 1, n, h => by
    simp only [layF]
    split
    · simp
    · have := layF_len_le k f (n / 128) (by rw [Nat.pow_succ] at h; omega)
      simp only [List.length_cons]; omega

theorem take_snoc' (l : List UInt8) (k : Nat) (h : k < l.length) : l.take (k + 1) = l.take k ++ [l[k]] := List.take_succ_eq_append_getElem h

theorem pow7 (k : Nat) : 2 ^ (7 * k) = 128 ^ k := by rw [Nat.pow_mul]

/-- The document's way to read a number is that of rd. -/
theorem ref_uint (l : List UInt8) (k : Nat) (c : UInt8) (hk : k ≤ 9) (hl : k < l.length) (hc : c = l[k]) (h1 : c.toNat < 128) (h : rd l = rdGo k (valr (l.take k)) (l.drop k)) :
    ((lay (valr (l.take (k + 1)) % 18446744073709551616)).length ≠ k + 1 ∨ (k = 9 ∧ 1 < c.toNat) → rd l = (0, 0, 11)) ∧
    (¬ ((lay (valr (l.take (k + 1)) % 18446744073709551616)).length ≠ k + 1 ∨ (k = 9 ∧ 1 < c.toNat)) → rd l = (valr (l.take (k + 1)) % 18446744073709551616, k + 1, 0)) := by
  have hlt : (l.take k).length = k := by simp; omega
  have ev : valr (l.take (k + 1)) = valr (l.take k) + c.toNat * 2 ^ (7 * k) := by
    rw [take_snoc' l k hl, ← hc, valr_snoc, hlt, Nat.mod_eq_of_lt h1]
  have hv := valr_lt (l.take k)
  rw [hlt] at hv
  rw [List.drop_eq_getElem_cons hl, ← hc, rdGo, if_neg (by omega), if_neg (by omega)] at h
  generalize valr (l.take k) = x at *
  generalize hV : valr (l.take (k + 1)) = V at *
  by_cases h9 : k = 9 ∧ 1 < c.toNat
  · rw [if_pos (.inr h9)] at h
    exact ⟨fun _ => h, fun h' => absurd (.inr h9) h'⟩
  · have hVb : V < 18446744073709551616 := by
      by_cases hk9 : k = 9
      · subst hk9
        have : c.toNat * 2 ^ (7 * 9) ≤ 1 * 2 ^ (7 * 9) := Nat.mul_le_mul_right _ (by omega)
        omega
      · have hp : 2 ^ (7 * k) ≤ 2 ^ 56 := Nat.pow_le_pow_right (by decide) (by omega)
        have : c.toNat * 2 ^ (7 * k) ≤ 127 * 2 ^ 56 := Nat.mul_le_mul (by omega) hp
        omega
    rw [Nat.mod_eq_of_lt hVb]
    by_cases h0 : 0 < k ∧ c.toNat = 0
    · rw [if_pos (.inl h0)] at h
      refine ⟨fun _ => h, fun h' => absurd (.inl ?_) h'⟩
      obtain ⟨j, rfl⟩ : ∃ j, k = j + 1 := ⟨k - 1, by omega⟩
      have : V < 128 ^ (j + 1) := by rw [← pow7, ev, h0.2]; simpa using hv
      have := layF_len_le j 9 V this
      show (layF 9 V).length ≠ _
      omega
    · rw [if_neg (by omega)] at h
      have hb : V < 128 ^ (k + 1) := by
        rw [← pow7, Nat.mul_add, Nat.pow_add, ev]
        have : c.toNat * 2 ^ (7 * k) ≤ 127 * 2 ^ (7 * k) := Nat.mul_le_mul_right _ (by omega)
        omega
      have hll : (lay V).length = k + 1 := layF_len_eq k 9 V hk hb (by
        by_cases hk0 : k = 0
        · exact .inl hk0
        · right
          rw [← pow7, ev]
          have : 1 * 2 ^ (7 * k) ≤ c.toNat * 2 ^ (7 * k) := Nat.mul_le_mul_right _ (by omega)
          omega)
      refine ⟨fun h' => ?_, fun _ => by rw [h, ev]⟩
      rcases h' with h' | h'
      · exact absurd hll h'
      · exact absurd h' h9
theorem valr_drop (l : List UInt8) (n i : Nat) (hi : i < n) (hn : n ≤ l.length) : valr ((l.take n).drop i) = (l[i]'(by omega)).toNat % 128 + 128 * valr ((l.take n).drop (i + 1)) := by
  rw [List.drop_eq_getElem_cons (by simp; omega), valr]
  simp
end Go.Proofs.Ytkikfdbjfhgfoaa
