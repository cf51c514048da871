/-
  DERIVED. The plain mathematics of what is laid and read again: numbers, integers, four bytes, frames.
-/
import Derived.Test.YthjcdibblhcgpaaM2
import Derived.Deep.Cut
import Derived.Deep.CutRange
import Derived.Test.YthjcdibblhcgpaaM1
namespace Go.Proofs.Ythjcdibblhcgpaa

theorem ofNat_toNat (c : UInt8) : UInt8.ofNat c.toNat = c := by simp
theorem pow_next (i : Nat) : 2 ^ (7 * (i + 1)) = 128 * 2 ^ (7 * i) := by rw [Nat.mul_add, Nat.pow_add]; omega

theorem rdGo_canon : ∀ (l : List UInt8) (i acc n k : Nat), i ≤ 10 → acc < 2 ^ (7 * i) → rdGo i acc l = (n, k, 0) →
    ∃ m, n = acc + m * 2 ^ (7 * i) ∧ i + 1 ≤ k ∧ l.take (k - i) = lay m ∧ (0 < i → m ≠ 0) ∧ (m < 18446744073709551616)
  | [], i, acc, n, k, hi, ha, h => by
    rw [rdGo] at h
    split at h <;> simp at h
  | c :: r, i, acc, n, k, hi, ha, h => by
    have hc := c.toNat_lt
    have hf := rdGo_facts (c :: r) i acc hi ha
    rw [h] at hf
    have hn : n < 18446744073709551616 := hf.1
    rw [rdGo] at h
    split at h
    · simp at h
    · split at h
      · rename_i h1 h2
        have hm : c.toNat % 128 < 128 := Nat.mod_lt _ (by decide)
        have h3 : c.toNat % 128 * 2 ^ (7 * i) ≤ 127 * 2 ^ (7 * i) := Nat.mul_le_mul_right _ (by omega)
        have e := pow_next i
        obtain ⟨m', e1, e2, e3, e4, e5⟩ := rdGo_canon r (i + 1) _ n k (by omega) (by omega) h
        have hm' := e4 (by omega)
        have e6 : n = acc + (c.toNat % 128 + 128 * m') * 2 ^ (7 * i) := by
          rw [e1, e, Nat.add_mul, Nat.mul_assoc, Nat.mul_left_comm m' 128]
          omega
        have hp : 0 < 2 ^ (7 * i) := Nat.two_pow_pos _
        have h7 : c.toNat % 128 + 128 * m' ≤ (c.toNat % 128 + 128 * m') * 2 ^ (7 * i) := Nat.le_mul_of_pos_right _ hp
        refine ⟨c.toNat % 128 + 128 * m', e6, by omega, ?_, fun _ => by omega, by omega⟩
        rw [lay_big (by omega) (by omega)]
        have q1 : (c.toNat % 128 + 128 * m') % 128 = c.toNat % 128 := by omega
        have q2 : (c.toNat % 128 + 128 * m') / 128 = m' := by omega
        have q3 : 128 + c.toNat % 128 = c.toNat := by omega
        rw [q1, q2, q3, ofNat_toNat]
        have q4 : k - i = (k - (i + 1)) + 1 := by omega
        rw [q4, List.take_succ_cons, e3]
      · split at h
        · simp at h
        · rename_i h1 h2 h3
          simp only [Prod.mk.injEq] at h
          obtain ⟨h4, h5, _⟩ := h
          have hp : 0 < 2 ^ (7 * i) := Nat.two_pow_pos _
          refine ⟨c.toNat, h4.symm, by omega, ?_, fun _ => by omega, by omega⟩
          rw [← h5, show i + 1 - i = 1 by omega, lay_small (by omega), ofNat_toNat]
          rfl
theorem rd_canon {l : List UInt8} {n k : Nat} (h : rd l = (n, k, 0)) : l.take k = lay n := by
  obtain ⟨m, e1, _, e3, _⟩ := rdGo_canon l 0 0 n k (by omega) (by decide) h
  simp at e1
  rw [e1]; exact e3

theorem rdGo_lay : ∀ (f m : Nat), m < 128 ^ (f + 1) → ∀ (i acc : Nat) (r : List UInt8), (0 < i → m ≠ 0) → m * 2 ^ (7 * i) < 18446744073709551616 → i ≤ 9 →
    rdGo i acc (lay m ++ r) = (acc + m * 2 ^ (7 * i), i + (lay m).length, 0) := by
  intro f
  induction f with
  | zero =>
    intro m hm i acc r h0 h1 hi
    have hm : m < 128 := by simpa using hm
    rw [lay_small hm]
    have hb : (UInt8.ofNat m).toNat = m := by simp only [UInt8.toNat_ofNat']; omega
    show rdGo i acc (UInt8.ofNat m :: r) = _
    rw [rdGo, hb, if_neg (by omega), if_neg (by omega), if_neg ?_]
    · rfl
    · intro h
      rcases h with ⟨a, b⟩ | ⟨a, b⟩
      · exact h0 a b
      · subst a
        have : 2 * 2 ^ (7 * 9) ≤ m * 2 ^ (7 * 9) := Nat.mul_le_mul_right _ (by omega)
        have e : 2 * 2 ^ (7 * 9) = 18446744073709551616 := by decide
        omega
  | succ f ih =>
    intro m hm i acc r h0 h1 hi
    by_cases hs : m < 128
    · exact ih m (by have : 128 ≤ 128 ^ (f + 1) := Nat.le_self_pow (by omega) 128; omega) i acc r h0 h1 hi
    · have hp : 0 < 2 ^ (7 * i) := Nat.two_pow_pos _
      have hml : m ≤ m * 2 ^ (7 * i) := Nat.le_mul_of_pos_right _ hp
      rw [lay_big (by omega) (by omega)]
      have hb : (UInt8.ofNat (128 + m % 128)).toNat = 128 + m % 128 := by simp only [UInt8.toNat_ofNat']; omega
      show rdGo i acc (UInt8.ofNat (128 + m % 128) :: (lay (m / 128) ++ r)) = _
      have e := pow_next i
      have key : (m / 128) * 2 ^ (7 * (i + 1)) + m % 128 * 2 ^ (7 * i) = m * 2 ^ (7 * i) := by
        rw [e, ← Nat.mul_assoc, ← Nat.add_mul]
        congr 1
        omega
      have hi8 : i ≤ 8 := by
        by_cases h9 : i = 9
        · subst h9
          have : 128 * 2 ^ (7 * 9) ≤ m * 2 ^ (7 * 9) := Nat.mul_le_mul_right _ (by omega)
          have e : 128 * 2 ^ (7 * 9) = 1180591620717411303424 := by decide
          omega
        · omega
      rw [rdGo, hb, if_neg (by omega), if_pos (by omega), show (128 + m % 128) % 128 = m % 128 by omega,
        ih (m / 128) (by rw [Nat.pow_succ] at hm; omega) (i + 1) _ r (fun _ => by omega) (by omega) (by omega)]
      simp only [Prod.mk.injEq, List.length_cons, and_true]
      omega
theorem rd_lay (n : Nat) (hn : n < 18446744073709551616) (r : List UInt8) : rd (lay n ++ r) = (n, (lay n).length, 0) := by
  have := rdGo_lay 9 n (by have : 18446744073709551616 < 128 ^ (9 + 1) := by decide
                           omega) 0 0 r (fun h => by omega) (by simpa using hn) (by omega)
  simpa [rd] using this
theorem lay_inj {a b : Nat} (ha : a < 18446744073709551616) (hb : b < 18446744073709551616) (h : lay a = lay b) : a = b := by
  have h1 := rd_lay a ha []
  rw [h, rd_lay b hb []] at h1
  simp only [Prod.mk.injEq] at h1
  exact h1.1.symm
theorem unz_zig (n : Int) : unz (zig n) = n := by
  unfold unz zig
  by_cases h : n < 0
  · rw [if_pos h, if_pos (by omega)]; omega
  · rw [if_neg h, if_neg (by omega)]; omega
theorem zig_lt (n : Int) (h : -9223372036854775808 ≤ n) (h2 : n ≤ 9223372036854775807) : zig n < 18446744073709551616 := by
  unfold zig; split <;> omega

theorem rd4_le4 (n : Nat) (hn : n < 4294967296) (r : List UInt8) : rd4 (le4 n ++ r) = n := by
  show (UInt8.ofNat n).toNat + 256 * (UInt8.ofNat (n / 256)).toNat + 65536 * (UInt8.ofNat (n / 65536)).toNat + 16777216 * (UInt8.ofNat (n / 16777216)).toNat = n
  simp only [UInt8.toNat_ofNat']
  omega
theorem le4_rd4 : ∀ (l : List UInt8), 4 ≤ l.length → l.take 4 = le4 (rd4 l)
  | a :: b :: c :: d :: r, _ => by
    have h0 := a.toNat_lt
    have h1 := b.toNat_lt
    have h2 := c.toNat_lt
    have h3 := d.toNat_lt
    have e : ∀ (x : UInt8) (n : Nat), n % 256 = x.toNat → UInt8.ofNat n = x := fun x n h => by
      apply UInt8.toNat_inj.1
      simp only [UInt8.toNat_ofNat']
      omega
    simp only [rd4, le4, List.take_succ_cons, List.take_zero, List.cons.injEq, and_true]
    refine ⟨(e a _ (by omega)).symm, (e b _ (by omega)).symm, (e c _ (by omega)).symm, (e d _ (by omega)).symm⟩
  | [], h => by simp at h
  | [_], h => by simp at h
  | [_, _], h => by simp at h
  | [_, _, _], h => by simp at h

theorem pc_zero {l : List UInt8} {most : Int} (h : pcE l most = 0) : ∃ n k, rd l = (n, k, 0) ∧ (n : Int) ≤ most ∧ k + n ≤ l.length ∧ pcK l most = k + n ∧ pcD l most = (l.drop k).take n := by
  have hf := rd_facts l
  have h' := h
  unfold pcE at h'
  obtain ⟨n, k, e, hr⟩ : ∃ n k e, rd l = (n, k, e) := ⟨_, _, _, rfl⟩
  have hK : pcK l most = (rd l).2.1 + (rd l).1 := by unfold pcK; rw [if_pos h]
  have hD : pcD l most = (l.drop (rd l).2.1).take (rd l).1 := by unfold pcD; rw [if_pos h]
  rw [hr] at h' hf hK hD
  simp only at h' hf hK hD
  by_cases h0 : e = 0
  · subst h0
    rw [if_neg (by simp)] at h'
    by_cases h1 : most < 0 ∨ most < n
    · rw [if_pos h1] at h'; cases h'
    · rw [if_neg h1] at h'
      by_cases h2 : l.length - k < n
      · rw [if_pos h2] at h'; cases h'
      · have := hf.2.2.2 rfl
        exact ⟨n, k, hr, by omega, by omega, hK, hD⟩
  · rw [if_pos h0] at h'; exact absurd h' h0

/-- What is read as a frame is laid as that frame. -/
theorem fr_canon {l : List UInt8} (h : frE l = 0) : l.take (frK l) = frLay (frKind l) (frD l) ∧ frK l ≤ l.length ∧ (frD l).length ≤ 2000 := by
  have hK : frK l = 5 + pcK (l.drop 5) 2000 := by unfold frK; rw [if_pos h]
  have hD : frD l = pcD (l.drop 5) 2000 := by unfold frD; rw [if_pos h]
  have hk : frKind l = l.getD 4 0 := by unfold frKind; rw [if_pos h]
  unfold frE at h
  by_cases h1 : l.length < 5
  · rw [if_pos h1] at h; cases h
  · rw [if_neg h1] at h
    by_cases h2 : pcE (l.drop 5) 2000 = 0
    · rw [if_neg (by simpa using h2)] at h
      by_cases h3 : rd4 l = crc ((l.drop 4).take (1 + pcK (l.drop 5) 2000))
      · obtain ⟨n, k, hr, hn, hkn, eK, eD⟩ := pc_zero h2
        have hc := rd_canon hr
        rw [eK] at hK h3
        rw [eD] at hD
        simp only [List.length_drop] at hkn
        have hDl : (frD l).length = n := by rw [hD]; simp; omega
        have e4 : l.drop 4 = l.getD 4 0 :: l.drop 5 := by
          rw [List.drop_eq_getElem_cons (by omega), List.getD_eq_getElem?_getD, List.getElem?_eq_getElem (by omega)]; rfl
        have hbody : (l.drop 4).take (1 + (k + n)) = frBody (frKind l) (frD l) := by
          rw [e4, Nat.add_comm 1, List.take_succ_cons, frBody, hDl, ← hk, List.take_add, hc, hD]
          rfl
        refine ⟨?_, by omega, by omega⟩
        rw [hK, show 5 + (k + n) = 4 + (1 + (k + n)) by omega, List.take_add, le4_rd4 l (by omega), h3, hbody]
        rfl
      · rw [if_pos h3] at h; cases h
    · rw [if_pos h2] at h; exact absurd h h2

/-- What is laid as a frame is read as that frame, whatever stands behind it. -/
theorem fr_back (kind : UInt8) (d r : List UInt8) (hd : d.length ≤ 2000) : frE (frLay kind d ++ r) = 0 ∧ frK (frLay kind d ++ r) = (frLay kind d).length ∧ frKind (frLay kind d ++ r) = kind ∧ frD (frLay kind d ++ r) = d := by
  have hl := lay_len d.length
  have e5 : (frLay kind d ++ r).drop 5 = lay d.length ++ (d ++ r) := by
    simp [frLay, le4, frBody]
  have e4 : (frLay kind d ++ r).drop 4 = frBody kind d ++ r := by simp [frLay, le4]
  have hr : rd (lay d.length ++ (d ++ r)) = (d.length, (lay d.length).length, 0) := rd_lay _ (by omega) _
  have hE : pcE (lay d.length ++ (d ++ r)) 2000 = 0 := by
    unfold pcE
    rw [hr]
    simp only
    rw [if_neg (by simp), if_neg (by omega), if_neg (by simp only [List.length_append]; omega)]
  have hK : pcK (lay d.length ++ (d ++ r)) 2000 = (lay d.length).length + d.length := by unfold pcK; rw [if_pos hE, hr]
  have hD : pcD (lay d.length ++ (d ++ r)) 2000 = d := by unfold pcD; rw [if_pos hE, hr]; simp
  have hb : (frBody kind d).length = 1 + ((lay d.length).length + d.length) := by simp [frBody]; omega
  have hln : (frLay kind d).length = 5 + ((lay d.length).length + d.length) := by simp [frLay, le4, hb]; omega
  have h0 : frE (frLay kind d ++ r) = 0 := by
    unfold frE
    rw [e5, e4, hE, hK, if_neg (by simp only [List.length_append]; omega), if_neg (by simp), if_neg]
    rw [← hb, List.take_left]
    have : rd4 (frLay kind d ++ r) = crc (frBody kind d) := by
      unfold frLay
      rw [List.append_assoc]
      exact rd4_le4 _ (crc_lt _) _
    rw [this]; simp
  refine ⟨h0, ?_, ?_, ?_⟩
  · unfold frK; rw [if_pos h0, e5, hK, hln]
  · unfold frKind; rw [if_pos h0]; simp [frLay, le4, frBody]
  · unfold frD; rw [if_pos h0, e5, hD]
end Go.Proofs.Ythjcdibblhcgpaa

/-
  DERIVED. The plain mathematics of the document's way to read a number.
-/
namespace Go.Proofs.Ythjcdibblhcgpaa

def valr : List UInt8 → Nat
  | [] => 0
  | c :: r => c.toNat % 128 + 128 * valr r
theorem valr_snoc : ∀ (p : List UInt8) (c : UInt8), valr (p ++ [c]) = valr p + c.toNat % 128 * 2 ^ (7 * p.length)
  | [], c => by simp [valr]
  | a :: p, c => by
    have e : 2 ^ (7 * (p.length + 1)) = 128 * 2 ^ (7 * p.length) := by rw [Nat.mul_add, Nat.pow_add]; omega
    rw [List.cons_append, valr, valr, valr_snoc p c, List.length_cons, e, Nat.mul_add, Nat.mul_left_comm]
    omega
theorem valr_lt : ∀ (p : List UInt8), valr p < 2 ^ (7 * p.length)
  | [] => by simp [valr]
  | a :: p => by
    have e : 2 ^ (7 * (p.length + 1)) = 128 * 2 ^ (7 * p.length) := by rw [Nat.mul_add, Nat.pow_add]; omega
    have h := valr_lt p
    have hm : a.toNat % 128 < 128 := Nat.mod_lt _ (by decide)
    simp only [valr, List.length_cons, e]
    omega

theorem layF_len_eq : ∀ (k f n : Nat), k ≤ f → n < 128 ^ (k + 1) → (k = 0 ∨ 128 ^ k ≤ n) → (layF f n).length = k + 1
  | 0, 0, n, _, _, _ => by simp [layF]
  | 0, f + 1, n, _, h, _ => by simp only [layF]; rw [if_pos (by simpa using h)]; rfl
  | k + 1, 0, n, h, _, _ => by omega
  | k + 1, f + 1, n, hk, h, h2 => by
    have h3 : 128 ^ (k + 1) ≤ n := by omega
    have h4 : 128 ^ k * 128 ≤ n := by rw [← Nat.pow_succ]; exact h3
    have h5 : 1 ≤ 128 ^ k := Nat.pow_pos (by decide)
    simp only [layF]
    rw [if_neg (by omega), List.length_cons, layF_len_eq k f (n / 128) (by omega) (by rw [Nat.pow_succ] at h; omega) (by right; omega)]
theorem layF_len_le : ∀ (k f n : Nat), n < 128 ^ (k + 1) → (layF f n).length ≤ k + 1
  | _, 0, n, _ => by simp [layF]
  | 0, f + 1, n, h => by simp only [layF]; rw [if_pos (by simpa using h)]; simp
  | k + 1, f + 1, n, h => by
    simp only [layF]
    split
    · simp
    · have := layF_len_le k f (n / 128) (by rw [Nat.pow_succ] at h; omega)
      simp only [List.length_cons]; omega

theorem take_snoc' (l : List UInt8) (k : Nat) (h : k < l.length) : l.take (k + 1) = l.take k ++ [l[k]] := List.take_succ_eq_append_getElem h

theorem pow7 (k : Nat) : 2 ^ (7 * k) = 128 ^ k := by rw [Nat.pow_mul]

/-- The document's way to read a number is that of rd. -/
theorem ref_uint (l : List UInt8) (k : Nat) (c : UInt8) (hk : k ≤ 9) (hl : k < l.length) (hc : c = l[k]) (h1 : c.toNat < 128) (h : rd l = rdGo k (valr (l.take k)) (l.drop k)) :
    ((lay (valr (l.take (k + 1)) % 18446744073709551616)).length ≠ k + 1 ∨ (k = 9 ∧ 1 < c.toNat) → rd l = (0, 0, 11)) ∧
    (¬ ((lay (valr (l.take (k + 1)) % 18446744073709551616)).length ≠ k + 1 ∨ (k = 9 ∧ 1 < c.toNat)) → rd l = (valr (l.take (k + 1)) % 18446744073709551616, k + 1, 0)) := by
  have hlt : (l.take k).length = k := by simp; omega
  have ev : valr (l.take (k + 1)) = valr (l.take k) + c.toNat * 2 ^ (7 * k) := by
    rw [take_snoc' l k hl, ← hc, valr_snoc, hlt, Nat.mod_eq_of_lt h1]
  have hv := valr_lt (l.take k)
  rw [hlt] at hv
  rw [List.drop_eq_getElem_cons hl, ← hc, rdGo, if_neg (by omega), if_neg (by omega)] at h
  generalize valr (l.take k) = x at *
  generalize hV : valr (l.take (k + 1)) = V at *
  by_cases h9 : k = 9 ∧ 1 < c.toNat
  · rw [if_pos (.inr h9)] at h
    exact ⟨fun _ => h, fun h' => absurd (.inr h9) h'⟩
  · have hVb : V < 18446744073709551616 := by
      by_cases hk9 : k = 9
      · subst hk9
        have : c.toNat * 2 ^ (7 * 9) ≤ 1 * 2 ^ (7 * 9) := Nat.mul_le_mul_right _ (by omega)
        omega
      · have hp : 2 ^ (7 * k) ≤ 2 ^ 56 := Nat.pow_le_pow_right (by decide) (by omega)
        have : c.toNat * 2 ^ (7 * k) ≤ 127 * 2 ^ 56 := Nat.mul_le_mul (by omega) hp
        omega
    rw [Nat.mod_eq_of_lt hVb]
    by_cases h0 : 0 < k ∧ c.toNat = 0
    · rw [if_pos (.inl h0)] at h
      refine ⟨fun _ => h, fun h' => absurd (.inl ?_) h'⟩
      obtain ⟨j, rfl⟩ : ∃ j, k = j + 1 := ⟨k - 1, by omega⟩
      have : V < 128 ^ (j + 1) := by rw [← pow7, ev, h0.2]; simpa using hv
      have := layF_len_le j 9 V this
      show (layF 9 V).length ≠ _
      omega
    · rw [if_neg (by omega)] at h
      have hb : V < 128 ^ (k + 1) := by
        rw [← pow7, Nat.mul_add, Nat.pow_add, ev]
        have : c.toNat * 2 ^ (7 * k) ≤ 127 * 2 ^ (7 * k) := Nat.mul_le_mul_right _ (by omega)
        omega
      have hll : (lay V).length = k + 1 := layF_len_eq k 9 V hk hb (by
        by_cases hk0 : k = 0
        · exact .inl hk0
        · right
          rw [← pow7, ev]
          have : 1 * 2 ^ (7 * k) ≤ c.toNat * 2 ^ (7 * k) := Nat.mul_le_mul_right _ (by omega)
          omega)
      refine ⟨fun h' => ?_, fun _ => by rw [h, ev]⟩
      rcases h' with h' | h'
      · exact absurd hll h'
      · exact absurd h' h9
theorem valr_drop (l : List UInt8) (n i : Nat) (hi : i < n) (hn : n ≤ l.length) : valr ((l.take n).drop i) = (l[i]'(by omega)).toNat % 128 + 128 * valr ((l.take n).drop (i + 1)) := by
  rw [List.drop_eq_getElem_cons (by simp; omega), valr]
  simp
end Go.Proofs.Ythjcdibblhcgpaa

/-
  DERIVED. The document's Uint.
-/
namespace Go.Proofs.Ythjcdibblhcgpaa
open Go.RowKit
set_option linter.unusedVariables false

theorem rd_next' {l : List UInt8} {k : Nat} {c : UInt8} (hk : k < 10) (hl : k < l.length) (hc : c = l[k]) (h : rd l = rdGo k (valr (l.take k)) (l.drop k)) (h1 : 128 ≤ c.toNat) : rd l = rdGo (k + 1) (valr (l.take (k + 1))) (l.drop (k + 1)) := by
  have := rd_next hk hl hc h h1
  rw [take_snoc' l k hl, valr_snoc, ← hc]
  have e : (l.take k).length = k := by simp; omega
  rw [e]
  exact this

theorem val_step (V : Nat) (c : Nat) : (((V % 18446744073709551616 : Nat) : Int) * 128 % 18446744073709551616 + ((c : Int) % 128) % 18446744073709551616) % 18446744073709551616 = (((c % 128 + 128 * V) % 18446744073709551616 : Nat) : Int) := by omega

set_option maxHeartbeats 4000000 in
set_option maxRecDepth 100000 in
theorem rUint_some (b off cap : Nat) (l : List UInt8) (w : World) (_h1 : l.length ≤ cap) (_h2 : cap ≤ 9223372036854775807) (hb : b < w.heap.size)
    (hc : ∀ i, (h : i < l.length) → w.cell? ⟨b, off + i, none⟩ = some (bv l[i])) :
    Calls Try.prog 43 #[.slice (some ⟨b, off, none⟩) l.length cap] w fun e w' => e = .returned (.tuple #[.int .u64 (rd l).1, .int .i64 (rd l).2.1, .int .i64 (rd l).2.2]) ∧ Below w.heap.size w w' := by
  go_enter Try.func43, Try.ntmps43
  go_wp2
  go_loop [5] (fun i => ∃ k : Nat, k ≤ 10 ∧ k ≤ l.length ∧ i = .int .i64 k ∧ Hid (rd l = rdGo k (valr (l.take k)) (l.drop k))) (fun i => 10 - (intOf i).toNat)
  case atStart => exact ⟨0, by omega, by omega, rfl, hide rfl⟩
  case round =>
    obtain ⟨k, hk1, hk2, rfl, HR⟩ := hrel
    by_cases hk : k < 10 ∧ k < l.length
    · obtain ⟨hk3, hk4⟩ := hk
      have hcx := hc k hk4
      obtain ⟨c, hcc⟩ : ∃ c, c = l[k] := ⟨_, rfl⟩
      rw [← hcc] at hcx
      have Hcc := hide hcc
      have HC := hide hc
      clear hcc hc
      by_cases hA : 128 ≤ c.toNat
      · go_wp2
        go_round
        case rel => exact ⟨k + 1, by omega, by omega, by go_num, hide (rd_next' hk3 hk4 (unhide Hcc) (unhide HR) hA)⟩
        case measure => simp [intOf]; omega
      · have h10 : ((k : Int) == 10) = false := beq_eq_false_iff_ne.2 (by omega)
        have hln : ((k : Int) == (l.length : Int)) = false := beq_eq_false_iff_ne.2 (by omega)
        go_wp2
        go_loop [6, 7] (fun n i => ∃ j : Nat, j ≤ k + 1 ∧ i = .int .i64 ((j : Int) - 1) ∧ n = .int .u64 (valr ((l.take (k + 1)).drop j) % 18446744073709551616 : Nat)) (fun _ i => (intOf i + 1).toNat)
        case atStart => exact ⟨k + 1, by omega, by go_num, by simp [valr]⟩
        case round =>
          obtain ⟨j, hj, rfl, rfl⟩ := hrel
          by_cases hj0 : 1 ≤ j
          · have hjl : j - 1 < l.length := by omega
            have hcj := unhide HC (j - 1) hjl
            have hvd := valr_drop l (k + 1) (j - 1) (by omega) (by omega)
            rw [show j - 1 + 1 = j by omega] at hvd
            obtain ⟨d, hdd⟩ : ∃ d, d = l[j - 1] := ⟨_, rfl⟩
            rw [← hdd] at hcj hvd
            obtain ⟨V, hV⟩ : ∃ V, V = valr ((l.take (k + 1)).drop j) := ⟨_, rfl⟩
            rw [← hV] at hvd ⊢
            have HV := hide hvd
            have hst := val_step V d.toNat
            have HS := hide hst
            clear hvd hV hdd hst
            have hd8 := d.toNat_lt
            clear hcx
            go_wp2
            go_round
            case rel =>
              refine ⟨j - 1, by omega, by go_num, ?_⟩
              rw [unhide HV]
              show Value.int .u64 _ = Value.int .u64 _
              congr 1
              clear HS HV
              (try simp only [IntKind.wrap_u64])
              omega
            case measure => simp [intOf]; omega
          · obtain rfl : j = 0 := by omega
            rw [List.drop_zero]
            have hru := ref_uint l k c (by omega) hk4 (unhide Hcc) (by omega) (unhide HR)
            obtain ⟨N, hN⟩ : ∃ N, N = valr (l.take (k + 1)) % 18446744073709551616 := ⟨_, rfl⟩
            rw [← hN] at hru ⊢
            have hNlt : N ≤ 18446744073709551615 := by omega
            have HRU := hide hru
            clear hru hN
            go_wp2_with fail
            refine (rPutUint_at _ N _ hNlt rfl).mono ?_
            rintro e w1 ⟨v1, rfl, own1, b1⟩
            obtain ⟨ao, cp, rfl, q1, q2, q4⟩ := own1.sl
            have hll := lay_len N
            obtain ⟨m, hm⟩ : ∃ m, m = (lay N).length := ⟨_, rfl⟩
            have HRU2 := unhide HRU
            rw [← hm] at hll q1 HRU2 ⊢
            have HF := hide HRU2
            have cx1 := (b1.cell (p := ⟨b, off + k, none⟩) (by show b < w.heap.size; exact hb)).trans hcx
            have HB := hide b1
            clear own1 b1 q4 hm HRU2 hcx HRU HR q2
            by_cases hmk : m = k + 1
            · subst hmk
              by_cases hk9 : k = 9
              · subst hk9
                by_cases hc1 : 1 < c.toNat
                · have HE := hide ((unhide HF).1 (.inr ⟨rfl, hc1⟩))
                  go_wp2
                  go_ret3
                  rw [unhide HE]
                  exact ⟨rfl, unhide HB⟩
                · have HE := hide ((unhide HF).2 (by omega))
                  go_wp2
                  go_ret3
                  rw [unhide HE]
                  exact ⟨rfl, unhide HB⟩
              · have HE := hide ((unhide HF).2 (by omega))
                have h9 : ((k : Int) == 9) = false := beq_eq_false_iff_ne.2 (by omega)
                have hkk : (((k + 1 : Nat) : Int) != (k : Int) + 1) = false := by simp
                go_wp2
                go_ret3
                rw [unhide HE]
                exact ⟨ret3 rfl (by show _ = ((k + 1 : Nat) : Int); omega) rfl, unhide HB⟩
            · have HE := hide ((unhide HF).1 (.inl hmk))
              have hkk : ((m : Int) != (k : Int) + 1) = true := by rw [bne_iff_ne]; omega
              clear hmk
              go_wp2
              go_ret3
              rw [unhide HE]
              exact ⟨rfl, unhide HB⟩
    · have HF := hide (rd_end (unhide HR) hk hk1 hk2)
      by_cases hk10 : k = 10
      · subst hk10
        go_wp2
        all_goals
          go_ret3
          rw [unhide HF]
          exact ⟨ret3 rfl rfl (by show _ = ((if l.length < 10 then 10 else 11 : Nat) : Int); rw [if_neg (by omega)]; rfl), Below.refl _ _⟩
      · obtain rfl : k = l.length := by omega
        have h10 : ((l.length : Int) == 10) = false := beq_eq_false_iff_ne.2 (by omega)
        go_wp2
        all_goals
          go_ret3
          rw [unhide HF]
          exact ⟨ret3 rfl rfl (by show _ = ((if l.length < 10 then 10 else 11 : Nat) : Int); rw [if_pos (by omega)]; rfl), Below.refl _ _⟩

theorem rUint_any (v : Value) (l : List UInt8) (w : World) (hv : Sl w v l) :
    Calls Try.prog 43 #[v] w fun e w' => e = .returned (.tuple #[.int .u64 (rd l).1, .int .i64 (rd l).2.1, .int .i64 (rd l).2.2]) ∧ Below w.heap.size w w' := by
  rcases hv.cases with ⟨rfl, ao, rfl⟩ | ⟨b, off, cap, rfl, h1, h2, h3, hc⟩
  rotate_left
  · exact rUint_some b off cap l w h1 h2 h3 hc
  · go_enter Try.func43, Try.ntmps43
    go_wp2
    refine wp_loop_rounds 1 ?_
    rw [rounds_succ]
    go_wp2
    go_ret3
    exact ⟨rfl, Below.refl _ _⟩
end Go.Proofs.Ythjcdibblhcgpaa

/-
  DERIVED. parts, bytes.Equal, bytes.HasPrefix.
-/
namespace Go.Proofs.Ythjcdibblhcgpaa
open Go.RowKit
set_option linter.unusedVariables false

def pairs : List Nat → List (Nat × Nat)
  | a :: b :: r => (a, b) :: pairs r
  | _ => []
theorem pairs_step : ∀ (xs : List Nat) (k : Nat), 2 * k + 1 < xs.length → pairs (xs.take (2 * (k + 1))) = pairs (xs.take (2 * k)) ++ [(xs.getD (2 * k) 0, xs.getD (2 * k + 1) 0)]
  | [], k, h => by simp at h
  | [a], k, h => by simp at h
  | a :: b :: r, 0, h => by simp [pairs]
  | a :: b :: r, k + 1, h => by
    have h' : 2 * k + 1 < r.length := by simp at h; omega
    have ih := pairs_step r k h'
    rw [show 2 * (k + 1 + 1) = 2 * (k + 1) + 1 + 1 by omega, List.take_succ_cons, List.take_succ_cons, show 2 * (k + 1) = 2 * k + 1 + 1 by omega, List.take_succ_cons, List.take_succ_cons, show 2 * k + 1 + 1 = 2 * (k + 1) by omega]
    simp only [pairs]
    rw [ih, List.cons_append]
    congr 3
theorem pairs_len : ∀ (n : Nat) (xs : List Nat), xs.length = 2 * n → (pairs xs).length = n
  | 0, xs, h => by
    have e : xs = [] := List.eq_nil_of_length_eq_zero (by omega)
    subst e
    rfl
  | n + 1, xs, h => by
    match xs, h with
    | a :: b :: r, h =>
      have := pairs_len n r (by simp at h; omega)
      simp [pairs, this]
    | [a], h => simp at h; omega
    | [], h => simp at h
theorem pairs_mem : ∀ (xs : List Nat), (∀ x ∈ xs, x ≤ 32768) → ∀ y ∈ pairs xs, y.1 ≤ 32768 ∧ y.2 ≤ 32768
  | [], _, y, hy => by cases hy
  | [a], _, y, hy => by cases hy
  | a :: b :: r, h, y, hy => by
    rcases List.mem_cons.1 hy with rfl | hy
    · exact ⟨h _ (by simp), h _ (by simp)⟩
    · exact pairs_mem r (fun x hx => h x (by simp [hx])) y hy

/-- A size and runs off bytes, and what is behind them. -/
def prt (l : List UInt8) : Option (Nat × List (Nat × Nat) × List UInt8) :=
  match nums 2 l with
  | none => none
  | some (hd, r) => (nums (2 * hd.getD 1 0) r).map fun p => (hd.getD 0 0, pairs p.1, p.2)
theorem prt_facts {l : List UInt8} {a : Nat} {X : List (Nat × Nat)} {r : List UInt8} (h : prt l = some (a, X, r)) : a ≤ 32768 ∧ X.length ≤ 32768 ∧ ∀ y ∈ X, y.1 ≤ 32768 ∧ y.2 ≤ 32768 := by
  unfold prt at h
  cases h2 : nums 2 l with
  | none => rw [h2] at h; cases h
  | some p =>
    rw [h2] at h
    obtain ⟨hd, r0⟩ := p
    simp only at h
    obtain ⟨p, hp, e⟩ := Option.map_eq_some_iff.1 h
    obtain ⟨xs, r2⟩ := p
    simp only [Prod.mk.injEq] at e
    obtain ⟨rfl, rfl, rfl⟩ := e
    obtain ⟨l1, m1⟩ := nums_len _ _ _ _ h2
    obtain ⟨l2, m2⟩ := nums_len _ _ _ _ hp
    match hd, l1 with
    | [x, y], _ =>
      refine ⟨m1 x (by simp), ?_, pairs_mem xs m2⟩
      rw [pairs_len y xs (by simpa using l2)]
      exact m1 y (by simp)

def PrtPost (w : World) (l : List UInt8) (e : Ending) (w' : World) : Prop :=
  w.grownBy w' none ∧ ((prt l = none ∧ ∃ (z : Int) (vx : Value), e = .returned (.tuple #[.int .i64 z, vx, .bool false])) ∨ ∃ a X r vx, prt l = some (a, X, r) ∧ e = .returned (.tuple #[.int .i64 (a : Int), vx, .bool true]) ∧ ROwn w' w.heap.size vx X)

set_option maxRecDepth 20000 in
set_option maxHeartbeats 4000000 in
theorem parts_any (w : World) (v : Value) (l : List UInt8) (hv : Sl w v l) : Calls Try.prog 25 #[v] w (PrtPost w l) := by
  have HV := hide hv
  clear hv
  have e2 : ((2 : Nat) : Int) = 2 := rfl
  go_enter Try.func25, Try.ntmps25
  go_wp2_with fail
  refine (numbers_any w v l 2 (unhide HV) (by omega)).mono ?_
  rintro e w1 ⟨g1, h1⟩
  have G1 := hide g1
  rcases h1 with ⟨h1, rfl⟩ | ⟨hd, r, vx, vr, h1, rfl, o1, s1⟩
  · have HNo : Hid (prt l = none) := hide (by unfold prt; rw [h1])
    clear g1 h1
    go_wp2
    go_ret3
    exact ⟨unhide G1, .inl ⟨unhide HNo, _, _, rfl⟩⟩
  · obtain ⟨hl2, hm2⟩ := nums_len _ _ _ _ h1
    have H1 := hide h1
    match hd, hl2 with
    | [a, m], _ =>
      have ha : a ≤ 32768 := hm2 a (by simp)
      have hm : m ≤ 32768 := hm2 m (by simp)
      have hmI : (m : Int) ≤ 32768 := by omega
      obtain ⟨ao, cap, rfl, hc1, hc2, h4⟩ := o1.form
      obtain ⟨g, rfl, hgl, hcell⟩ := h4 (by simp)
      have HC0 := hide (hcell 0 (by simp))
      have HC1 := hide (hcell 1 (by simp))
      have c1 := hcell 1 (by simp)
      simp only [List.length_cons, List.length_nil, Nat.zero_add, Nat.reduceAdd, List.getElem_cons_succ, List.getElem_cons_zero] at c1 HC0 HC1 hc1 ⊢
      have S1 := hide s1
      clear g1 o1 s1 h4 hcell hm2 h1 e2
      go_wp2_with fail
      refine (show Calls Try.prog 41 #[vr, .int .i64 (2 * (m : Int))] w1 _ from ?_)
      have := numbers_any w1 vr r (2 * m) (unhide S1) (by omega)
      rw [show (((2 * m : Nat)) : Int) = 2 * (m : Int) by omega] at this
      refine this.mono ?_
      clear this c1
      rintro e w2 ⟨g2, h2⟩
      have G2 : Hid (w.grownBy w2 none) := hide ((unhide G1).trans g2)
      have d0 := g2.cell (unhide HC0) (by simp)
      have SZ := hide (unhide G1).size
      rcases h2 with ⟨h2, rfl⟩ | ⟨xs, r2, vy, vr2, h2, rfl, o2, s2⟩
      · have HNo : Hid (prt l = none) := hide (by unfold prt; rw [unhide H1]; simp only; rw [show 2 * [a, m].getD 1 0 = 2 * m from rfl, h2]; rfl)
        clear g2 h2
        go_wp2
        go_loopw [10, 11] (fun x i wr => i = .int .i64 0 ∧ x = .slice none 0 0 ∧ wr = w2) (fun _ i _ => 0)
        case atStart => exact ⟨rfl, rfl, rfl⟩
        case round =>
          obtain ⟨rfl, rfl, rfl⟩ := hrel
          go_wp2
          go_ret3
          exact ⟨unhide G2, .inl ⟨unhide HNo, _, _, rfl⟩⟩
      · have HYes : Hid (prt l = some (a, pairs xs, r2)) := hide (by unfold prt; rw [unhide H1]; simp only; rw [show 2 * [a, m].getD 1 0 = 2 * m from rfl, h2]; rfl)
        obtain ⟨hl3, hm3⟩ := nums_len _ _ _ _ h2
        obtain ⟨bo, bcap, rfl, hb1, hb2, hb4⟩ := o2.form
        have O2 := hide o2
        obtain ⟨n, hn⟩ : ∃ n, n = xs.length := ⟨_, rfl⟩
        rw [← hn] at hb1 hl3 O2 ⊢
        have HNn := hide hn
        have hnI : (n : Int) ≤ 65536 := by omega
        have hnm : n = 2 * m := hl3
        have HNm := hide hnm
        clear hn g2 h2 o2 s2 hb4 hl3 hnm
        go_wp2
        go_loopw [10, 11] (fun x i wr => ∃ k : Nat, i = .int .i64 ((2 * k : Nat) : Int) ∧ k ≤ m ∧ ROwn wr w2.heap.size x (pairs (xs.take (2 * k))) ∧ w2.grownBy wr none) (fun _ i _ => n - (intOf i).toNat)
        case atStart => exact ⟨0, rfl, by omega, by simpa [pairs] using ROwn.nil w2 w2.heap.size, World.grownBy.refl _ _⟩
        case round =>
          obtain ⟨k, rfl, hk, hR, hG⟩ := hrel
          have HR := hide hR
          have HGi := hide hG
          obtain ⟨i, hi⟩ : ∃ i, i = 2 * k := ⟨_, rfl⟩
          rw [← hi] at HR ⊢
          have HIk := hide hi
          have hiI : (i : Int) ≤ 65536 := by omega
          clear hR hG
          by_cases hlt : k < m
          · have hlt' : (i : Int) < (n : Int) := by have := unhide HNm; omega
            have hlt2 : (i : Int) + 1 < (n : Int) := by have := unhide HNm; omega
            have hk1 : i + 1 < xs.length := by have := unhide HNm; have := unhide HNn; omega
            have hpl : (pairs (xs.take i)).length ≤ 65536 := by rw [pairs_len k _ (by rw [List.length_take]; omega)]; omega
            obtain ⟨ao', cap', e, _, _, h4⟩ := ((unhide O2).grown (unhide HGi)).form
            injection e with e1 e2 e3
            obtain ⟨g2, hbo, hg2l, hcell⟩ := h4 (by omega)
            rw [← e1] at hbo
            subst hbo
            have d1 := hcell i (by omega)
            have d2 := hcell (i + 1) hk1
            have HPs : Hid (pairs (xs.take (2 * (k + 1))) = pairs (xs.take i) ++ [(xs[i], xs[i + 1])]) := hide (by
              have h := pairs_step xs k (by omega)
              rw [← hi] at h
              rw [h]
              simp [List.getD_eq_getElem?_getD, List.getElem?_eq_getElem hk1, List.getElem?_eq_getElem (show i < xs.length by omega)])
            have hy1 := hm3 xs[i] (List.getElem_mem _)
            have hy2 := hm3 xs[i + 1] (List.getElem_mem _)
            obtain ⟨y1, hy1e⟩ : ∃ y, y = xs[i] := ⟨_, rfl⟩
            obtain ⟨y2, hy2e⟩ : ∃ y, y = xs[i + 1] := ⟨_, rfl⟩
            rw [← hy1e] at d1 HPs hy1
            rw [← hy2e] at d2 HPs hy2
            clear e1 e2 e3 h4 hcell hy1e hy2e hi
            have HSz : Hid (w2.heap.size ≤ wr.heap.size) := hide (unhide HGi).size
            have hyI1 : (y1 : Int) ≤ 32768 := by omega
            have hwi : IntKind.i64.wrap ((i : Int) + 1) = (i : Int) + 1 := by rw [IntKind.wrap_i64]; omega
            have hi0 : (0 : Int) ≤ (i : Int) + 1 := by omega
            have hyI2 : (y2 : Int) ≤ 32768 := by omega
            go_wp2_with fail
            go_region_law (first | (refine step_append_run rfl (.tmp 36) (.tmp 47) rfl w2.heap.size u10 (pairs (xs.take i)) rfl ?own hpl ?hb ⟨_, 0, none⟩ 1 (y1, y2) rfl ?hy ?_; (case own => (first | exact (unhide HR).grown (gr_da _ _) | exact (unhide HR).grown (gr_ad _ _))); (case hb => (have h7 := unhide HSz; simp; omega)); (case hy => (first | exact one_cells _ _ _ | exact one_cells (wr.drew) _ _)); intro v3 w3 o3 g3; have R3 : Hid (ROwn w3 w2.heap.size v3 (pairs (xs.take (2 * (k + 1))))) := hide (by rw [unhide HPs]; exact o3); have G3 : Hid (w2.grownBy w3 none) := hide (by first | exact ((unhide HGi).trans (gr_ad _ _)).andThen g3 (fun q e => .inl ((unhide HR).row e).1) | exact ((unhide HGi).trans (gr_da _ _)).andThen g3 (fun q e => .inl ((unhide HR).row e).1)); clear o3 g3))
            all_goals
              go_wp2
              go_roundw
              case rel => exact ⟨k + 1, by have := unhide HIk; congr 1; omega, by omega, unhide R3, unhide G3⟩
              case measure => simp [intOf]; omega
          · have hlt' : ¬ (i : Int) < (n : Int) := by have := unhide HNm; omega
            have HF : Hid (ROwn wr w.heap.size u10 (pairs xs)) := hide (by
              have h := (unhide HR).mono (unhide G2).size
              rw [List.take_of_length_le (by have := unhide HNm; have := unhide HNn; omega)] at h
              exact h)
            clear hi
            have d3 := (unhide HGi).cell d0 (by simp)
            go_wp2
            go_ret3
            exact ⟨(unhide G2).trans (unhide HGi), .inr ⟨a, pairs xs, r2, _, unhide HYes, rfl, unhide HF⟩⟩
end Go.Proofs.Ythjcdibblhcgpaa

/-
  DERIVED. bytes.Equal, bytes.HasPrefix, Extend that is refused, Read.
-/
namespace Go.Proofs.Ythjcdibblhcgpaa
open Go.RowKit
set_option linter.unusedVariables false

theorem list_beq (l m : List UInt8) : (l == m) = decide (l = m) := by
  by_cases h : l = m
  · rw [decide_eq_true h]
    exact beq_iff_eq.2 h
  · rw [decide_eq_false h]
    exact beq_eq_false_iff_ne.2 h
theorem Equal_any (w : World) (v u : Value) (l m : List UInt8) (hv : Sl w v l) (hu : Sl w u m) :
    Calls Try.prog 42 #[v, u] w fun e w' => e = .returned (.bool (decide (l = m))) ∧ w' = w := by
  have s1 := hv.str
  have s2 := hu.str
  have HE := hide (list_beq l m)
  clear hv hu
  go_enter Try.func42, Try.ntmps42
  go_wp2
  go_ret
  rw [← unhide HE]
  exact ⟨rfl, rfl⟩
theorem HasPrefix_any (w : World) (v u : Value) (l m : List UInt8) (hv : Sl w v l) (hu : Sl w u m) :
    Calls Try.prog 26 #[v, u] w fun e w' => e = .returned (.bool (decide (l.take m.length = m))) ∧ w' = w := by
  have HV := hide hv
  have HU := hide hu
  obtain ⟨ao, cap, rfl, h1, h2, h4⟩ := hv
  obtain ⟨bo, bap, rfl, k1, k2, k4⟩ := hu
  unfold maxLen at h2 k2
  have hl1 : (l.length : Int) ≤ (cap : Int) := by omega
  have hl2 : (cap : Int) ≤ 9223372036854775807 := by omega
  clear h4 k4
  by_cases hle : m.length ≤ l.length
  · have hle' : (m.length : Int) ≤ (l.length : Int) := by omega
    have HT : Hid (Sl w (.slice ao m.length cap) (l.take m.length)) := hide (by
      obtain ⟨ao', cap', e, a1, a2, a4⟩ := unhide HV
      injection e with e1 e2 e3
      subst e1 e3
      have hl : (l.take m.length).length = m.length := by rw [List.length_take]; omega
      refine ⟨ao, cap, by rw [hl], by rw [hl]; omega, a2, fun hne => ?_⟩
      obtain ⟨b, off, e, hb, hc⟩ := a4 hne
      exact ⟨b, off, e, hb, fun i hi => by rw [List.getElem_take]; exact hc i (by rw [hl] at hi; omega)⟩)
    go_enter Try.func26, Try.ntmps26
    go_wp2_with fail
    refine (Equal_any w _ _ (l.take m.length) m (unhide HT) (unhide HU)).mono ?_
    rintro e w1 ⟨rfl, rfl⟩
    go_wp2
    go_ret
    exact ⟨rfl, rfl⟩
  · have hle' : ¬ (m.length : Int) ≤ (l.length : Int) := by omega
    have HF : Hid (decide (l.take m.length = m) = false) := hide (decide_eq_false (fun e => by
      have := congrArg List.length e
      rw [List.length_take] at this
      omega))
    go_enter Try.func26, Try.ntmps26
    go_wp2
    go_ret
    rw [unhide HF]
    exact ⟨rfl, rfl⟩

theorem Extend_bad (w : World) (b n m : Nat) (v u : Value) (L : List Nat) (l : List (Int × Int)) (h : NdAt w b n v L) (hm : n + m ≤ 32768) (hu : Rn w u l) (hl : l.length ≤ 1125899906842624) (hno : ¬ okL l ((bf (n + m) - bf n : Nat) : Int)) :
    Calls Try.prog 10 #[.pointer (some ⟨b, 0, none⟩), .int .i64 (m : Int), u] w fun e w' => e = .returned (.int .i64 1) ∧ w.grownBy w' none := by
  have HM := hide h
  have HU := hide hu
  have HNo := hide (decide_eq_false hno)
  have hbl := bf_le hm
  clear h hu hno
  go_enter Try.func10, Try.ntmps10
  go_wp2_with fail
  refine (Need_ok w b n v L (unhide HM) m hm).mono ?_
  rintro e w1 ⟨rfl, rfl⟩
  obtain ⟨d, hd⟩ : ∃ d, d = bf (n + m) - bf n := ⟨_, rfl⟩
  rw [← hd] at HNo ⊢
  have hd64 : d ≤ 64 := by omega
  clear hd
  go_wp2_with fail
  refine (haveJust_any w1 u l d (unhide HU) (by omega) hl).mono ?_
  rintro e w2 ⟨rfl, g2⟩
  rw [unhide HNo]
  go_wp2
  go_ret
  exact ⟨rfl, g2⟩

/-- What Read reads: the size, the blocks, how many bytes. -/
def rdN (l : List UInt8) : Option (Nat × List Nat × Nat) :=
  match prt l with
  | none => none
  | some (a, X, _) => if okL (X.map toI) ((bf a : Nat) : Int) ∧ l.take (tellN a (bks X)).length = tellN a (bks X) then some (a, bks X, (tellN a (bks X)).length) else none
def ReadPost (w : World) (l : List UInt8) (e : Ending) (w' : World) : Prop :=
  w.grownBy w' none ∧ ((rdN l = none ∧ e = .returned (.tuple #[.pointer none, .int .i64 0, .int .i64 61])) ∨ ∃ a L n b v, rdN l = some (a, L, n) ∧ e = .returned (.tuple #[.pointer (some ⟨b, 0, none⟩), .int .i64 (n : Int), .int .i64 0]) ∧ w.heap.size ≤ b ∧ NdAt w' b a v L)

set_option maxRecDepth 20000 in
set_option maxHeartbeats 4000000 in
theorem Read_any (w : World) (v : Value) (l : List UInt8) (hv : Sl w v l) : Calls Try.prog 12 #[v] w (ReadPost w l) := by
  have HV := hide hv
  clear hv
  go_enter Try.func12, Try.ntmps12
  go_wp2_with fail
  refine (parts_any w v l (unhide HV)).mono ?_
  rintro e w1 ⟨g1, h1⟩
  have G1 := hide g1
  rcases h1 with ⟨h1, z, vx, rfl⟩ | ⟨a, X, r, vx, h1, rfl, o1⟩
  · have HNo : Hid (rdN l = none) := hide (by unfold rdN; rw [h1])
    clear g1 h1
    go_wp2_with fail
    refine (New_any w1).mono ?_
    rintro e w2 ⟨rfl, _, g2⟩
    have G2 : Hid (w.grownBy w2 none) := hide ((unhide G1).trans g2)
    clear g2
    go_wp2
    go_ret3
    exact ⟨unhide G2, .inl ⟨unhide HNo, rfl⟩⟩
  · obtain ⟨ha, hXl, hXm⟩ := prt_facts h1
    have H1 := hide h1
    have O1 := hide o1
    clear g1 h1 o1
    go_wp2_with fail
    refine (New_any w1).mono ?_
    rintro e w2 ⟨rfl, m2, g2⟩
    have SB : Hid (w.heap.size ≤ w1.heap.size) := hide (unhide G1).size
    obtain ⟨b, hb⟩ : ∃ b, b = w1.heap.size := ⟨_, rfl⟩
    rw [← hb] at m2 SB ⊢
    have M2 := hide m2
    have G2 : Hid (w.grownBy w2 none) := hide ((unhide G1).trans g2)
    have R2 : Hid (Rn w2 vx (X.map toI)) := hide (((unhide O1).grown g2).rn (fun x hx => by have := hXm x hx; omega))
    have HB0 : Hid (bf (0 + a) - bf 0 = bf a) := hide (by rw [Nat.zero_add]; unfold bf; omega)
    clear hb m2 g2 O1 hXm
    by_cases hok : okL (X.map toI) ((bf a : Nat) : Int)
    · obtain ⟨Y, hY, hY2, hYt⟩ := of_okL hok
      have hXY : X = Y := by
        have inj : ∀ (A B : List (Nat × Nat)), A.map toI = B.map toI → A = B := by
          intro A
          induction A with
          | nil => intro B h; cases B with
            | nil => rfl
            | cons _ _ => cases h
          | cons x A ih => intro B h; cases B with
            | nil => cases h
            | cons y B =>
              simp only [List.map_cons, List.cons.injEq, toI, Prod.mk.injEq] at h
              obtain ⟨⟨h1, h2⟩, h3⟩ := h
              rw [ih B h3]
              congr 1
              exact Prod.ext (by omega) (by omega)
        exact inj X Y hY
      subst hXY
      have HY2 := hide hY2
      have HOk := hide hok
      clear hok hY
      go_wp2_with fail
      refine (Extend_ok w2 b 0 a _ vx [] X (unhide M2) (by omega) (unhide R2) (unhide HY2) (by rw [hYt]; exact (unhide HB0).symm)).mono ?_
      rintro e w3 ⟨rfl, v3, m3, _, g3⟩
      rw [Nat.zero_add, List.nil_append] at m3
      have M3 := hide m3
      have G3 := hide (own_step (unhide G2) (unhide SB) g3)
      have hcl := m3.small.2
      clear m3 g3 M2 G2 R2
      go_wp2_with fail
      refine (Bytes_any w3 b a v3 (bks X) (unhide M3)).mono ?_
      rintro e w4 ⟨u4, rfl, o4, g4⟩
      have M4 := hide ((unhide M3).grown g4)
      have G4 : Hid (w.grownBy w4 none) := hide ((unhide G3).trans g4)
      have S4 := hide o4.sl
      obtain ⟨co, ccap, hu4, _, _, _⟩ := o4.sl
      clear o4 g4 M3 G3
      subst hu4
      have hTl : ((tellN a (bks X)).length : Int) ≤ 1400 := by have := tellN_len (n := a) hcl; omega
      go_wp2_with fail
      refine (HasPrefix_any w4 v _ l (tellN a (bks X)) ((unhide HV).kept (unhide G4)) (unhide S4)).mono ?_
      rintro e w5 ⟨rfl, rfl⟩
      by_cases hp : l.take (tellN a (bks X)).length = tellN a (bks X)
      · have hD : decide (l.take (tellN a (bks X)).length = tellN a (bks X)) = true := decide_eq_true hp
        have HYes : Hid (rdN l = some (a, bks X, (tellN a (bks X)).length)) := hide (by unfold rdN; rw [unhide H1]; simp only; rw [if_pos ⟨unhide HOk, hp⟩])
        rw [hD]
        clear hp hD
        go_wp2
        go_ret3
        exact ⟨unhide G4, .inr ⟨a, bks X, _, b, v3, unhide HYes, rfl, unhide SB, unhide M4⟩⟩
      · have hD : decide (l.take (tellN a (bks X)).length = tellN a (bks X)) = false := decide_eq_false hp
        have HNo : Hid (rdN l = none) := hide (by unfold rdN; rw [unhide H1]; simp only; rw [if_neg (fun h => hp h.2)])
        rw [hD]
        clear hp hD
        go_wp2
        go_ret3
        exact ⟨unhide G4, .inl ⟨unhide HNo, rfl⟩⟩
    · have HNo : Hid (rdN l = none) := hide (by unfold rdN; rw [unhide H1]; simp only; rw [if_neg (fun h => hok h.1)])
      have HOk := hide hok
      clear hok
      go_wp2_with fail
      refine (Extend_bad w2 b 0 a _ vx [] (X.map toI) (unhide M2) (by omega) (unhide R2) (by rw [List.length_map]; omega) (by rw [unhide HB0]; exact unhide HOk)).mono ?_
      rintro e w3 ⟨rfl, g3⟩
      have G3 : Hid (w.grownBy w3 none) := hide ((unhide G2).trans g3)
      clear g3
      go_wp2
      go_ret3
      exact ⟨unhide G3, .inl ⟨unhide HNo, rfl⟩⟩
end Go.Proofs.Ythjcdibblhcgpaa

/-
  DERIVED. What a node is told as is read as that node, plainly.
-/
namespace Go.Proofs.Ythjcdibblhcgpaa
open Go.RowKit
set_option linter.unusedVariables false

def layNs (xs : List Nat) : List UInt8 := xs.flatMap lay
theorem nums_lay : ∀ (xs : List Nat) (r : List UInt8), (∀ x ∈ xs, x ≤ 32768) → nums xs.length (layNs xs ++ r) = some (xs, r)
  | [], r, _ => by simp [nums, layNs]
  | x :: xs, r, h => by
    have hx := h x (List.mem_cons_self ..)
    have ih := nums_lay xs r fun y hy => h y (List.mem_cons_of_mem _ hy)
    have e : layNs (x :: xs) ++ r = lay x ++ (layNs xs ++ r) := by simp [layNs]
    have hrd := rd_lay x (by omega) (layNs xs ++ r)
    rw [e, List.length_cons, nums, hrd]
    simp only
    rw [if_pos ⟨by first | rfl | trivial, hx⟩, List.drop_left, ih]
    rfl
def flatX (X : List (Nat × Nat)) : List Nat := X.flatMap fun x => [x.1, x.2]
theorem flatX_cons (x : Nat × Nat) (X : List (Nat × Nat)) : flatX (x :: X) = x.1 :: x.2 :: flatX X := by simp [flatX]
theorem flatX_len : ∀ X : List (Nat × Nat), (flatX X).length = 2 * X.length
  | [] => rfl
  | x :: X => by rw [flatX_cons, List.length_cons, List.length_cons, flatX_len X, List.length_cons]; omega
theorem layNs_flat : ∀ X : List (Nat × Nat), layNs (flatX X) = layR X
  | [] => rfl
  | x :: X => by
    have ih := layNs_flat X
    unfold layNs at ih ⊢
    rw [flatX_cons, List.flatMap_cons, List.flatMap_cons, ih]
    simp [layR]
theorem pairs_flat : ∀ X : List (Nat × Nat), pairs (flatX X) = X
  | [] => rfl
  | x :: X => by rw [flatX_cons, pairs, pairs_flat X]
theorem flatX_mem {X : List (Nat × Nat)} (h : ∀ x ∈ X, x.1 + x.2 ≤ 512) : ∀ y ∈ flatX X, y ≤ 32768 := by
  intro y hy
  unfold flatX at hy
  rw [List.mem_flatMap] at hy
  obtain ⟨x, hx, hy⟩ := hy
  have := h x hx
  rcases List.mem_cons.1 hy with rfl | hy
  · omega
  · rcases List.mem_cons.1 hy with rfl | hy
    · omega
    · cases hy
theorem prt_tell (n : Nat) (L : List Nat) (r : List UInt8) (hn : n ≤ 32768) (hl : L.length = bf n) (hw : low L) : prt (tellN n L ++ r) = some (n, canon L, r) := by
  have hb := bf_le hn
  have hc := canon_len L
  have e : tellN n L ++ r = layNs [n, (canon L).length] ++ (layR (canon L) ++ r) := by simp [tellN, layNs]
  have h1 := nums_lay [n, (canon L).length] (layR (canon L) ++ r) (fun x hx => by
    rcases List.mem_cons.1 hx with rfl | hx
    · exact hn
    · rcases List.mem_cons.1 hx with rfl | hx
      · omega
      · cases hx)
  have h2 := nums_lay (flatX (canon L)) r (flatX_mem fun x hx => ((low_canon hw) x hx).2)
  rw [flatX_len, layNs_flat] at h2
  unfold prt
  rw [e]
  rw [show ([n, (canon L).length] : List Nat).length = 2 from rfl] at h1
  rw [h1]
  simp only
  rw [show 2 * [n, (canon L).length].getD 1 0 = 2 * (canon L).length from rfl, h2]
  simp [pairs_flat]
theorem rdN_tell (n : Nat) (L : List Nat) (r : List UInt8) (hn : n ≤ 32768) (hl : L.length = bf n) (hw : low L) : rdN (tellN n L ++ r) = some (n, L, (tellN n L).length) := by
  unfold rdN
  rw [prt_tell n L r hn hl hw]
  simp only
  rw [bks_canon, if_pos ⟨okL_of _ (fun y hy => low_canon hw y hy) _ (by rw [tot_canon, hl]), List.take_left⟩]
end Go.Proofs.Ythjcdibblhcgpaa

/-
  DERIVED. The document's Cursor.Number and Read.
-/
namespace Go.Proofs.Ythjcdibblhcgpaa
open Go.RowKit
set_option linter.unusedVariables false

/-- A cursor that was laid since w0, over bytes that lay there then. -/
structure CuAt (w0 w : World) (b : Nat) (v : Value) (bad : Bool) (l : List UInt8) : Prop where
  blk : w.heap[b]? = some (.cells #[v, .bool bad] 70 (0, 0))
  sl : Sl w0 v l
  new : w0.heap.size ≤ b
  grown : w0.grownBy w none
theorem CuAt.bytes {w0 w : World} {b : Nat} {v : Value} {bad : Bool} {l : List UInt8} (h : CuAt w0 w b v bad l) : w.cell? ⟨b, 0, none⟩ = some v := (cell_of_row _ _ _ _ _ _ h.blk).trans rfl
theorem CuAt.flag {w0 w : World} {b : Nat} {v : Value} {bad : Bool} {l : List UInt8} (h : CuAt w0 w b v bad l) : w.cell? ⟨b, 1, none⟩ = some (.bool bad) := (cell_of_row _ _ _ _ _ _ h.blk).trans rfl
theorem CuAt.frozen {w0 w : World} {b : Nat} {v : Value} {bad : Bool} {l : List UInt8} (h : CuAt w0 w b v bad l) (i : Nat) : w.frozen? ⟨b, i, none⟩ = false := by simp [World.frozen?, h.blk]
theorem CuAt.lt {w0 w : World} {b : Nat} {v : Value} {bad : Bool} {l : List UInt8} (h : CuAt w0 w b v bad l) : b < w.heap.size := lt_of_block h.blk
theorem CuAt.kept {w0 w w' : World} {b : Nat} {v : Value} {bad : Bool} {l : List UInt8} (h : CuAt w0 w b v bad l) (hg : w.grownBy w' none) : CuAt w0 w' b v bad l := ⟨(hg.block b h.lt (by simp)).trans h.blk, h.sl, h.new, h.grown.trans hg⟩

def NumR (w0 w : World) (b : Nat) (v : Value) (bad : Bool) (l : List UInt8) (e : Ending) (w' : World) : Prop :=
  w.grownBy w' (some b) ∧ (((rd l).2.2 = 0 ∧ (rd l).1 ≤ 32768 ∧ e = .returned (.int .i64 ((rd l).1 : Int)) ∧ ∃ v', CuAt w0 w' b v' bad (l.drop (rd l).2.1)) ∨ (¬ ((rd l).2.2 = 0 ∧ (rd l).1 ≤ 32768) ∧ ∃ z : Nat, z ≤ 32768 ∧ e = .returned (.int .i64 (z : Int)) ∧ CuAt w0 w' b v true l))

set_option maxRecDepth 20000 in
set_option maxHeartbeats 4000000 in
theorem rNumber_any (w0 w : World) (b : Nat) (v : Value) (bad : Bool) (l : List UInt8) (h : CuAt w0 w b v bad l) :
    Calls Try.prog 28 #[.pointer (some ⟨b, 0, none⟩), .int .u64 32768] w (NumR w0 w b v bad l) := by
  have HC := hide h
  have c0 := h.bytes
  clear h
  have hrf := rd_facts l
  go_enter Try.func28, Try.ntmps28
  go_wp2_with fail
  refine (rUint_any v l w ((unhide HC).sl.kept (unhide HC).grown)).mono ?_
  rintro e w1 ⟨rfl, b1⟩
  have C1 := hide ((unhide HC).kept (grown_of_below b1))
  have G1 := hide (grown_of_below b1)
  have d0 := (unhide C1).bytes
  have d1 := (unhide C1).flag
  have fz := (unhide C1).frozen
  have HP : Hid (NumR w0 w b v bad l = fun e w' => w.grownBy w' (some b) ∧ (((rd l).2.2 = 0 ∧ (rd l).1 ≤ 32768 ∧ e = .returned (.int .i64 ((rd l).1 : Int)) ∧ ∃ v', CuAt w0 w' b v' bad (l.drop (rd l).2.1)) ∨ (¬ ((rd l).2.2 = 0 ∧ (rd l).1 ≤ 32768) ∧ ∃ z : Nat, z ≤ 32768 ∧ e = .returned (.int .i64 (z : Int)) ∧ CuAt w0 w' b v true l))) := hide rfl
  clear b1 c0
  obtain ⟨⟨N, K, E⟩, hrd⟩ : ∃ t, t = rd l := ⟨_, rfl⟩
  rw [← hrd] at hrf HP ⊢
  simp only at hrf HP ⊢
  clear hrd
  by_cases hok : E = 0 ∧ N ≤ 32768
  · obtain ⟨hE, hN32⟩ := hok
    subst hE
    have hKl : K ≤ l.length := by omega
    have hk0 : ¬ K = 0 := by omega
    have hNI : (N : Int) ≤ 32768 := by omega
    have hwr : IntKind.i64.wrap (N : Int) = (N : Int) := by rw [IntKind.wrap_i64]; omega
    obtain ⟨ao, cap, hv, hr1, hr2, hr4⟩ := (unhide HC).sl
    clear hr4
    unfold maxLen at hr2
    have HSd : Hid (∀ (A : Option Addr) (m c2 : Nat), m = l.length - K → c2 = cap - K → (A = ao.map (fun x => x.add K) ∨ c2 = 0) → Sl w0 (.slice A m c2) (l.drop K)) := hide (by
      rintro A m c2 rfl rfl hA
      obtain ⟨ao', cap', e, h1, h2, h4⟩ := (unhide HC).sl
      rw [hv] at e
      injection e with e1 e2 e3
      subst e1 e3
      refine ⟨A, cap - K, by rw [List.length_drop], by rw [List.length_drop]; omega, by omega, fun hne => ?_⟩
      obtain ⟨b', off, rfl, hb, hcc⟩ := h4 (by omega)
      rcases hA with rfl | h0
      · refine ⟨b', off + K, by simp [addr_add], hb, fun i hi => ?_⟩
        rw [List.length_drop] at hi
        rw [List.getElem_drop, Nat.add_assoc]
        exact hcc (K + i) (by omega)
      · omega)
    have fin : ∀ v', Sl w0 v' (l.drop K) → NumR w0 w b v bad l (.returned (.int .i64 (N : Int))) (w1.setCell ⟨b, 0, none⟩ v') := fun v' hs => by
      rw [unhide HP]
      refine ⟨((unhide G1).but _).trans (setCell_grown _ _ _ _), .inl ⟨rfl, hN32, rfl, v', ⟨?_, hs, (unhide HC).new, own_step (unhide C1).grown (unhide HC).new (setCell_grown _ _ _ _)⟩⟩⟩
      rw [heap_setCell_same w1 b 0 _ _ v' (unhide C1).blk]
      rfl
    have FIN := hide fin
    clear fin
    subst hv
    obtain ⟨n, hn⟩ : ∃ n, n = l.length := ⟨_, rfl⟩
    rw [← hn] at hKl hr1 HSd d0 ⊢
    clear hn hrf
    have hKI : (K : Int) ≤ (n : Int) := by omega
    have hnI : (n : Int) ≤ (cap : Int) := by omega
    have hcapI : (cap : Int) ≤ 9223372036854775807 := by omega
    by_cases hkc : cap = K
    · obtain rfl : n = K := by omega
      subst hkc
      clear hKI hnI hk0
      go_wp2
      go_ret
      exact unhide FIN _ (unhide HSd _ _ _ (by omega) (by omega) (.inr rfl))
    · go_wp2
      go_ret
      exact unhide FIN _ (unhide HSd _ _ _ rfl rfl (.inl rfl))
  · have hfin : NumR w0 w b v bad l (.returned (.int .i64 0)) (w1.setCell ⟨b, 1, none⟩ (.bool true)) := by
      rw [unhide HP]
      refine ⟨((unhide G1).but _).trans (setCell_grown _ _ _ _), .inr ⟨hok, 0, by omega, rfl, ⟨?_, (unhide HC).sl, (unhide HC).new, own_step (unhide C1).grown (unhide HC).new (setCell_grown _ _ _ _)⟩⟩⟩
      rw [heap_setCell_same w1 b 1 _ _ _ (unhide C1).blk]
      rfl
    have FIN := hide hfin
    have hN64 := hrf.1
    clear hfin
    by_cases hE : E = 0
    · have hN32 : (32768 : Int) < (N : Int) := by omega
      subst hE
      clear hok hrf
      go_wp2
      go_ret
      exact unhide FIN
    · have hE' : ¬ (E : Int) = 0 := by omega
      clear hok hrf
      go_wp2
      go_ret
      exact unhide FIN

/-- What is read is laid so. -/
theorem nums_canon : ∀ (k : Nat) (l : List UInt8) (xs : List Nat) (r : List UInt8), nums k l = some (xs, r) → l = layNs xs ++ r
  | 0, l, xs, r, h => by
    simp [nums] at h
    obtain ⟨rfl, rfl⟩ := h
    rfl
  | k + 1, l, xs, r, h => by
    unfold nums at h
    by_cases hc : (rd l).2.2 = 0 ∧ (rd l).1 ≤ 32768
    · rw [if_pos hc] at h
      obtain ⟨p, hp, e⟩ := Option.map_eq_some_iff.1 h
      obtain ⟨ys, r2⟩ := p
      simp only [Prod.mk.injEq] at e
      obtain ⟨rfl, rfl⟩ := e
      have ih := nums_canon k _ ys r2 hp
      have h1 : rd l = ((rd l).1, (rd l).2.1, 0) := by rw [← hc.1]
      have h2 := rd_canon h1
      have e2 : layNs ((rd l).1 :: ys) = lay (rd l).1 ++ layNs ys := by simp [layNs]
      rw [e2, ← h2, List.append_assoc, ← ih, List.take_append_drop]
    · rw [if_neg hc] at h
      cases h
theorem layNs_append (xs ys : List Nat) : layNs (xs ++ ys) = layNs xs ++ layNs ys := by simp [layNs]
theorem flat_pairs : ∀ (n : Nat) (xs : List Nat), xs.length = 2 * n → flatX (pairs xs) = xs
  | 0, xs, h => by
    have e : xs = [] := List.eq_nil_of_length_eq_zero (by omega)
    subst e
    rfl
  | n + 1, xs, h => by
    match xs, h with
    | a :: b :: r, h =>
      have := flat_pairs n r (by simp at h; omega)
      rw [pairs, flatX_cons, this]
    | [a], h => simp at h; omega
    | [], h => simp at h
theorem prt_canon {l : List UInt8} {a : Nat} {X : List (Nat × Nat)} {r : List UInt8} (h : prt l = some (a, X, r)) : l = lay a ++ lay X.length ++ layR X ++ r := by
  unfold prt at h
  cases h2 : nums 2 l with
  | none => rw [h2] at h; cases h
  | some p =>
    rw [h2] at h
    obtain ⟨hd, r0⟩ := p
    simp only at h
    obtain ⟨p, hp, e⟩ := Option.map_eq_some_iff.1 h
    obtain ⟨xs, r2⟩ := p
    simp only [Prod.mk.injEq] at e
    obtain ⟨rfl, rfl, rfl⟩ := e
    obtain ⟨l1, m1⟩ := nums_len _ _ _ _ h2
    obtain ⟨l2, m2⟩ := nums_len _ _ _ _ hp
    have c1 := nums_canon _ _ _ _ h2
    have c2 := nums_canon _ _ _ _ hp
    match hd, l1 with
    | [x, y], _ =>
      have hl : xs.length = 2 * y := by simpa using l2
      have e1 : (pairs xs).length = y := pairs_len y xs hl
      have e2 : layR (pairs xs) = layNs xs := by rw [← layNs_flat, flat_pairs y xs hl]
      rw [e1, e2]
      rw [c2] at c1
      rw [c1]
      simp [layNs]
/-- By either way the same: what is told is what was read. -/
theorem rdN_alt {l : List UInt8} {a : Nat} {X : List (Nat × Nat)} {r : List UInt8} (h : prt l = some (a, X, r)) (hok : okL (X.map toI) ((bf a : Nat) : Int)) :
    rdN l = if tellN a (bks X) = l.take (l.length - r.length) then some (a, bks X, l.length - r.length) else none := by
  have hc := prt_canon h
  have hlen : l.length - r.length = (lay a ++ lay X.length ++ layR X).length := by
    rw [hc]
    simp
    omega
  have htk : l.take (l.length - r.length) = lay a ++ lay X.length ++ layR X := by
    rw [hlen]
    conv => lhs; rw [hc]
    exact List.take_left
  obtain ⟨Y, hY, hY2, hYt⟩ := of_okL hok
  have hXY : X = Y := by
    have inj : ∀ (A B : List (Nat × Nat)), A.map toI = B.map toI → A = B := by
      intro A
      induction A with
      | nil => intro B h; cases B with
        | nil => rfl
        | cons _ _ => cases h
      | cons x A ih => intro B h; cases B with
        | nil => cases h
        | cons y B =>
          simp only [List.map_cons, List.cons.injEq, toI, Prod.mk.injEq] at h
          obtain ⟨⟨h1, h2⟩, h3⟩ := h
          rw [ih B h3]
          congr 1
          exact Prod.ext (by omega) (by omega)
    exact inj X Y hY
  subst hXY
  have ha := (prt_facts h).1
  have hlb : (bks X).length = bf a := hYt
  have hlow : low (bks X) := low_bks fun y hy => (hY2 y hy).2
  have key : l.take (tellN a (bks X)).length = tellN a (bks X) ↔ tellN a (bks X) = l.take (l.length - r.length) := by
    constructor
    · intro hp
      have hl2 : l = tellN a (bks X) ++ l.drop (tellN a (bks X)).length := by
        conv => lhs; rw [← List.take_append_drop (tellN a (bks X)).length l]
        rw [hp]
      have h3 := prt_tell a (bks X) (l.drop (tellN a (bks X)).length) ha hlb hlow
      rw [← hl2, h] at h3
      simp only [Option.some.injEq, Prod.mk.injEq] at h3
      have h4 : X = canon (bks X) := h3.2.1
      rw [htk]
      unfold tellN
      rw [← h4]
    · intro hp
      rw [hp, htk, ← hlen, htk]
  unfold rdN
  rw [h]
  simp only
  by_cases hp : tellN a (bks X) = l.take (l.length - r.length)
  · rw [if_pos ⟨hok, key.2 hp⟩, if_pos hp]
    have : (tellN a (bks X)).length = l.length - r.length := by
      rw [hp, List.length_take]
      omega
    rw [this]
  · rw [if_neg (fun h => hp (key.1 h.2)), if_neg hp]
end Go.Proofs.Ythjcdibblhcgpaa

/-
  DERIVED. The document's Read.
-/
namespace Go.Proofs.Ythjcdibblhcgpaa
open Go.RowKit
set_option linter.unusedVariables false

def RReadPost (w : World) (l : List UInt8) (e : Ending) (w' : World) : Prop :=
  w.grownBy w' none ∧ ((rdN l = none ∧ e = .returned (.tuple #[.pointer none, .int .i64 0, .int .i64 61])) ∨ ∃ a L n b v, rdN l = some (a, L, n) ∧ e = .returned (.tuple #[.pointer (some ⟨b, 0, none⟩), .int .i64 (n : Int), .int .i64 0]) ∧ w.heap.size ≤ b ∧ RdAt w' b a v L)

/-- Where the loop of Read stands: m pairs were asked for of the bytes r. -/
def LSt (w W : World) (cb m i : Nat) (r : List UInt8) (x : Value) : Prop :=
  ∃ (X : List (Nat × Nat)) (v : Value) (bad : Bool) (rest : List UInt8), i ≤ m ∧ X.length = i ∧ ROwn W w.heap.size x X ∧ CuAt w W cb v bad rest ∧
    (if bad then nums (2 * m) r = none else (∀ y ∈ X, y.1 ≤ 32768 ∧ y.2 ≤ 32768) ∧ nums (2 * m) r = (nums (2 * (m - i)) rest).map (fun p => (flatX X ++ p.1, p.2)))

theorem flatX_snoc (X : List (Nat × Nat)) (x : Nat × Nat) : flatX (X ++ [x]) = flatX X ++ [x.1, x.2] := by simp [flatX]
theorem nums_two (k : Nat) (l : List UInt8) : nums (k + 2) l = if (rd l).2.2 = 0 ∧ (rd l).1 ≤ 32768 then (if (rd (l.drop (rd l).2.1)).2.2 = 0 ∧ (rd (l.drop (rd l).2.1)).1 ≤ 32768 then (nums k ((l.drop (rd l).2.1).drop (rd (l.drop (rd l).2.1)).2.1)).map (fun p => ((rd l).1 :: (rd (l.drop (rd l).2.1)).1 :: p.1, p.2)) else none) else none := by
  rw [nums]
  by_cases h : (rd l).2.2 = 0 ∧ (rd l).1 ≤ 32768
  · rw [if_pos h, if_pos h, nums]
    by_cases h2 : (rd (l.drop (rd l).2.1)).2.2 = 0 ∧ (rd (l.drop (rd l).2.1)).1 ≤ 32768
    · rw [if_pos h2, if_pos h2, Option.map_map]
      rfl
    · rw [if_neg h2, if_neg h2]
      rfl
  · rw [if_neg h, if_neg h]

theorem CuAt.step {w0 w w' : World} {b : Nat} {v x : Value} {bad : Bool} {l : List UInt8} {X : List (Nat × Nat)} (h : CuAt w0 w b v bad l) (hx : ROwn w w0.heap.size x X) (hg : w.grownBy w' x.ownBlock) : CuAt w0 w' b v bad l :=
  ⟨(hg.block b h.lt (fun e => hx.ne e.symm h.blk (by decide) rfl)).trans h.blk, h.sl, h.new, own_step' h.grown hx hg⟩
theorem LSt.bad {w W : World} {cb m i : Nat} {r : List UInt8} {x v : Value} {X : List (Nat × Nat)} {rest : List UInt8} (hi : i ≤ m) (hX : X.length = i) (hR : ROwn W w.heap.size x X) (hC : CuAt w W cb v true rest) (h : nums (2 * m) r = none) : LSt w W cb m i r x := ⟨X, v, true, rest, hi, hX, hR, hC, by rw [if_pos rfl]; exact h⟩
theorem LSt.good {w W : World} {cb m i : Nat} {r : List UInt8} {x v : Value} {X : List (Nat × Nat)} {rest : List UInt8} (hi : i ≤ m) (hX : X.length = i) (hR : ROwn W w.heap.size x X) (hC : CuAt w W cb v false rest) (h : ∀ y ∈ X, y.1 ≤ 32768 ∧ y.2 ≤ 32768) (h2 : nums (2 * m) r = (nums (2 * (m - i)) rest).map (fun p => (flatX X ++ p.1, p.2))) : LSt w W cb m i r x := ⟨X, v, false, rest, hi, hX, hR, hC, by rw [if_neg (by simp)]; exact ⟨h, h2⟩⟩

set_option maxRecDepth 20000 in
set_option maxHeartbeats 8000000 in
theorem rRead_any (w : World) (v : Value) (l : List UInt8) (hv : Sl w v l) : Calls Try.prog 16 #[v] w (RReadPost w l) := by
  have HV := hide hv
  obtain ⟨ao, cap, hve, hvl, hvc, hv4⟩ := hv
  unfold maxLen at hvc
  clear hv4
  have HC0 : Hid (CuAt w (w.alloc (.cells #[v, .bool false] 70)) w.heap.size v false l) := hide ⟨heap_alloc_new _ _, unhide HV, Nat.le_refl _, World.grownBy_alloc _ _ _⟩
  have HVe := hide hve
  have hllI : (l.length : Int) ≤ 9223372036854775807 := by omega
  subst hve
  go_enter Try.func16, Try.ntmps16
  go_wp2_with fail
  refine (rNumber_any w _ w.heap.size _ false l (unhide HC0)).mono ?_
  rintro e w1 ⟨g1, h1⟩
  obtain ⟨cb, hcb⟩ : ∃ cb, cb = w.heap.size := ⟨_, rfl⟩
  rw [← hcb] at g1 h1 ⊢
  have HCb : Hid (w.heap.size ≤ cb) := hide (by omega)
  clear hcb g1 HC0
  rcases h1 with ⟨e1, n1, rfl, v1, k1⟩ | ⟨no1, z1, hz1, rfl, k1⟩
  · -- the first is there
    have K1 := hide k1
    have E1 := hide (And.intro e1 n1)
    clear k1 e1
    obtain ⟨N1, hN1⟩ : ∃ N, N = (rd l).1 := ⟨_, rfl⟩
    obtain ⟨l1, hl1⟩ : ∃ l1, l1 = l.drop (rd l).2.1 := ⟨_, rfl⟩
    rw [← hl1] at K1
    rw [← hN1] at n1 ⊢
    have HN1 := hide hN1
    have HL1 := hide hl1
    have hN1I : (N1 : Int) ≤ 32768 := by omega
    clear hN1 hl1
    go_wp2_with fail
    refine (rNumber_any w w1 cb v1 false l1 (unhide K1)).mono ?_
    rintro e w2 ⟨g2, h2⟩
    clear g2 K1
    rcases h2 with ⟨e2, n2, rfl, v2, k2⟩ | ⟨no2, z2, hz2, rfl, k2⟩
    · have K2 := hide k2
      have E2 := hide (And.intro e2 n2)
      clear k2 e2
      obtain ⟨m, hm⟩ : ∃ m, m = (rd l1).1 := ⟨_, rfl⟩
      obtain ⟨l2, hl2⟩ : ∃ l2, l2 = l1.drop (rd l1).2.1 := ⟨_, rfl⟩
      rw [← hl2] at K2
      rw [← hm] at n2 ⊢
      have HMm := hide hm
      have HL2 := hide hl2
      have hmI : (m : Int) ≤ 32768 := by omega
      have H2 : Hid (nums 2 l = some ([N1, m], l2)) := hide (by
        have h1 := unhide E1
        have h2 := unhide E2
        rw [unhide HL1] at h2
        rw [nums_two 0 l, if_pos h1, if_pos h2, unhide HN1, unhide HMm, unhide HL2, unhide HL1]
        rfl)
      clear hm hl2 E1 E2
      go_wp2
      go_loopw [8, 9] (fun x i wr => ∃ k : Nat, i = .int .i64 (k : Int) ∧ LSt w wr cb m k l2 x) (fun _ i _ => m - (intOf i).toNat)
      case atStart => exact ⟨0, rfl, [], v2, false, l2, by omega, rfl, ROwn.nil _ _, unhide K2, by
        rw [if_neg (by simp)]
        refine ⟨(fun y hy => by cases hy), ?_⟩
        rw [Nat.sub_zero]
        cases nums (2 * m) l2 with
        | none => rfl
        | some p => simp [flatX]⟩
      case round =>
        obtain ⟨k, rfl, X, vk, bad, rest, hkm, hXl, hR, hC, hB⟩ := hrel
        have HR := hide hR
        have HC := hide hC
        have HBd := hide hB
        have HXl := hide hXl
        clear hR hC hB hXl K2
        have hkI : (k : Int) ≤ 32768 := by omega
        cases bad with
        | false =>
          by_cases hlt : k < m
          · have hlt' : (k : Int) < (m : Int) := by omega
            have c1 := (unhide HC).flag
            have HSt : Hid (nums (2 * (m - k)) rest = if (rd rest).2.2 = 0 ∧ (rd rest).1 ≤ 32768 then (if (rd (rest.drop (rd rest).2.1)).2.2 = 0 ∧ (rd (rest.drop (rd rest).2.1)).1 ≤ 32768 then (nums (2 * (m - (k + 1))) ((rest.drop (rd rest).2.1).drop (rd (rest.drop (rd rest).2.1)).2.1)).map (fun p => ((rd rest).1 :: (rd (rest.drop (rd rest).2.1)).1 :: p.1, p.2)) else none) else none) := hide (by
              rw [show 2 * (m - k) = 2 * (m - (k + 1)) + 2 by omega]
              exact nums_two _ _)
            have hXm : Hid (∀ y ∈ X, y.1 ≤ 32768 ∧ y.2 ≤ 32768) := hide (unhide HBd).1
            have hEq : Hid (nums (2 * m) l2 = (nums (2 * (m - k)) rest).map (fun p => (flatX X ++ p.1, p.2))) := hide (unhide HBd).2
            clear HBd
            go_wp2_with fail
            refine (rNumber_any w wr cb vk false rest (unhide HC)).mono ?_
            rintro e w3 ⟨g3, h3⟩
            have R3 : Hid (ROwn w3 w.heap.size u8 X) := hide ((unhide HR).kept g3 (fun z hz e => (unhide HR).ne hz (unhide HC).blk (by decide) (by simpa using e)))
            clear g3 c1
            rcases h3 with ⟨e3, n3, rfl, v3, k3⟩ | ⟨no3, z3, hz3, rfl, k3⟩
            · have K3 := hide k3
              have E3 := hide (And.intro e3 n3)
              obtain ⟨N3, hN3⟩ : ∃ N, N = (rd rest).1 := ⟨_, rfl⟩
              obtain ⟨r3, hr3⟩ : ∃ r, r = rest.drop (rd rest).2.1 := ⟨_, rfl⟩
              rw [if_pos (unhide E3), ← hr3, ← hN3] at HSt
              rw [← hr3] at K3
              rw [← hN3] at n3 ⊢
              have hN3I : (N3 : Int) ≤ 32768 := by omega
              clear k3 e3 hN3 hr3 E3 HC HR
              go_wp2_with fail
              refine (rNumber_any w w3 cb v3 false r3 (unhide K3)).mono ?_
              rintro e w4 ⟨g4, h4⟩
              have R4 : Hid (ROwn w4 w.heap.size u8 X) := hide ((unhide R3).kept g4 (fun z hz e => (unhide R3).ne hz (unhide K3).blk (by decide) (by simpa using e)))
              clear g4 R3 K3
              rcases h4 with ⟨e4, n4, rfl, v4, k4⟩ | ⟨no4, z4, hz4, rfl, k4⟩
              · have C4 := hide k4
                have E4 := hide (And.intro e4 n4)
                obtain ⟨N4, hN4⟩ : ∃ N, N = (rd r3).1 := ⟨_, rfl⟩
                obtain ⟨r4, hr4⟩ : ∃ r, r = r3.drop (rd r3).2.1 := ⟨_, rfl⟩
                rw [if_pos (unhide E4), ← hr4, ← hN4] at HSt
                rw [← hr4] at C4
                rw [← hN4] at n4 ⊢
                have hN4I : (N4 : Int) ≤ 32768 := by omega
                clear k4 e4 hN4 hr4 E4
                have HF : Hid (∀ x' W', ROwn W' w.heap.size x' (X ++ [(N3, N4)]) → CuAt w W' cb v4 false r4 → LSt w W' cb m (k + 1) l2 x') := hide (fun x' W' hR' hC' => LSt.good (by omega) (by rw [List.length_append, unhide HXl]; rfl) hR' hC' (fun y hy => by
                  rcases List.mem_append.1 hy with hy | hy
                  · exact unhide hXm y hy
                  · simp at hy
                    subst hy
                    exact ⟨n3, n4⟩) (by
                  rw [unhide hEq, unhide HSt, Option.map_map, flatX_snoc]
                  congr 1
                  funext p
                  simp))
                go_wp2_with (at_builtin; refine wpList_append_run (base := w.heap.size) (v := u8) (xs := X) (ad := ⟨w4.heap.size, 0, none⟩) (c := 1) (y := (N3, N4)) ?q11 (.tmp 34) (.tmp 39) ?q12 ?q13 ?q14 ?q15 ?q16 ?q17 ?q18 ?q19)
                case q11 => rfl
                case q12 => rfl
                case q13 => rfl
                case q14 => exact (unhide R4).grown (World.grownBy_alloc _ _ _)
                case q15 => have := (unhide C4).grown.size; simp; omega
                case q16 => have := unhide HXl; omega
                case q17 => rfl
                intro v5 w5 o5 g5
                have L5 := hide (unhide HF v5 w5 o5 (((unhide C4).kept (World.grownBy_alloc _ _ _)).step ((unhide R4).grown (World.grownBy_alloc _ _ _)) g5))
                clear o5 g5 R4 C4 HF
                go_wp2
                go_roundw
                case rel => exact ⟨k + 1, rfl, unhide L5⟩
                case measure => simp [intOf]; omega
              · have C4 := hide k4
                have HF : Hid (∀ x' W', ROwn W' w.heap.size x' (X ++ [(N3, z4)]) → CuAt w W' cb v3 true r3 → LSt w W' cb m (k + 1) l2 x') := hide (fun x' W' hR' hC' => LSt.bad (by omega) (by rw [List.length_append, unhide HXl]; rfl) hR' hC' (by
                  rw [unhide hEq, unhide HSt, if_neg no4]
                  rfl))
                have hz4I : (z4 : Int) ≤ 32768 := by omega
                clear k4 no4
                go_wp2_with (at_builtin; refine wpList_append_run (base := w.heap.size) (v := u8) (xs := X) (ad := ⟨w4.heap.size, 0, none⟩) (c := 1) (y := (N3, z4)) ?q21 (.tmp 34) (.tmp 39) ?q22 ?q23 ?q24 ?q25 ?q26 ?q27 ?q28 ?q29)
                case q21 => rfl
                case q22 => rfl
                case q23 => rfl
                case q24 => exact (unhide R4).grown (World.grownBy_alloc _ _ _)
                case q25 => have := (unhide C4).grown.size; simp; omega
                case q26 => have := unhide HXl; omega
                case q27 => rfl
                intro v5 w5 o5 g5
                have L5 := hide (unhide HF v5 w5 o5 (((unhide C4).kept (World.grownBy_alloc _ _ _)).step ((unhide R4).grown (World.grownBy_alloc _ _ _)) g5))
                clear o5 g5 R4 C4 HF
                go_wp2
                go_roundw
                case rel => exact ⟨k + 1, rfl, unhide L5⟩
                case measure => simp [intOf]; omega
            · have K3 := hide k3
              have NO := hide no3
              have hz3I : (z3 : Int) ≤ 32768 := by omega
              clear k3 no3 HC HR
              go_wp2_with fail
              refine (rNumber_any w w3 cb vk true rest (unhide K3)).mono ?_
              rintro e w4 ⟨g4, h4⟩
              have R4 : Hid (ROwn w4 w.heap.size u8 X) := hide ((unhide R3).kept g4 (fun z hz e => (unhide R3).ne hz (unhide K3).blk (by decide) (by simpa using e)))
              clear g4 R3 K3
              rcases h4 with ⟨e4, n4, rfl, v4, k4⟩ | ⟨no4, z4, hz4, rfl, k4⟩
              · exact absurd ⟨e4, n4⟩ (unhide NO)
              · have C4 := hide k4
                have HF : Hid (∀ x' W', ROwn W' w.heap.size x' (X ++ [(z3, z4)]) → CuAt w W' cb vk true rest → LSt w W' cb m (k + 1) l2 x') := hide (fun x' W' hR' hC' => LSt.bad (by omega) (by rw [List.length_append, unhide HXl]; rfl) hR' hC' (by
                  rw [unhide hEq, unhide HSt, if_neg (unhide NO)]
                  rfl))
                have hz4I : (z4 : Int) ≤ 32768 := by omega
                clear k4 no4
                go_wp2_with (at_builtin; refine wpList_append_run (base := w.heap.size) (v := u8) (xs := X) (ad := ⟨w4.heap.size, 0, none⟩) (c := 1) (y := (z3, z4)) ?q31 (.tmp 34) (.tmp 39) ?q32 ?q33 ?q34 ?q35 ?q36 ?q37 ?q38 ?q39)
                case q31 => rfl
                case q32 => rfl
                case q33 => rfl
                case q34 => exact (unhide R4).grown (World.grownBy_alloc _ _ _)
                case q35 => have := (unhide C4).grown.size; simp; omega
                case q36 => have := unhide HXl; omega
                case q37 => rfl
                intro v5 w5 o5 g5
                have L5 := hide (unhide HF v5 w5 o5 (((unhide C4).kept (World.grownBy_alloc _ _ _)).step ((unhide R4).grown (World.grownBy_alloc _ _ _)) g5))
                clear o5 g5 R4 C4 HF
                go_wp2
                go_roundw
                case rel => exact ⟨k + 1, rfl, unhide L5⟩
                case measure => simp [intOf]; omega
          · have hlt' : ¬ (k : Int) < (m : Int) := by omega
            have hke : m - k = 0 := by omega
            have c0 := (unhide HC).bytes
            have c1 := (unhide HC).flag
            have HP : Hid (prt l = some (N1, X, rest)) := hide (by
              have h1 := (unhide HBd).2
              rw [hke, Nat.mul_zero] at h1
              have h2 : nums (2 * m) l2 = some (flatX X, rest) := by rw [h1]; simp [nums]
              unfold prt
              rw [unhide H2]
              simp only
              rw [show 2 * [N1, m].getD 1 0 = 2 * m from rfl, h2]
              simp [pairs_flat])
            have hXm := (unhide HBd).1
            clear HBd hke
            have hcl := (unhide HC).lt
            obtain ⟨rho, rhc, hvk, hrl, hrc, hr4⟩ := (unhide HC).sl
            clear hr4
            have HRL : Hid (rest.length ≤ l.length) := hide (by
              have h1 := congrArg List.length (prt_canon (unhide HP))
              simp at h1
              omega)
            have M5 := hide (RdAt.new wr)
            have C5 := hide ((unhide HC).kept (World.grownBy_alloc wr (.cells #[.int .i64 0, .slice none 0 0] 52) none))
            have R5 : Hid (Rn (wr.alloc (.cells #[.int .i64 0, .slice none 0 0] 52)) u8 (X.map toI)) := hide (((unhide HR).grown (World.grownBy_alloc _ _ _)).rn (fun x hx => by have := hXm x hx; omega))
            have hXl2 : X.length ≤ 32768 := by have := unhide HXl; omega
            have HB0 : Hid (bf (0 + N1) - bf 0 = bf N1) := hide (by rw [Nat.zero_add]; unfold bf; omega)
            go_wp2_with fail
            refine (rExtend_any _ wr.heap.size 0 N1 _ u8 [] (X.map toI) (unhide M5) (by omega) (unhide R5) (by rw [List.length_map]; omega)).mono ?_
            obtain ⟨b2, hb2⟩ : ∃ b2, b2 = wr.heap.size := ⟨_, rfl⟩
            have HB2 : Hid (w.heap.size ≤ b2) := hide (by rw [hb2]; exact (unhide HC).grown.size)
            have HNe : Hid (cb ≠ b2) := hide (by omega)
            rw [← hb2] at M5 ⊢
            obtain ⟨W5, hW5⟩ : ∃ W5, W5 = wr.alloc (.cells #[.int .i64 0, .slice none 0 0] 52) := ⟨_, rfl⟩
            rw [← hW5] at M5 C5 R5 ⊢
            clear hb2 hW5 HC HR c0 c1 hXm
            rintro e w6 h6
            rcases h6 with ⟨no6, rfl, g6⟩ | ⟨ok6, rfl, v6, m6, g6⟩
            · rw [unhide HB0] at no6
              have fin : RReadPost w l (.returned (.tuple #[.pointer none, .int .i64 0, .int .i64 61])) w6 := ⟨(unhide C5).grown.trans g6, .inl ⟨by
                unfold rdN
                rw [unhide HP]
                simp only
                rw [if_neg (fun h => no6 h.1)], rfl⟩⟩
              have FIN := hide fin
              clear fin no6 g6
              go_wp2
              go_ret3
              exact unhide FIN
            · rw [unhide HB0] at ok6
              rw [Nat.zero_add, List.nil_append, bksI_toI] at m6
              have HAlt := hide (rdN_alt (unhide HP) ok6)
              have M6 := hide m6
              have C6 : Hid (CuAt w w6 cb vk false rest) := hide ⟨(g6.block cb (unhide C5).lt (by simpa using unhide HNe)).trans (unhide C5).blk, (unhide C5).sl, (unhide C5).new, own_step (unhide C5).grown (unhide HB2) g6⟩
              have c0 := (unhide C6).bytes
              clear m6 g6 ok6 M5 C5 R5
              subst hvk
              have hrI : (rest.length : Int) ≤ (l.length : Int) := by have := unhide HRL; omega
              obtain ⟨nn, hnn⟩ : ∃ nn, nn = l.length - rest.length := ⟨_, rfl⟩
              rw [← hnn] at HAlt
              have HNn : Hid ((l.length : Int) - (rest.length : Int) = (nn : Int)) := hide (by have := unhide HRL; omega)
              have hnl : nn ≤ l.length := by omega
              have hnI : (nn : Int) ≤ (l.length : Int) := by omega
              have hlcI : (l.length : Int) ≤ (cap : Int) := by omega
              have hcI : (cap : Int) ≤ 9223372036854775807 := by omega
              have HTk : Hid (∀ W, w.grownBy W none → Sl W (.slice ao nn cap) (l.take nn)) := hide (fun W hg => by
                obtain ⟨ao', cap', e, a1, a2, a4⟩ := (unhide HV).kept hg
                injection e with e1 e2 e3
                subst e1 e3
                have hl : (l.take nn).length = nn := by rw [List.length_take]; omega
                refine ⟨ao, cap, by rw [hl], by rw [hl]; omega, a2, fun hne => ?_⟩
                obtain ⟨b, off, e, hb, hc⟩ := a4 hne
                exact ⟨b, off, e, hb, fun i hi => by rw [List.getElem_take]; exact hc i (by rw [hl] at hi; omega)⟩)
              clear hnn
              go_upto_region 14 with fail
              rw [unhide HNn]
              have G6 : Hid (w.grownBy w6 none) := hide (unhide C6).grown
              clear C6 c0
              have st0 := (unhide HTk w6 (unhide G6)).str
              have st0d := (unhide HTk w6.drew ((unhide G6).trans (gr_d _))).str
              go_cut [69] from 62 to 68 (fun t wx => t = .bool (decide (tellN N1 (bks X) ≠ l.take nn)) ∧ w6.grownBy wx none)
              case first =>
                by_cases heq : tellN N1 (bks X) = l.take nn
                · have HD : Hid (decide (tellN N1 (bks X) ≠ l.take nn) = false) := hide (decide_eq_false (fun h => h heq))
                  have hbe : (tellN N1 (bks X) == l.take nn) = true := beq_iff_eq.2 heq
                  clear heq
                  go_region_with (go_at_call 30; refine (rBytes_any _ b2 N1 v6 (bks X) ((unhide M6).drewN _)).mono ?_; rintro e w7 ⟨u7, rfl, o7, g7⟩; have st7 := o7.sl.str; have st07 := (unhide HTk w7 ((unhide G6).trans ((gr_d _).trans g7))).str; have G7 : Hid (w6.grownBy w7 none) := hide ((gr_d _).trans g7); clear o7 g7)
                  all_goals go_wp2_with fail
                  all_goals go_meet
                  all_goals exact ⟨by rw [unhide HD], unhide G7⟩
                · have HD : Hid (decide (tellN N1 (bks X) ≠ l.take nn) = true) := hide (decide_eq_true heq)
                  have hbe : (tellN N1 (bks X) == l.take nn) = false := beq_eq_false_iff_ne.2 heq
                  clear heq
                  go_region_with (go_at_call 30; refine (rBytes_any _ b2 N1 v6 (bks X) ((unhide M6).drewN _)).mono ?_; rintro e w7 ⟨u7, rfl, o7, g7⟩; have st7 := o7.sl.str; have st07 := (unhide HTk w7 ((unhide G6).trans ((gr_d _).trans g7))).str; have G7 : Hid (w6.grownBy w7 none) := hide ((gr_d _).trans g7); clear o7 g7)
                  all_goals go_wp2_with fail
                  all_goals go_meet
                  all_goals exact ⟨by rw [unhide HD], unhide G7⟩
              case rest =>
                obtain ⟨rfl, g7⟩ := hcut
                have G7 : Hid (w.grownBy wc none) := hide ((unhide G6).trans g7)
                have M7 := hide ((unhide M6).grown g7)
                clear g7 st0 st0d
                by_cases heq : tellN N1 (bks X) = l.take nn
                · have hD : decide (tellN N1 (bks X) ≠ l.take nn) = false := decide_eq_false (fun h => h heq)
                  have hR := unhide HAlt
                  rw [if_pos heq] at hR
                  have fin : RReadPost w l (.returned (.tuple #[.pointer (some ⟨b2, 0, none⟩), .int .i64 (nn : Int), .int .i64 0])) wc := ⟨unhide G7, .inr ⟨N1, bks X, nn, b2, v6, hR, rfl, unhide HB2, unhide M7⟩⟩
                  have FIN := hide fin
                  rw [hD]
                  clear fin hR heq hD
                  go_wp2
                  go_ret3
                  exact unhide FIN
                · have hD : decide (tellN N1 (bks X) ≠ l.take nn) = true := decide_eq_true heq
                  have hR := unhide HAlt
                  rw [if_neg heq] at hR
                  have fin : RReadPost w l (.returned (.tuple #[.pointer none, .int .i64 0, .int .i64 61])) wc := ⟨unhide G7, .inl ⟨hR, rfl⟩⟩
                  have FIN := hide fin
                  rw [hD]
                  clear fin hR heq hD
                  go_wp2
                  go_ret3
                  exact unhide FIN
        | true =>
          have c1 := (unhide HC).flag
          have HNo : Hid (rdN l = none) := hide (by
            have h1 : nums (2 * m) l2 = none := unhide HBd
            unfold rdN prt
            rw [unhide H2]
            simp only
            rw [show 2 * [N1, m].getD 1 0 = 2 * m from rfl, h1]
            rfl)
          have fin : RReadPost w l (.returned (.tuple #[.pointer none, .int .i64 0, .int .i64 61])) (wr.alloc (.cells #[.int .i64 0, .slice none 0 0] 52)) := ⟨(unhide HC).grown.trans (World.grownBy_alloc _ _ _), .inl ⟨unhide HNo, rfl⟩⟩
          have FIN := hide fin
          have hcl := (unhide HC).lt
          clear fin HBd HNo
          by_cases hlt : (k : Int) < (m : Int)
          · go_wp2
            go_ret3
            exact unhide FIN
          · go_wp2
            go_ret3
            exact unhide FIN
    · have HNo : Hid (rdN l = none) := hide (by
        have h1 := unhide E1
        rw [unhide HL1] at no2
        unfold rdN prt
        rw [nums_two 0 l, if_pos h1, if_neg no2])
      have c1 := k2.flag
      have hcl := k2.lt
      have fin : RReadPost w l (.returned (.tuple #[.pointer none, .int .i64 0, .int .i64 61])) (w2.alloc (.cells #[.int .i64 0, .slice none 0 0] 52)) := ⟨k2.grown.trans (World.grownBy_alloc _ _ _), .inl ⟨unhide HNo, rfl⟩⟩
      have FIN := hide fin
      have hz2I : (z2 : Int) ≤ 32768 := by omega
      clear fin k2 no2 HNo
      go_wp2
      go_loopw [8, 9] (fun x i wr => i = .int .i64 0 ∧ x = .slice none 0 0 ∧ wr = w2) (fun _ i _ => 0)
      case atStart => exact ⟨rfl, rfl, rfl⟩
      case round =>
        obtain ⟨rfl, rfl, rfl⟩ := hrel
        by_cases hlt : (0 : Int) < (z2 : Int)
        · go_wp2
          go_ret3
          exact unhide FIN
        · go_wp2
          go_ret3
          exact unhide FIN
  · have NO := hide no1
    have K1 := hide k1
    have hz1I : (z1 : Int) ≤ 32768 := by omega
    clear k1 no1
    go_wp2_with fail
    refine (rNumber_any w w1 cb _ true l (unhide K1)).mono ?_
    rintro e w2 ⟨g2, h2⟩
    clear g2 K1
    rcases h2 with ⟨e2, n2, rfl, v2, k2⟩ | ⟨no2, z2, hz2, rfl, k2⟩
    · exact absurd ⟨e2, n2⟩ (unhide NO)
    · have HNo : Hid (rdN l = none) := hide (by
        unfold rdN prt
        rw [nums_two 0 l, if_neg no2])
      have c1 := k2.flag
      have hcl := k2.lt
      have fin : RReadPost w l (.returned (.tuple #[.pointer none, .int .i64 0, .int .i64 61])) (w2.alloc (.cells #[.int .i64 0, .slice none 0 0] 52)) := ⟨k2.grown.trans (World.grownBy_alloc _ _ _), .inl ⟨unhide HNo, rfl⟩⟩
      have FIN := hide fin
      have hz2I : (z2 : Int) ≤ 32768 := by omega
      clear fin k2 no2 HNo
      go_wp2
      go_loopw [8, 9] (fun x i wr => i = .int .i64 0 ∧ x = .slice none 0 0 ∧ wr = w2) (fun _ i _ => 0)
      case atStart => exact ⟨rfl, rfl, rfl⟩
      case round =>
        obtain ⟨rfl, rfl, rfl⟩ := hrel
        by_cases hlt : (0 : Int) < (z2 : Int)
        · go_wp2
          go_ret3
          exact unhide FIN
        · go_wp2
          go_ret3
          exact unhide FIN
end Go.Proofs.Ythjcdibblhcgpaa

/-
  DERIVED. The law's 'asked': all that there is to ask of a node is the document's.
-/
namespace Go.Proofs.Ythjcdibblhcgpaa
open Go.RowKit
set_option linter.unusedVariables false

theorem Own.set {w : World} {base g n cap : Nat} {l : List UInt8} (h : Own w base (.slice (some ⟨g, 0, none⟩) n cap) l) (i : Nat) (c : UInt8) (hi : i < l.length) : Own (w.setCell ⟨g, i, none⟩ (bv c)) base (.slice (some ⟨g, 0, none⟩) n cap) (l.set i c) := by
  obtain ⟨h1, h2⟩ := h
  refine ⟨by simp, ?_⟩
  rcases h2 with ⟨e, _⟩ | ⟨g', cap', cur, e, hb, hg, hn, hm, hs, ht⟩
  · cases e
  · cases e
    refine .inr ⟨g, cap, _, by rw [List.length_set], hb, heap_setCell_same w g i cur _ _ hg, by rw [List.length_set]; exact hn, hm, by simpa using hs, ?_⟩
    rw [List.length_set, Array.toList_setIfInBounds, List.take_set, ht, List.map_set]
theorem Own.row {W : World} {base : Nat} {v : Value} {xs : List UInt8} (h : Own W base v xs) {q : Nat} (hq : v.ownBlock = some q) : base ≤ q ∧ ∃ cur, W.heap[q]? = some (.cells cur 5 (0, 0)) := by
  rcases h.2 with ⟨rfl, _⟩ | ⟨g, cap, cur, rfl, hb, hg, r⟩
  · cases hq
  · cases hq; exact ⟨hb, cur, hg⟩
theorem Own.form {w : World} {base : Nat} {v : Value} {xs : List UInt8} (h : Own w base v xs) : ∃ ao cap, v = .slice ao xs.length cap ∧ xs.length ≤ cap ∧ cap ≤ 9223372036854775807 ∧ (xs.length ≠ 0 → ∃ g, ao = some ⟨g, 0, none⟩ ∧ base ≤ g ∧ g < w.heap.size ∧ (∀ i, w.frozen? ⟨g, i, none⟩ = false) ∧ ∀ i, (h : i < xs.length) → w.cell? ⟨g, i, none⟩ = some (bv xs[i])) := by
  have hsl := h.sl
  rcases h.2 with ⟨rfl, h0⟩ | ⟨g, cap, cur, rfl, hb, hg, hn, hm, hs, ht⟩
  · exact ⟨none, 0, by rw [h0], by omega, by omega, fun h => absurd h0 h⟩
  · refine ⟨some ⟨g, 0, none⟩, cap, rfl, hn, by unfold maxLen at hm; omega, fun _ => ⟨g, rfl, hb, lt_of_block hg, fun i => by simp [World.frozen?, hg], fun i hi => ?_⟩⟩
    obtain ⟨ao, cap', e, _, _, h4⟩ := hsl
    cases e
    obtain ⟨b, off, e2, _, hc⟩ := h4 (by omega)
    cases e2
    have := hc i hi
    rw [Nat.zero_add] at this
    exact this

set_option maxRecDepth 20000 in
set_option maxHeartbeats 8000000 in
theorem asked_ok (w : World) (b c n : Nat) (v u : Value) (L : List Nat) (h : NdAt w b n v L) (h2 : RdAt w c n u L) :
    Calls Try.prog 17 #[.pointer (some ⟨b, 0, none⟩), .pointer (some ⟨c, 0, none⟩)] w fun e w' => e = .returned (.bool true) ∧ w.grownBy w' none := by
  have HM := hide h
  have HR := hide h2
  have hcl := h.small.2
  have hlow := low_canon h.lw
  clear h h2
  go_enter Try.func17, Try.ntmps17
  go_wp2_with fail
  refine (Runs_any w b n v L (unhide HM)).mono ?_
  rintro e w1 ⟨u1, rfl, o1, g1⟩
  have O1 := hide o1
  have G1 := hide g1
  have R1 := hide ((unhide HR).grown g1)
  clear o1 g1
  go_wp2_with fail
  refine (rRuns_any w1 c n u L (unhide R1)).mono ?_
  rintro e w2 ⟨u2, rfl, o2, g2⟩
  have O12 := hide ((unhide O1).grown g2)
  have O2 := hide o2
  have G2 : Hid (w.grownBy w2 none) := hide ((unhide G1).trans g2)
  clear o2 g2 O1 G1 R1
  go_wp2_with fail
  refine (SameRuns_any w2 u1 u2 _ _ ((unhide O12).rn fun x hx => by have := hlow x hx; omega) ((unhide O2).rn fun x hx => by have := hlow x hx; omega)).mono ?_
  rintro e w3 ⟨rfl, g3⟩
  simp only [decide_true]
  have HX : Hid (∃ xs, ROwn w3 w.heap.size u1 xs ∧ xs.length = (canon L).length) := hide ⟨_, (unhide O12).grown g3, rfl⟩
  have G3 : Hid (w.grownBy w3 none) := hide ((unhide G2).trans g3)
  obtain ⟨ro, rcap, hru, _⟩ := (unhide O12).form
  obtain ⟨q, hq⟩ : ∃ q, q = (canon L).length := ⟨_, rfl⟩
  rw [← hq] at HX hcl hru
  subst hru
  clear g3 O12 O2 G2 hq
  have hqI : (q : Int) ≤ 64 := by omega
  go_wp2
  go_loopw [7] (fun i wr => ∃ (j : Nat) (xs : List (Nat × Nat)), i = .int .i64 (j : Int) ∧ j ≤ q ∧ ROwn wr w.heap.size (.slice ro q rcap) xs ∧ xs.length = q ∧ w.grownBy wr none) (fun i _ => q - (intOf i).toNat)
  case atStart =>
    obtain ⟨xs, h1, h2⟩ := unhide HX
    exact ⟨0, xs, rfl, by omega, h1, h2, unhide G3⟩
  case round =>
    obtain ⟨j, xs, rfl, hj, ho, hxl, hg⟩ := hrel
    have HO := hide ho
    have HG := hide hg
    have HXl := hide hxl
    clear ho hg hxl HX G3
    by_cases hlt : j < q
    · have hlt' : (j : Int) < (q : Int) := by omega
      have hjx : j < xs.length := by rw [unhide HXl]; exact hlt
      obtain ⟨ao', cap', e, _, _, h4⟩ := (unhide HO).form
      injection e with e1 e2 e3
      obtain ⟨g, hro, hgb, hgl, hcell⟩ := h4 (by omega)
      rw [← e1] at hro
      subst hro
      clear e1 e2 e3 h4
      obtain ⟨d0, d1⟩ := hcell j hjx
      obtain ⟨_, cur, hcur⟩ := (unhide HO).row (q := g) rfl
      have f1 : wr.frozen? ⟨g, j * 2 + 1, none⟩ = false := by simp [World.frozen?, hcur]
      have HO2 := hide ((unhide HO).set1 j 99 hjx)
      have HG2 : Hid (w.grownBy (wr.setCell ⟨g, j * 2 + 1, none⟩ (.int .i64 99)) none) := hide (own_step (unhide HG) hgb (setCell_grown _ _ _ _))
      clear hcell hcur HO HG
      go_wp2
      go_roundw
      case rel => exact ⟨j + 1, _, rfl, by omega, unhide HO2, by simpa using unhide HXl, unhide HG2⟩
      case measure => simp [intOf]; omega
    · have hlt' : ¬ (j : Int) < (q : Int) := by omega
      have M4 := hide ((unhide HM).grown (unhide HG))
      have R4 := hide ((unhide HR).grown (unhide HG))
      clear HO HXl
      go_wp2_with fail
      refine (Bytes_any wr b n v L (unhide M4)).mono ?_
      rintro e w5 ⟨u5, rfl, o5, g5⟩
      have O5 := hide (o5.mono (unhide HG).size)
      have R5 := hide ((unhide R4).grown g5)
      have G5 : Hid (w.grownBy w5 none) := hide ((unhide HG).trans g5)
      have st5 := o5.sl.str
      have st5d := (o5.sl.drew).str
      have hTl := tellN_len (n := n) (unhide M4).small.2
      obtain ⟨bo, bcap, hbu, hb1, hb2, _⟩ := o5.form
      have hbu' : ∃ z, u5 = .slice bo z bcap := ⟨_, hbu⟩
      clear o5 g5 M4 R4 HG
      subst hbu
      go_wp2_with fail
      go_cut [9] from 29 to 34 (fun t wx => t = .bool true ∧ w5.grownBy wx none)
      case first =>
        go_region_with (go_at_call 30; refine (rBytes_any _ c n u L ((unhide R5).drewN _)).mono ?_; rintro e w6 ⟨u6, rfl, o6, g6⟩; have st6 := o6.sl.str; have st65 := ((unhide O5).sl.kept ((gr_d _).trans g6)).str; have G6 : Hid (w5.grownBy w6 none) := hide ((gr_d _).trans g6); clear o6 g6)
        all_goals go_wp2_with fail
        all_goals go_meet
        all_goals exact ⟨by simp, unhide G6⟩
      case rest =>
        obtain ⟨rfl, g6⟩ := hcut
        have HY : Hid (∃ ys, Own wc w.heap.size (.slice bo (tellN n L).length bcap) ys ∧ ys.length = (tellN n L).length) := hide ⟨_, (unhide O5).below (below_of_grown g6) (Nat.le_refl _), rfl⟩
        have G6 : Hid (w.grownBy wc none) := hide ((unhide G5).trans g6)
        clear g6 O5 G5 R5 st5 st5d hbu'
        obtain ⟨t, ht⟩ : ∃ t, t = (tellN n L).length := ⟨_, rfl⟩
        rw [← ht] at HY hTl hb1 ⊢
        clear ht
        have htI : (t : Int) ≤ 1400 := by omega
        go_wp2
        go_loopw [10] (fun i wr => ∃ (j : Nat) (ys : List UInt8), i = .int .i64 (j : Int) ∧ j ≤ t ∧ Own wr w.heap.size (.slice bo t bcap) ys ∧ ys.length = t ∧ w.grownBy wr none) (fun i _ => t - (intOf i).toNat)
        case atStart =>
          obtain ⟨ys, h1, h2⟩ := unhide HY
          exact ⟨0, ys, rfl, by omega, h1, h2, unhide G6⟩
        case round =>
          obtain ⟨j, ys, rfl, hj, ho, hyl, hg⟩ := hrel
          have HO := hide ho
          have HG := hide hg
          have HYl := hide hyl
          clear ho hg hyl HY G6
          by_cases hlt2 : j < t
          · have hlt2' : (j : Int) < (t : Int) := by omega
            have hjx : j < ys.length := by rw [unhide HYl]; exact hlt2
            obtain ⟨ao', cap', e, _, _, h4⟩ := (unhide HO).form
            injection e with e1 e2 e3
            obtain ⟨g, hbo, hgb, hgl, hfz, hcell⟩ := h4 (by omega)
            rw [← e1] at hbo
            subst hbo
            clear e1 e2 e3 h4
            have d0 := hcell j hjx
            have HO2 : Hid (Own (wr.setCell ⟨g, j, none⟩ (.int .u8 9)) w.heap.size (.slice (some ⟨g, 0, none⟩) t bcap) (ys.set j 9)) := hide ((unhide HO).set j 9 hjx)
            have HG2 : Hid (w.grownBy (wr.setCell ⟨g, j, none⟩ (.int .u8 9)) none) := hide (own_step (unhide HG) hgb (setCell_grown _ _ _ _))
            clear hcell HO HG
            go_wp2
            go_roundw
            case rel => exact ⟨j + 1, _, rfl, by omega, unhide HO2, by simpa using unhide HYl, unhide HG2⟩
            case measure => simp [intOf]; omega
          · have hlt2' : ¬ (j : Int) < (t : Int) := by omega
            have M7 := hide ((unhide HM).grown (unhide HG))
            have R7 := hide ((unhide HR).grown (unhide HG))
            have c0 := (unhide R7).num
            have c1 := (unhide R7).val
            obtain ⟨lo, lcap, hlu, _, _, _⟩ := (unhide R7).list.form
            subst hlu
            clear HO HYl
            go_wp2_with fail
            go_quiet (first | (go_at_call 13; exact Calls.quiet_of_same (Size_any _ b n v L ((unhide M7).drewN _))) | (go_at_call 14; exact Calls.quiet_of_same (Blocks_any _ b n v L ((unhide M7).drewN _))))
            go_wp2
            go_ret
            exact ⟨by simp, grown_drewN' (unhide HG) _⟩
end Go.Proofs.Ythjcdibblhcgpaa

/-
  DERIVED. How bytes that came in are opened, and how long they may be.
-/
namespace Go.Proofs.Ythjcdibblhcgpaa
open Go.ChangeShapes Go.WideShapes Go.ChangeAt Go.RowKit
set_option linter.unusedVariables false

theorem nil_sl (w : World) : Sl w (.slice none 0 0) [] := ⟨none, 0, rfl, by simp, by simp [maxLen], fun h => absurd rfl h⟩
theorem Try.bytes5 : Try.prog.bytesOf 5 = 1 := by kernel_rfl
theorem Try.cells5 : Try.prog.cellsOf 5 = 1 := by kernel_rfl

theorem byte_wf {n : Int} (h : (Lit.int .u8 n).wf = true) : n = ((UInt8.ofNat n.toNat).toNat : Int) := by
  have := bounds_u8 h
  simp only [UInt8.toNat_ofNat']
  omega

theorem open_bytes {H : Type} {enc : TypeId × Value → H} {W : World} {a : Option Addr} {n c : Nat} {d : DataW H} {p : List MemPlace}
    (h : DataW.Trod enc Try.prog W 0 (fun _ => true) true 23 (.slice a n c) d p) :
    ∃ l : List UInt8, Sl W (.slice a n c) l ∧ ((d = .nil ∧ l = []) ∨ ∃ es sp, d = .slice es sp ∧ l.length ≤ es.length + sp.length) := by
  obtain ⟨fuel, hf⟩ := h
  rcases open_ints Try.underlying23 Try.underlying5 Try.cells5 hf with ⟨hcs, hx⟩ | ⟨x, l, cp, zs, hcs, _, hl, hm, hz, hx, hcell, hwz⟩
  · simp [Value.cells] at hcs
    obtain ⟨rfl, rfl, rfl⟩ := hcs
    simp only [Prod.mk.injEq] at hx
    exact ⟨[], nil_sl W, .inl ⟨hx.1, rfl⟩⟩
  · simp [Value.cells] at hcs
    obtain ⟨rfl, rfl, rfl⟩ := hcs
    simp only [Prod.mk.injEq] at hx
    rw [if_pos rfl] at hz
    have hlen : ((zs.take n).map (fun z => UInt8.ofNat z.toNat)).length = n := by simp; omega
    refine ⟨(zs.take n).map (fun z => UInt8.ofNat z.toNat), ⟨some x, c, by rw [hlen], by rw [hlen]; exact hl, hm, fun hc => ?_⟩, .inr ⟨_, _, hx.1, ?_⟩⟩
    · have h0 := hcell 0 (by omega)
      have hsp := World.cell?_spot h0
      obtain ⟨b, off, sp⟩ := x
      have hsp' : sp = none := by
        cases sp with
        | none => rfl
        | some k => simp [Addr.add] at hsp
      subst hsp'
      refine ⟨b, off, rfl, ?_, fun i hi => ?_⟩
      · rw [addr_add] at h0
        exact World.block_lt_of_cell? W ⟨b, off + 0, none⟩ h0
      · have hi' : i < n := by rw [hlen] at hi; exact hi
        have := hcell i (by omega)
        rw [addr_add] at this
        rw [this]
        have hmem : zs.getD i 0 ∈ zs := by
          rw [List.getD_eq_getElem?_getD, List.getElem?_eq_getElem (by omega)]; exact List.getElem_mem _
        have hb := byte_wf (hwz _ hmem)
        have e : ((zs.take n).map (fun z => UInt8.ofNat z.toNat))[i] = UInt8.ofNat (zs.getD i 0).toNat := by
          simp [List.getD_eq_getElem?_getD, List.getElem?_eq_getElem (show i < zs.length by omega)]
        rw [e]
        show _ = some (Value.int .u8 _)
        rw [← hb]
    · rw [hlen]; simp only [lits, List.length_map, List.length_take, List.length_drop]; omega
theorem bulkAll_len {H : Type} : ∀ (l : List (DataW H)), l.length ≤ Rows.uptoBulkAll l
  | [] => by simp
  | d :: r => by
    have h1 : 1 ≤ Rows.uptoBulk d := by
      cases d with
      | lit l => cases l <;> simp [Rows.uptoBulk]
      | nil => simp [Rows.uptoBulk]
      | ptr d => simp [Rows.uptoBulk]
      | slice elems spare => simp [Rows.uptoBulk]
      | agg parts => simp [Rows.uptoBulk]
      | iface t d => simp [Rows.uptoBulk]
      | map entries => simp [Rows.uptoBulk]
      | held h => simp [Rows.uptoBulk]
    have := bulkAll_len r
    simp only [Rows.uptoBulkAll, List.length_cons]; omega

end Go.Proofs.Ythjcdibblhcgpaa
