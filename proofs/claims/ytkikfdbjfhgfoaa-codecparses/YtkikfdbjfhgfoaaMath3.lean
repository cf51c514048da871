/-
  DERIVED. The plain mathematics of what is laid and read again: numbers, integers, four bytes, frames.
-/
import Derived.Test.YtkikfdbjfhgfoaaMath2
namespace Go.Proofs.Ytkikfdbjfhgfoaa

theorem ofNat_toNat (c : UInt8) : UInt8.ofNat c.toNat = c := by simp
theorem pow_next (i : Nat) : 2 ^ (7 * (i + 1)) = 128 * 2 ^ (7 * i) := by rw [Nat.mul_add, Nat.pow_add]; omega

theorem rdGo_canon : ∀ (l : List UInt8) (i acc n k : Nat), i ≤ 10 → acc < 2 ^ (7 * i) → rdGo i acc l = (n, k, 0) →
    ∃ m, n = acc + m * 2 ^ (7 * i) ∧ i + 1 ≤ k ∧ l.take (k - i) = lay m ∧ (0 < i → m ≠ 0) ∧ (m < 18446744073709551616)
  | [], i, acc, n, k, hi, ha, h => by
    rw [rdGo] at h
    split at h <;> simp at h
  | c :: r, i, acc, n, k, hi, ha, h => by
    have hc := c.toNat_lt
    have hf := rdGo_facts (c :: r) i acc hi ha
    rw [h] at hf
    have hn : n < 18446744073709551616 := hf.1
    rw [rdGo] at h
    split at h
    · simp at h
    · split at h
      · rename_i h1 h2
        have hm : c.toNat % 128 < 128 := Nat.mod_lt _ (by decide)
        have h3 : c.toNat % 128 * 2 ^ (7 * i) ≤ 127 * 2 ^ (7 * i) := Nat.mul_le_mul_right _ (by omega)
        have e := pow_next i
        obtain ⟨m', e1, e2, e3, e4, e5⟩ := rdGo_canon r (i + 1) _ n k (by omega) (by omega) h
        have hm' := e4 (by omega)
        have e6 : n = acc + (c.toNat % 128 + 128 * m') * 2 ^ (7 * i) := by
          rw [e1, e, Nat.add_mul, Nat.mul_assoc, Nat.mul_left_comm m' 128]
          omega
        have hp : 0 < 2 ^ (7 * i) := Nat.two_pow_pos _
        have h7 : c.toNat % 128 + 128 * m' ≤ (c.toNat % 128 + 128 * m') * 2 ^ (7 * i) := Nat.le_mul_of_pos_right _ hp
        refine ⟨c.toNat % 128 + 128 * m', e6, by omega, ?_, fun _ => by omega, by omega⟩
        rw [lay_big (by omega) (by omega)]
        have q1 : (c.toNat % 128 + 128 * m') % 128 = c.toNat % 128 := by omega
        have q2 : (c.toNat % 128 + 128 * m') / 128 = m' := by omega
        have q3 : 128 + c.toNat % 128 = c.toNat := by omega
        rw [q1, q2, q3, ofNat_toNat]
        have q4 : k - i = (k - (i + 1)) + 1 := by omega
        rw [q4, List.take_succ_cons, e3]
      · split at h
        · simp at h
        · rename_i h1 h2 h3
          simp only [Prod.mk.injEq] at h
          obtain ⟨h4, h5, _⟩ := h
          have hp : 0 < 2 ^ (7 * i) := Nat.two_pow_pos _
          refine ⟨c.toNat, h4.symm, by omega, ?_, fun _ => by omega, by omega⟩
          rw [← h5, show i + 1 - i = 1 by omega, lay_small (by omega), ofNat_toNat]
          rfl
theorem rd_canon {l : List UInt8} {n k : Nat} (h : rd l = (n, k, 0)) : l.take k = lay n := by
  obtain ⟨m, e1, _, e3, _⟩ := rdGo_canon l 0 0 n k (by omega) (by decide) h
  simp at e1
  rw [e1]; exact e3

theorem rdGo_lay : ∀ (f m : Nat), m < 128 ^ (f + 1) → ∀ (i acc : Nat) (r : List UInt8), (0 < i → m ≠ 0) → m * 2 ^ (7 * i) < 18446744073709551616 → i ≤ 9 →
    rdGo i acc (lay m ++ r) = (acc + m * 2 ^ (7 * i), i + (lay m).length, 0) := by
  intro f
  induction f with
  | zero =>
    intro m hm i acc r h0 h1 hi
    have hm : m < 128 := by simpa using hm
    rw [lay_small hm]
    have hb : (UInt8.ofNat m).toNat = m := by simp only [UInt8.toNat_ofNat']; omega
    show rdGo i acc (UInt8.ofNat m :: r) = _
    rw [rdGo, hb, if_neg (by omega), if_neg (by omega), if_neg ?_]
    · rfl
    · intro h
      rcases h with ⟨a, b⟩ | ⟨a, b⟩
      · exact h0 a b
      · subst a
        have : 2 * 2 ^ (7 * 9) ≤ m * 2 ^ (7 * 9) := Nat.mul_le_mul_right _ (by omega)
        have e : 2 * 2 ^ (7 * 9) = 18446744073709551616 := by decide
        omega
  | succ f ih =>
    intro m hm i acc r h0 h1 hi
    by_cases hs : m < 128
    · exact ih m (by have : 128 ≤ 128 ^ (f + 1) := Nat.le_self_pow (by omega) 128; omega) i acc r h0 h1 hi
    · have hp : 0 < 2 ^ (7 * i) := Nat.two_pow_pos _
      have hml : m ≤ m * 2 ^ (7 * i) := Nat.le_mul_of_pos_right _ hp
      rw [lay_big (by omega) (by omega)]
      have hb : (UInt8.ofNat (128 + m % 128)).toNat = 128 + m % 128 := by simp only [UInt8.toNat_ofNat']; omega
      show rdGo i acc (UInt8.ofNat (128 + m % 128) :: (lay (m / 128) ++ r)) = _
      have e := pow_next i
      have key : (m / 128) * 2 ^ (7 * (i + 1)) + m % 128 * 2 ^ (7 * i) = m * 2 ^ (7 * i) := by
        rw [e, ← Nat.mul_assoc, ← Nat.add_mul]
        congr 1
        omega
      have hi8 : i ≤ 8 := by
        by_cases h9 : i = 9
        · subst h9
          have : 128 * 2 ^ (7 * 9) ≤ m * 2 ^ (7 * 9) := Nat.mul_le_mul_right _ (by omega)
          have e : 128 * 2 ^ (7 * 9) = 1180591620717411303424 := by decide
          omega
        · omega
      rw [rdGo, hb, if_neg (by omega), if_pos (by omega), show (128 + m % 128) % 128 = m % 128 by omega,
        ih (m / 128) (by rw [Nat.pow_succ] at hm; omega) (i + 1) _ r (fun _ => by omega) (by omega) (by omega)]
      simp only [Prod.mk.injEq, List.length_cons, and_true]
      omega
theorem rd_lay (n : Nat) (hn : n < 18446744073709551616) (r : List UInt8) : rd (lay n ++ r) = (n, (lay n).length, 0) := by
  have := rdGo_lay 9 n (by have : 18446744073709551616 < 128 ^ (9 + 1) := by decide
                           omega) 0 0 r (fun h => by omega) (by simpa using hn) (by omega)
  simpa [rd] using this
theorem lay_inj {a b : Nat} (ha : a < 18446744073709551616) (hb : b < 18446744073709551616) (h : lay a = lay b) : a = b := by
  have h1 := rd_lay a ha []
  rw [h, rd_lay b hb []] at h1
  simp only [Prod.mk.injEq] at h1
  exact h1.1.symm
theorem unz_zig (n : Int) : unz (zig n) = n := by
  unfold unz zig
  by_cases h : n < 0
  · rw [if_pos h, if_pos (by omega)]; omega
  · rw [if_neg h, if_neg (by omega)]; omega
theorem zig_lt (n : Int) (h : -9223372036854775808 ≤ n) (h2 : n ≤ 9223372036854775807) : zig n < 18446744073709551616 := by
  unfold zig; split <;> omega

theorem rd4_le4 (n : Nat) (hn : n < 4294967296) (r : List UInt8) : rd4 (le4 n ++ r) = n := by
  show (UInt8.ofNat n).toNat + 256 * (UInt8.ofNat (n / 256)).toNat + 65536 * (UInt8.ofNat (n / 65536)).toNat + 16777216 * (UInt8.ofNat (n / 16777216)).toNat = n
  simp only [UInt8.toNat_ofNat']
  omega
theorem le4_rd4 : ∀ (l : List UInt8), 4 ≤ l.length → l.take 4 = le4 (rd4 l)
  | a :: b :: c :: d :: r, _ => by
    have h0 := a.toNat_lt
    have h1 := b.toNat_lt
    have h2 := c.toNat_lt
    have h3 := d.toNat_lt
    have e : ∀ (x : UInt8) (n : Nat), n % 256 = x.toNat → UInt8.ofNat n = x := fun x n h => by
      apply UInt8.toNat_inj.1
      simp only [UInt8.toNat_ofNat']
      omega
    simp only [rd4, le4, List.take_succ_cons, List.take_zero, List.cons.injEq, and_true]
    refine ⟨(e a _ (by omega)).symm, (e b _ (by omega)).symm, (e c _ (by omega)).symm, (e d _ (by omega)).symm⟩
  | [], h => by simp at h
  | [_], h => by simp at h
  | [_, _], h => by simp at h
  | [_, _, _], h => by simp at h

theorem pc_zero {l : List UInt8} {most : Int} (h : pcE l most = 0) : ∃ n k, rd l = (n, k, 0) ∧ (n : Int) ≤ most ∧ k + n ≤ l.length ∧ pcK l most = k + n ∧ pcD l most = (l.drop k).take n := by
  have hf := rd_facts l
  have h' := h
  unfold pcE at h'
  obtain ⟨n, k, e, hr⟩ : ∃ n k e, rd l = (n, k, e) := ⟨_, _, _, rfl⟩
  have hK : pcK l most = (rd l).2.1 + (rd l).1 := by unfold pcK; rw [if_pos h]
  have hD : pcD l most = (l.drop (rd l).2.1).take (rd l).1 := by unfold pcD; rw [if_pos h]
  rw [hr] at h' hf hK hD
  simp only at h' hf hK hD
  by_cases h0 : e = 0
  · subst h0
    rw [if_neg (by simp)] at h'
    by_cases h1 : most < 0 ∨ most < n
    · rw [if_pos h1] at h'; cases h'
    · rw [if_neg h1] at h'
      by_cases h2 : l.length - k < n
      · rw [if_pos h2] at h'; cases h'
      · have := hf.2.2.2 rfl
        exact ⟨n, k, hr, by omega, by omega, hK, hD⟩
  · rw [if_pos h0] at h'; exact absurd h' h0

/-- What is read as a frame is laid as that frame. -/
theorem fr_canon {l : List UInt8} (h : frE l = 0) : l.take (frK l) = frLay (frKind l) (frD l) ∧ frK l ≤ l.length ∧ (frD l).length ≤ 2000 := by
  have hK : frK l = 5 + pcK (l.drop 5) 2000 := by unfold frK; rw [if_pos h]
  have hD : frD l = pcD (l.drop 5) 2000 := by unfold frD; rw [if_pos h]
  have hk : frKind l = l.getD 4 0 := by unfold frKind; rw [if_pos h]
  unfold frE at h
  by_cases h1 : l.length < 5
  · rw [if_pos h1] at h; cases h
  · rw [if_neg h1] at h
    by_cases h2 : pcE (l.drop 5) 2000 = 0
    · rw [if_neg (by simpa using h2)] at h
      by_cases h3 : rd4 l = crc ((l.drop 4).take (1 + pcK (l.drop 5) 2000))
      · obtain ⟨n, k, hr, hn, hkn, eK, eD⟩ := pc_zero h2
        have hc := rd_canon hr
        rw [eK] at hK h3
        rw [eD] at hD
        simp only [List.length_drop] at hkn
        have hDl : (frD l).length = n := by rw [hD]; simp; omega
        have e4 : l.drop 4 = l.getD 4 0 :: l.drop 5 := by
          rw [List.drop_eq_getElem_cons (by omega), List.getD_eq_getElem?_getD, List.getElem?_eq_getElem (by omega)]; rfl
        have hbody : (l.drop 4).take (1 + (k + n)) = frBody (frKind l) (frD l) := by
          rw [e4, Nat.add_comm 1, List.take_succ_cons, frBody, hDl, ← hk, List.take_add, hc, hD]
          rfl
        refine ⟨?_, by omega, by omega⟩
        rw [hK, show 5 + (k + n) = 4 + (1 + (k + n)) by omega, List.take_add, le4_rd4 l (by omega), h3, hbody]
        rfl
      · rw [if_pos h3] at h; cases h
    · rw [if_pos h2] at h; exact absurd h h2

/-- What is laid as a frame is read as that frame, whatever stands behind it. -/
theorem fr_back (kind : UInt8) (d r : List UInt8) (hd : d.length ≤ 2000) : frE (frLay kind d ++ r) = 0 ∧ frK (frLay kind d ++ r) = (frLay kind d).length ∧ frKind (frLay kind d ++ r) = kind ∧ frD (frLay kind d ++ r) = d := by
  have hl := lay_len d.length
  have e5 : (frLay kind d ++ r).drop 5 = lay d.length ++ (d ++ r) := by
    simp [frLay, le4, frBody]
  have e4 : (frLay kind d ++ r).drop 4 = frBody kind d ++ r := by simp [frLay, le4]
  have hr : rd (lay d.length ++ (d ++ r)) = (d.length, (lay d.length).length, 0) := rd_lay _ (by omega) _
  have hE : pcE (lay d.length ++ (d ++ r)) 2000 = 0 := by
    unfold pcE
    rw [hr]
    simp only
    rw [if_neg (by simp), if_neg (by omega), if_neg (by simp only [List.length_append]; omega)]
  have hK : pcK (lay d.length ++ (d ++ r)) 2000 = (lay d.length).length + d.length := by unfold pcK; rw [if_pos hE, hr]
  have hD : pcD (lay d.length ++ (d ++ r)) 2000 = d := by unfold pcD; rw [if_pos hE, hr]; simp
  have hb : (frBody kind d).length = 1 + ((lay d.length).length + d.length) := by simp [frBody]; omega
  have hln : (frLay kind d).length = 5 + ((lay d.length).length + d.length) := by simp [frLay, le4, hb]; omega
  have h0 : frE (frLay kind d ++ r) = 0 := by
    unfold frE
    rw [e5, e4, hE, hK, if_neg (by simp only [List.length_append]; omega), if_neg (by simp), if_neg]
    rw [← hb, List.take_left]
    have : rd4 (frLay kind d ++ r) = crc (frBody kind d) := by
      unfold frLay
      rw [List.append_assoc]
      exact rd4_le4 _ (crc_lt _) _
    rw [this]; simp
  refine ⟨h0, ?_, ?_, ?_⟩
  · unfold frK; rw [if_pos h0, e5, hK, hln]
  · unfold frKind; rw [if_pos h0]; simp [frLay, le4, frBody]
  · unfold frD; rw [if_pos h0, e5, hD]
end Go.Proofs.Ytkikfdbjfhgfoaa
