/-
  DERIVED. The plain mathematics of the checksum: the table's way and the document's way are one; a byte that is another one gives another sum.
-/
import Derived.Test.YtkikfdbjfhgfoaaMath
namespace Go.Proofs.Ytkikfdbjfhgfoaa

theorem xor_half (a b : Nat) : (a ^^^ b) / 2 = a / 2 ^^^ b / 2 := by
  have := Nat.shiftRight_xor_distrib (a := a) (b := b) (i := 1)
  simpa [Nat.shiftRight_eq_div_pow] using this
theorem xor_odd (a b : Nat) : (a ^^^ b) % 2 = (a % 2 + b % 2) % 2 := by
  have h := Nat.xor_mod_two_pow (a := a) (b := b) (n := 1)
  rw [show 2 ^ 1 = 2 from rfl] at h
  rw [h]
  rcases Nat.mod_two_eq_zero_or_one a with ha | ha <;> rcases Nat.mod_two_eq_zero_or_one b with hb | hb <;> rw [ha, hb] <;> rfl
theorem stp_eq (r : Nat) : stp r = r / 2 ^^^ (if r % 2 = 1 then 2197175160 else 0) := by
  unfold stp; split <;> simp
theorem stp_xor (a b : Nat) : stp (a ^^^ b) = stp a ^^^ stp b := by
  rw [stp_eq, stp_eq a, stp_eq b, xor_half, xor_odd]
  rcases Nat.mod_two_eq_zero_or_one a with ha | ha <;> rcases Nat.mod_two_eq_zero_or_one b with hb | hb <;> simp only [ha, hb]
  · simp
  · simp [Nat.xor_assoc]
  · have : ∀ x y p : Nat, x ^^^ y ^^^ p = x ^^^ p ^^^ y := by
      intro x y p
      rw [Nat.xor_assoc, Nat.xor_comm y p, ← Nat.xor_assoc]
    simp [this]
  · have : ∀ x y p : Nat, x ^^^ p ^^^ (y ^^^ p) = x ^^^ y := by
      intro x y p
      rw [Nat.xor_assoc, Nat.xor_comm y p, ← Nat.xor_assoc p p y, Nat.xor_self, Nat.zero_xor]
    simp [this]
theorem stp8_xor (a b : Nat) : stp8 (a ^^^ b) = stp8 a ^^^ stp8 b := by simp only [stp8, stp_xor]
theorem stp_even (z : Nat) : stp (2 * z) = z := by
  unfold stp; rw [if_neg (by omega)]; omega
theorem stp8_high (y : Nat) : stp8 (256 * y) = y := by
  have : 256 * y = 2 * (2 * (2 * (2 * (2 * (2 * (2 * (2 * y))))))) := by omega
  rw [this]; simp only [stp8, stp_even]
theorem split_byte (x : Nat) : x = 256 * (x / 256) ^^^ x % 256 := by
  have h := Nat.two_pow_add_eq_or_of_lt (i := 8) (show x % 256 < 2 ^ 8 from Nat.mod_lt _ (by decide)) (x / 256)
  have h2 : 2 ^ 8 * (x / 256) ^^^ x % 256 = 2 ^ 8 * (x / 256) ||| x % 256 := by
    apply Nat.eq_of_testBit_eq
    intro i
    rw [Nat.testBit_xor, Nat.testBit_or]
    by_cases hi : i < 8
    · have : (2 ^ 8 * (x / 256)).testBit i = false := by rw [Nat.testBit_two_pow_mul]; simp [show ¬ 8 ≤ i by omega]
      rw [this]; simp
    · have : (x % 256).testBit i = false := by
        rw [show 256 = 2 ^ 8 from rfl, Nat.testBit_mod_two_pow]; simp [hi]
      rw [this]; simp
  show x = 2 ^ 8 * (x / 256) ^^^ x % 256
  rw [h2, ← h]; omega
theorem stp8_split (x : Nat) : stp8 x = x / 256 ^^^ stp8 (x % 256) := by
  conv => lhs; rw [split_byte x]
  rw [stp8_xor, stp8_high]
theorem tab_at (k : Nat) (h : k < 256) : crcTab.getD k 0 = stp8 k := by
  rw [crcTab_eq, List.getD_eq_getElem?_getD, List.getElem?_map, List.getElem?_range h]; rfl
theorem xor_high (r c : Nat) (hc : c < 256) : (r ^^^ c) / 256 = r / 256 := by
  have := Nat.shiftRight_xor_distrib (a := r) (b := c) (i := 8)
  rw [Nat.shiftRight_eq_div_pow, Nat.shiftRight_eq_div_pow, Nat.shiftRight_eq_div_pow] at this
  have e : c / 2 ^ 8 = 0 := by omega
  rw [e, Nat.xor_zero] at this
  exact this
theorem xor_low (r c : Nat) (hc : c < 256) : (r ^^^ c) % 256 = (r % 256) ^^^ c := by
  have := Nat.xor_mod_two_pow (a := r) (b := c) (n := 8)
  rw [show 2 ^ 8 = 256 from rfl, Nat.mod_eq_of_lt hc] at this
  exact this
/-- The table's step is eight steps of the document's. -/
theorem crc_step (r : Nat) (c : UInt8) : (r / 256) ^^^ crcTab.getD ((r % 256) ^^^ c.toNat) 0 = stp8 (r ^^^ c.toNat) := by
  have hc := c.toNat_lt
  rw [tab_at _ (Nat.xor_lt_two_pow (n := 8) (by omega) hc), stp8_split (r ^^^ c.toNat), xor_high r _ hc, xor_low r _ hc]

def crcRR (r : Nat) (l : List UInt8) : Nat := l.foldl (fun r c => stp8 (r ^^^ c.toNat)) r
theorem crcR_eq (r : Nat) (l : List UInt8) : crcR r l = crcRR r l := by
  unfold crcR crcRR
  congr 1
  funext r c
  exact crc_step r c
theorem crcRR_snoc (r : Nat) (l : List UInt8) (c : UInt8) : crcRR r (l ++ [c]) = stp8 (crcRR r l ^^^ c.toNat) := by
  simp [crcRR, List.foldl_append]

theorem stp8_lt {r : Nat} (h : r < 4294967296) : stp8 r < 4294967296 := by
  unfold stp8
  exact stp_lt (stp_lt (stp_lt (stp_lt (stp_lt (stp_lt (stp_lt (stp_lt h)))))))
theorem crcRR_lt : ∀ (l : List UInt8) (r : Nat), r < 4294967296 → crcRR r l < 4294967296
  | [], r, h => h
  | c :: l, r, h => crcRR_lt l _ (stp8_lt (xor_lt32 h (by have := c.toNat_lt; omega)))

theorem xor_ne (a b P : Nat) (ha : a < 2147483648) (hb : b < 2147483648) (hP : 2147483648 ≤ P) : a ^^^ P ≠ b := by
  intro h
  have h1 : a ^^^ b < 2147483648 := Nat.xor_lt_two_pow (n := 31) ha hb
  have h2 : a ^^^ b = P := by rw [← h, ← Nat.xor_assoc, Nat.xor_self, Nat.zero_xor]
  omega
theorem xor_cancel {a b p : Nat} (h : a ^^^ p = b ^^^ p) : a = b := by
  have := congrArg (· ^^^ p) h
  simpa [Nat.xor_assoc] using this
theorem stp_inj {a b : Nat} (ha : a < 4294967296) (hb : b < 4294967296) (h : stp a = stp b) : a = b := by
  unfold stp at h
  by_cases h1 : a % 2 = 1 <;> by_cases h2 : b % 2 = 1
  · rw [if_pos h1, if_pos h2] at h
    have := xor_cancel h
    omega
  · rw [if_pos h1, if_neg h2] at h
    exact absurd h (xor_ne _ _ _ (by omega) (by omega) (by decide))
  · rw [if_neg h1, if_pos h2] at h
    exact absurd h.symm (xor_ne _ _ _ (by omega) (by omega) (by decide))
  · rw [if_neg h1, if_neg h2] at h
    omega
theorem stp8_inj {a b : Nat} (ha : a < 4294967296) (hb : b < 4294967296) (h : stp8 a = stp8 b) : a = b := by
  have l1 := stp_lt ha; have l2 := stp_lt l1; have l3 := stp_lt l2; have l4 := stp_lt l3; have l5 := stp_lt l4; have l6 := stp_lt l5; have l7 := stp_lt l6
  have m1 := stp_lt hb; have m2 := stp_lt m1; have m3 := stp_lt m2; have m4 := stp_lt m3; have m5 := stp_lt m4; have m6 := stp_lt m5; have m7 := stp_lt m6
  exact stp_inj ha hb (stp_inj l1 m1 (stp_inj l2 m2 (stp_inj l3 m3 (stp_inj l4 m4 (stp_inj l5 m5 (stp_inj l6 m6 (stp_inj l7 m7 h)))))))
theorem xor_byte_lt {r : Nat} (h : r < 4294967296) (c : UInt8) : r ^^^ c.toNat < 4294967296 := xor_lt32 h (by have := c.toNat_lt; omega)
theorem crcRR_inj : ∀ (l : List UInt8) {a b : Nat}, a < 4294967296 → b < 4294967296 → crcRR a l = crcRR b l → a = b
  | [], _, _, _, _, h => h
  | c :: l, a, b, ha, hb, h => by
    have := crcRR_inj l (stp8_lt (xor_byte_lt ha c)) (stp8_lt (xor_byte_lt hb c)) h
    exact xor_cancel (stp8_inj (xor_byte_lt ha c) (xor_byte_lt hb c) this)
theorem crcRR_byte (p q : List UInt8) {c c' : UInt8} (hc : c ≠ c') {r : Nat} (hr : r < 4294967296) : crcRR r (p ++ c :: q) ≠ crcRR r (p ++ c' :: q) := by
  intro h
  have e : ∀ x : UInt8, crcRR r (p ++ x :: q) = crcRR (stp8 (crcRR r p ^^^ x.toNat)) q := fun x => by simp [crcRR, List.foldl_append]
  rw [e, e] at h
  have hp := crcRR_lt p r hr
  have h1 := crcRR_inj q (stp8_lt (xor_byte_lt hp c)) (stp8_lt (xor_byte_lt hp c')) h
  have h2 := stp8_inj (xor_byte_lt hp c) (xor_byte_lt hp c') h1
  rw [Nat.xor_comm _ c.toNat, Nat.xor_comm _ c'.toNat] at h2
  exact hc (UInt8.toNat_inj.1 (xor_cancel h2))
/-- A byte that is another one gives another sum. -/
theorem crc_byte (p q : List UInt8) {c c' : UInt8} (hc : c ≠ c') : crc (p ++ c :: q) ≠ crc (p ++ c' :: q) := by
  unfold crc
  intro h
  have := xor_cancel h
  rw [crcR_eq, crcR_eq] at this
  exact crcRR_byte p q hc (by decide) this
theorem crc_set (l : List UInt8) (i : Nat) (hi : i < l.length) (c : UInt8) (hc : c ≠ l[i]) : crc (l.set i c) ≠ crc l := by
  have e1 : l = l.take i ++ l[i] :: l.drop (i + 1) := by rw [← List.drop_eq_getElem_cons hi, List.take_append_drop]
  have e2 : l.set i c = l.take i ++ c :: l.drop (i + 1) := by rw [List.set_eq_take_append_cons_drop, if_pos hi]
  rw [e2]
  conv => rhs; rw [e1]
  exact crc_byte _ _ hc
end Go.Proofs.Ytkikfdbjfhgfoaa
