/-
  DERIVED. The plain mathematics: numbers in groups of seven bits, the checksum. Nothing of the program.
-/
namespace Go.Proofs.YtankbanonbmffabGreatDoor

/-! ### A number in groups of seven bits -/

def layF : Nat → Nat → List UInt8
  | 0, n => [UInt8.ofNat n]
  | f + 1, n => if n < 128 then [UInt8.ofNat n] else UInt8.ofNat (128 + n % 128) :: layF f (n / 128)

/-- The bytes of a number: P1.1. -/
def lay (n : Nat) : List UInt8 := layF 9 n

theorem layF_enough : ∀ (f g n : Nat), n < 128 ^ (f + 1) → n < 128 ^ (g + 1) → layF f n = layF g n
  | 0, 0, n, _, _ => rfl
  | 0, g + 1, n, h, _ => by simp only [layF]; rw [if_pos (by omega)]
  | f + 1, 0, n, _, h => by simp only [layF]; rw [if_pos (by omega)]
  | f + 1, g + 1, n, hf, hg => by
    simp only [layF]
    by_cases h : n < 128
    · rw [if_pos h, if_pos h]
    · rw [if_neg h, if_neg h, layF_enough f g (n / 128) (by rw [Nat.pow_succ] at hf; omega) (by rw [Nat.pow_succ] at hg; omega)]

theorem lay_small {n : Nat} (h : n < 128) : lay n = [UInt8.ofNat n] := by simp [lay, layF, h]
theorem lay_big {n : Nat} (h : 128 ≤ n) (h2 : n < 18446744073709551616) : lay n = UInt8.ofNat (128 + n % 128) :: lay (n / 128) := by
  show layF 9 n = _ :: layF 9 (n / 128)
  rw [layF_enough 9 8 (n / 128) (by omega) (by omega)]
  simp only [layF]
  rw [if_neg (by omega)]

theorem layF_len : ∀ (f n : Nat), 1 ≤ (layF f n).length ∧ (layF f n).length ≤ f + 1
  | 0, n => by simp [layF]
  | f + 1, n => by
    simp only [layF]
    split
    · simp
    · have := layF_len f (n / 128); simp; omega
theorem lay_len (n : Nat) : 1 ≤ (lay n).length ∧ (lay n).length ≤ 10 := layF_len 9 n
/-- What Uint reads, from its i-th byte on: the number, how many bytes, the error: P1.1. -/
def rdGo : Nat → Nat → List UInt8 → Nat × Nat × Nat
  | i, _, [] => if i < 10 then (0, 0, 10) else (0, 0, 11)
  | i, acc, c :: r =>
    if 10 ≤ i then (0, 0, 11)
    else if 128 ≤ c.toNat then rdGo (i + 1) (acc + c.toNat % 128 * 2 ^ (7 * i)) r
    else if (0 < i ∧ c.toNat = 0) ∨ (i = 9 ∧ 1 < c.toNat) then (0, 0, 11)
    else (acc + c.toNat * 2 ^ (7 * i), i + 1, 0)
def rd (l : List UInt8) : Nat × Nat × Nat := rdGo 0 0 l

/-- The number that an integer is laid as: P1.2. -/
def zig (n : Int) : Nat := if n < 0 then (-2 * n - 1).toNat else (2 * n).toNat


/-! ### The checksum -/
/-- One step on a register. -/
def stp (r : Nat) : Nat := if r % 2 = 1 then (r / 2) ^^^ 2197175160 else r / 2
def stp8 (r : Nat) : Nat := stp (stp (stp (stp (stp (stp (stp (stp r)))))))
def rAt : Nat → Nat
  | 0 => 2197175160
  | j + 1 => stp (rAt j)
def tabA : Nat → List Nat
  | 0 => List.replicate 256 0
  | j + 1 => (tabA j).set (128 / 2 ^ j) (rAt j)
def lowb (i : Nat) : Nat := i &&& (256 - i)
def tabB : Nat → List Nat
  | 0 => tabA 8
  | k + 1 => (tabB k).set (k + 1) ((tabB k).getD (lowb (k + 1)) 0 ^^^ (tabB k).getD ((k + 1) ^^^ lowb (k + 1)) 0)
def crcTab : List Nat := tabB 255
theorem crcTab_eq : crcTab = (List.range 256).map stp8 := by decide +kernel
def crcR (r : Nat) (l : List UInt8) : Nat := l.foldl (fun r c => (r / 256) ^^^ crcTab.getD ((r % 256) ^^^ c.toNat) 0) r
/-- CRC-32C: P1.4. -/
def crc (l : List UInt8) : Nat := crcR 4294967295 l ^^^ 4294967295

theorem tabA_len : ∀ j, (tabA j).length = 256
  | 0 => List.length_replicate
  | j + 1 => by simp [tabA, tabA_len j]
theorem tabB_len : ∀ j, (tabB j).length = 256
  | 0 => tabA_len 8
  | j + 1 => by simp [tabB, tabB_len j]

theorem xor_lt32 {a b : Nat} (ha : a < 4294967296) (hb : b < 4294967296) : a ^^^ b < 4294967296 := Nat.xor_lt_two_pow (n := 32) ha hb
theorem stp_lt {r : Nat} (h : r < 4294967296) : stp r < 4294967296 := by
  unfold stp; split
  · exact xor_lt32 (by omega) (by omega)
  · omega
theorem rAt_lt : ∀ j, rAt j < 4294967296
  | 0 => by decide
  | j + 1 => stp_lt (rAt_lt j)
theorem set_lt {l : List Nat} {i x : Nat} (h : ∀ k, l.getD k 0 < 4294967296) (hx : x < 4294967296) : ∀ k, (l.set i x).getD k 0 < 4294967296 := by
  intro k
  have hk := h k
  simp only [List.getD_eq_getElem?_getD, List.getElem?_set] at hk ⊢
  split
  · split
    · simpa using hx
    · simp
  · exact hk
theorem tabA_lt : ∀ j k, (tabA j).getD k 0 < 4294967296
  | 0 => by
    intro k
    show (List.replicate 256 0).getD k 0 < _
    rw [List.getD_eq_getElem?_getD, List.getElem?_replicate]
    split <;> simp
  | j + 1 => set_lt (tabA_lt j) (rAt_lt j)
theorem tabB_lt : ∀ j k, (tabB j).getD k 0 < 4294967296
  | 0 => tabA_lt 8
  | j + 1 => set_lt (tabB_lt j) (xor_lt32 (tabB_lt j _) (tabB_lt j _))
theorem crcTab_lt (k : Nat) : crcTab.getD k 0 < 4294967296 := tabB_lt 255 k
theorem crcR_lt : ∀ (l : List UInt8) (r : Nat), r < 4294967296 → crcR r l < 4294967296
  | [], r, h => h
  | c :: l, r, h => crcR_lt l _ (xor_lt32 (by omega) (crcTab_lt _))
theorem crc_lt (l : List UInt8) : crc l < 4294967296 := xor_lt32 (crcR_lt l _ (by decide)) (by decide)
theorem crc_123 : crc [49, 50, 51, 52, 53, 54, 55, 56, 57] = 3808858755 := by decide +kernel

/-! ### Four bytes, texts, frames -/
def le4 (n : Nat) : List UInt8 := [UInt8.ofNat n, UInt8.ofNat (n / 256), UInt8.ofNat (n / 65536), UInt8.ofNat (n / 16777216)]
def rd4 : List UInt8 → Nat
  | a :: b :: c :: d :: _ => a.toNat + 256 * b.toNat + 65536 * c.toNat + 16777216 * d.toNat
  | _ => 0
/-- The error of a piece: a number, and so many bytes. -/
def pcE (l : List UInt8) (most : Int) : Nat :=
  if (rd l).2.2 ≠ 0 then (rd l).2.2 else if most < 0 ∨ most < (rd l).1 then 12 else if l.length - (rd l).2.1 < (rd l).1 then 10 else 0
def pcK (l : List UInt8) (most : Int) : Nat := if pcE l most = 0 then (rd l).2.1 + (rd l).1 else 0
def pcD (l : List UInt8) (most : Int) : List UInt8 := if pcE l most = 0 then (l.drop (rd l).2.1).take (rd l).1 else []

theorem rdGo_facts : ∀ (l : List UInt8) (i acc : Nat), i ≤ 10 → acc < 2 ^ (7 * i) →
    (rdGo i acc l).1 < 18446744073709551616 ∧ ((rdGo i acc l).2.2 = 0 ∨ (rdGo i acc l).2.2 = 10 ∨ (rdGo i acc l).2.2 = 11) ∧ ((rdGo i acc l).2.2 ≠ 0 → (rdGo i acc l).1 = 0 ∧ (rdGo i acc l).2.1 = 0) ∧ ((rdGo i acc l).2.2 = 0 → i + 1 ≤ (rdGo i acc l).2.1 ∧ (rdGo i acc l).2.1 ≤ i + l.length ∧ (rdGo i acc l).2.1 ≤ 10)
  | [], i, acc, hi, ha => by
    rw [rdGo]; split <;> simp
  | c :: r, i, acc, hi, ha => by
    have hc := c.toNat_lt
    rw [rdGo]
    split
    · simp
    · split
      · have hm : c.toNat % 128 < 128 := Nat.mod_lt _ (by decide)
        have e : 2 ^ (7 * (i + 1)) = 128 * 2 ^ (7 * i) := by rw [Nat.mul_add, Nat.pow_add]; omega
        have h2 : c.toNat % 128 * 2 ^ (7 * i) ≤ 127 * 2 ^ (7 * i) := Nat.mul_le_mul_right _ (by omega)
        obtain ⟨a, b, d, f⟩ := rdGo_facts r (i + 1) (acc + c.toNat % 128 * 2 ^ (7 * i)) (by omega) (by omega)
        refine ⟨a, b, d, fun h => ?_⟩
        have := f h
        simp only [List.length_cons]
        omega
      · split
        · simp
        · rename_i h1 h2 h3
          have hp : 2 ^ (7 * i) ≤ 2 ^ 63 := Nat.pow_le_pow_right (by decide) (by omega)
          have hb : acc + c.toNat * 2 ^ (7 * i) < 18446744073709551616 := by
            by_cases h9 : i = 9
            · have : c.toNat * 2 ^ (7 * i) ≤ 1 * 2 ^ 63 := Nat.mul_le_mul (by omega) hp
              omega
            · have hp : 2 ^ (7 * i) ≤ 2 ^ 56 := Nat.pow_le_pow_right (by decide) (by omega)
              have : c.toNat * 2 ^ (7 * i) ≤ 127 * 2 ^ 56 := Nat.mul_le_mul (by omega) hp
              omega
          refine ⟨hb, by simp, by simp, fun _ => ?_⟩
          simp only [List.length_cons]
          omega
theorem rd_facts (l : List UInt8) : (rd l).1 < 18446744073709551616 ∧ ((rd l).2.2 = 0 ∨ (rd l).2.2 = 10 ∨ (rd l).2.2 = 11) ∧ ((rd l).2.2 ≠ 0 → (rd l).1 = 0 ∧ (rd l).2.1 = 0) ∧ ((rd l).2.2 = 0 → 1 ≤ (rd l).2.1 ∧ (rd l).2.1 ≤ l.length ∧ (rd l).2.1 ≤ 10) := by
  have := rdGo_facts l 0 0 (by omega) (by decide)
  simpa [rd] using this

/-- What Frame reads: the error; how many bytes; the kind; the data: P1.5. -/
def frE (l : List UInt8) : Nat :=
  if l.length < 5 then 10 else if pcE (l.drop 5) 2000 ≠ 0 then pcE (l.drop 5) 2000
  else if rd4 l ≠ crc ((l.drop 4).take (1 + pcK (l.drop 5) 2000)) then 11 else 0
def frK (l : List UInt8) : Nat := if frE l = 0 then 5 + pcK (l.drop 5) 2000 else 0
def frKind (l : List UInt8) : UInt8 := if frE l = 0 then l.getD 4 0 else 0
def frD (l : List UInt8) : List UInt8 := if frE l = 0 then pcD (l.drop 5) 2000 else []
/-- A frame's bytes: P1.5. -/
def frBody (kind : UInt8) (d : List UInt8) : List UInt8 := kind :: lay d.length ++ d
def frLay (kind : UInt8) (d : List UInt8) : List UInt8 := le4 (crc (frBody kind d)) ++ frBody kind d

/-- The integer that a number stands for: P1.2. -/
def unz (n : Nat) : Int := if n % 2 = 1 then -(n / 2 : Nat) - 1 else (n / 2 : Nat)
def rdI (l : List UInt8) : Int := if (rd l).2.2 = 0 then unz (rd l).1 else 0
end Go.Proofs.YtankbanonbmffabGreatDoor
