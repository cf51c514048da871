/-
  DERIVED. The plain mathematics: numbers in groups of seven bits, the checksum. Nothing of the program.
-/
import Derived.Test.YthjcdibblhcgpaaProg
import Derived.WalkKit
import Derived.ProofKit
import Derived.ArgAppend
import Derived.Laws.AppendOwnNone
import Derived.Laws.BytesString
import Derived.Laws.IdiomStrings
import Derived.Laws.BytesArg
import Derived.WalkLawsBesides
import Derived.KernelRfl
import Derived.Deep.MidRow
import Derived.Deep.RegionHeld3
import Derived.Maps.AppendAt
import Derived.BigQuiet
import Derived.Maps.Range
import Derived.Maps.RangeWalk
import Derived.WalkMore
import Derived.Deep.Cut
import Derived.Deep.CutRange
import Derived.BigRegion
namespace Go.Proofs.Ythjcdibblhcgpaa

/-! ### A number in groups of seven bits -/

def layF : Nat → Nat → List UInt8
  | 0, n => [UInt8.ofNat n]
  | f + 1, n => if n < 128 then [UInt8.ofNat n] else UInt8.ofNat (128 + n % 128) :: layF f (n / 128)

/-- The bytes of a number: P1.1. -/
def lay (n : Nat) : List UInt8 := layF 9 n

theorem layF_enough : ∀ (f g n : Nat), n < 128 ^ (f + 1) → n < 128 ^ (g + 1) → layF f n = layF g n
  | 0, 0, n, _, _ => rfl
  | 0, g + 1, n, h, _ => by simp only [layF]; rw [if_pos (by omega)]
  | f + 1, 0, n, _, h => by simp only [layF]; rw [if_pos (by omega)]
  | f + 1, g + 1, n, hf, hg => by
    simp only [layF]
    by_cases h : n < 128
    · rw [if_pos h, if_pos h]
    · rw [if_neg h, if_neg h, layF_enough f g (n / 128) (by rw [Nat.pow_succ] at hf; omega) (by rw [Nat.pow_succ] at hg; omega)]

theorem lay_small {n : Nat} (h : n < 128) : lay n = [UInt8.ofNat n] := by simp [lay, layF, h]
theorem lay_big {n : Nat} (h : 128 ≤ n) (h2 : n < 18446744073709551616) : lay n = UInt8.ofNat (128 + n % 128) :: lay (n / 128) := by
  show layF 9 n = _ :: layF 9 (n / 128)
  rw [layF_enough 9 8 (n / 128) (by omega) (by omega)]
  simp only [layF]
  rw [if_neg (by omega)]

theorem layF_len : ∀ (f n : Nat), 1 ≤ (layF f n).length ∧ (layF f n).length ≤ f + 1
  | 0, n => by simp [layF]
  | f + 1, n => by
    simp only [layF]
    split
    · simp
    · have := layF_len f (n / 128); simp; omega
theorem lay_len (n : Nat) : 1 ≤ (lay n).length ∧ (lay n).length ≤ 10 := layF_len 9 n
/-- What Uint reads, from its i-th byte on: the number, how many bytes, the error: P1.1. -/
def rdGo : Nat → Nat → List UInt8 → Nat × Nat × Nat
  | i, _, [] => if i < 10 then (0, 0, 10) else (0, 0, 11)
  | i, acc, c :: r =>
    if 10 ≤ i then (0, 0, 11)
    else if 128 ≤ c.toNat then rdGo (i + 1) (acc + c.toNat % 128 * 2 ^ (7 * i)) r
    else if (0 < i ∧ c.toNat = 0) ∨ (i = 9 ∧ 1 < c.toNat) then (0, 0, 11)
    else (acc + c.toNat * 2 ^ (7 * i), i + 1, 0)
def rd (l : List UInt8) : Nat × Nat × Nat := rdGo 0 0 l

/-- The number that an integer is laid as: P1.2. -/
def zig (n : Int) : Nat := if n < 0 then (-2 * n - 1).toNat else (2 * n).toNat


/-! ### The checksum -/
/-- One step on a register. -/
def stp (r : Nat) : Nat := if r % 2 = 1 then (r / 2) ^^^ 2197175160 else r / 2
def stp8 (r : Nat) : Nat := stp (stp (stp (stp (stp (stp (stp (stp r)))))))
def rAt : Nat → Nat
  | 0 => 2197175160
  | j + 1 => stp (rAt j)
def tabA : Nat → List Nat
  | 0 => List.replicate 256 0
  | j + 1 => (tabA j).set (128 / 2 ^ j) (rAt j)
def lowb (i : Nat) : Nat := i &&& (256 - i)
def tabB : Nat → List Nat
  | 0 => tabA 8
  | k + 1 => (tabB k).set (k + 1) ((tabB k).getD (lowb (k + 1)) 0 ^^^ (tabB k).getD ((k + 1) ^^^ lowb (k + 1)) 0)
def crcTab : List Nat := tabB 255
theorem crcTab_eq : crcTab = (List.range 256).map stp8 := by decide +kernel
def crcR (r : Nat) (l : List UInt8) : Nat := l.foldl (fun r c => (r / 256) ^^^ crcTab.getD ((r % 256) ^^^ c.toNat) 0) r
/-- CRC-32C: P1.4. -/
def crc (l : List UInt8) : Nat := crcR 4294967295 l ^^^ 4294967295

theorem tabA_len : ∀ j, (tabA j).length = 256
  | 0 => List.length_replicate
  | j + 1 => by simp [tabA, tabA_len j]
theorem tabB_len : ∀ j, (tabB j).length = 256
  | 0 => tabA_len 8
  | j + 1 => by simp [tabB, tabB_len j]

theorem xor_lt32 {a b : Nat} (ha : a < 4294967296) (hb : b < 4294967296) : a ^^^ b < 4294967296 := Nat.xor_lt_two_pow (n := 32) ha hb
theorem stp_lt {r : Nat} (h : r < 4294967296) : stp r < 4294967296 := by
  unfold stp; split
  · exact xor_lt32 (by omega) (by omega)
  · omega
theorem rAt_lt : ∀ j, rAt j < 4294967296
  | 0 => by decide
  | j + 1 => stp_lt (rAt_lt j)
theorem set_lt {l : List Nat} {i x : Nat} (h : ∀ k, l.getD k 0 < 4294967296) (hx : x < 4294967296) : ∀ k, (l.set i x).getD k 0 < 4294967296 := by
  intro k
  have hk := h k
  simp only [List.getD_eq_getElem?_getD, List.getElem?_set] at hk ⊢
  split
  · split
    · simpa using hx
    · simp
  · exact hk
theorem tabA_lt : ∀ j k, (tabA j).getD k 0 < 4294967296
  | 0 => by
    intro k
    show (List.replicate 256 0).getD k 0 < _
    rw [List.getD_eq_getElem?_getD, List.getElem?_replicate]
    split <;> simp
  | j + 1 => set_lt (tabA_lt j) (rAt_lt j)
theorem tabB_lt : ∀ j k, (tabB j).getD k 0 < 4294967296
  | 0 => tabA_lt 8
  | j + 1 => set_lt (tabB_lt j) (xor_lt32 (tabB_lt j _) (tabB_lt j _))
theorem crcTab_lt (k : Nat) : crcTab.getD k 0 < 4294967296 := tabB_lt 255 k
theorem crcR_lt : ∀ (l : List UInt8) (r : Nat), r < 4294967296 → crcR r l < 4294967296
  | [], r, h => h
  | c :: l, r, h => crcR_lt l _ (xor_lt32 (by omega) (crcTab_lt _))
theorem crc_lt (l : List UInt8) : crc l < 4294967296 := xor_lt32 (crcR_lt l _ (by decide)) (by decide)
theorem crc_123 : crc [49, 50, 51, 52, 53, 54, 55, 56, 57] = 3808858755 := by decide +kernel

/-! ### Four bytes, texts, frames -/
def le4 (n : Nat) : List UInt8 := [UInt8.ofNat n, UInt8.ofNat (n / 256), UInt8.ofNat (n / 65536), UInt8.ofNat (n / 16777216)]
def rd4 : List UInt8 → Nat
  | a :: b :: c :: d :: _ => a.toNat + 256 * b.toNat + 65536 * c.toNat + 16777216 * d.toNat
  | _ => 0
/-- The error of a piece: a number, and so many bytes. -/
def pcE (l : List UInt8) (most : Int) : Nat :=
  if (rd l).2.2 ≠ 0 then (rd l).2.2 else if most < 0 ∨ most < (rd l).1 then 12 else if l.length - (rd l).2.1 < (rd l).1 then 10 else 0
def pcK (l : List UInt8) (most : Int) : Nat := if pcE l most = 0 then (rd l).2.1 + (rd l).1 else 0
def pcD (l : List UInt8) (most : Int) : List UInt8 := if pcE l most = 0 then (l.drop (rd l).2.1).take (rd l).1 else []

theorem rdGo_facts : ∀ (l : List UInt8) (i acc : Nat), i ≤ 10 → acc < 2 ^ (7 * i) →
    (rdGo i acc l).1 < 18446744073709551616 ∧ ((rdGo i acc l).2.2 = 0 ∨ (rdGo i acc l).2.2 = 10 ∨ (rdGo i acc l).2.2 = 11) ∧ ((rdGo i acc l).2.2 ≠ 0 → (rdGo i acc l).1 = 0 ∧ (rdGo i acc l).2.1 = 0) ∧ ((rdGo i acc l).2.2 = 0 → i + 1 ≤ (rdGo i acc l).2.1 ∧ (rdGo i acc l).2.1 ≤ i + l.length ∧ (rdGo i acc l).2.1 ≤ 10)
  | [], i, acc, hi, ha => by
    rw [rdGo]; split <;> simp
  | c :: r, i, acc, hi, ha => by
    have hc := c.toNat_lt
    rw [rdGo]
    split
    · simp
    · split
      · have hm : c.toNat % 128 < 128 := Nat.mod_lt _ (by decide)
        have e : 2 ^ (7 * (i + 1)) = 128 * 2 ^ (7 * i) := by rw [Nat.mul_add, Nat.pow_add]; omega
        have h2 : c.toNat % 128 * 2 ^ (7 * i) ≤ 127 * 2 ^ (7 * i) := Nat.mul_le_mul_right _ (by omega)
        obtain ⟨a, b, d, f⟩ := rdGo_facts r (i + 1) (acc + c.toNat % 128 * 2 ^ (7 * i)) (by omega) (by omega)
        refine ⟨a, b, d, fun h => ?_⟩
        have := f h
        simp only [List.length_cons]
        omega
      · split
        · simp
        · rename_i h1 h2 h3
          have hp : 2 ^ (7 * i) ≤ 2 ^ 63 := Nat.pow_le_pow_right (by decide) (by omega)
          have hb : acc + c.toNat * 2 ^ (7 * i) < 18446744073709551616 := by
            by_cases h9 : i = 9
            · have : c.toNat * 2 ^ (7 * i) ≤ 1 * 2 ^ 63 := Nat.mul_le_mul (by omega) hp
              omega
            · have hp : 2 ^ (7 * i) ≤ 2 ^ 56 := Nat.pow_le_pow_right (by decide) (by omega)
              have : c.toNat * 2 ^ (7 * i) ≤ 127 * 2 ^ 56 := Nat.mul_le_mul (by omega) hp
              omega
          refine ⟨hb, by simp, by simp, fun _ => ?_⟩
          simp only [List.length_cons]
          omega
theorem rd_facts (l : List UInt8) : (rd l).1 < 18446744073709551616 ∧ ((rd l).2.2 = 0 ∨ (rd l).2.2 = 10 ∨ (rd l).2.2 = 11) ∧ ((rd l).2.2 ≠ 0 → (rd l).1 = 0 ∧ (rd l).2.1 = 0) ∧ ((rd l).2.2 = 0 → 1 ≤ (rd l).2.1 ∧ (rd l).2.1 ≤ l.length ∧ (rd l).2.1 ≤ 10) := by
  have := rdGo_facts l 0 0 (by omega) (by decide)
  simpa [rd] using this

/-- What Frame reads: the error; how many bytes; the kind; the data: P1.5. -/
def frE (l : List UInt8) : Nat :=
  if l.length < 5 then 10 else if pcE (l.drop 5) 2000 ≠ 0 then pcE (l.drop 5) 2000
  else if rd4 l ≠ crc ((l.drop 4).take (1 + pcK (l.drop 5) 2000)) then 11 else 0
def frK (l : List UInt8) : Nat := if frE l = 0 then 5 + pcK (l.drop 5) 2000 else 0
def frKind (l : List UInt8) : UInt8 := if frE l = 0 then l.getD 4 0 else 0
def frD (l : List UInt8) : List UInt8 := if frE l = 0 then pcD (l.drop 5) 2000 else []
/-- A frame's bytes: P1.5. -/
def frBody (kind : UInt8) (d : List UInt8) : List UInt8 := kind :: lay d.length ++ d
def frLay (kind : UInt8) (d : List UInt8) : List UInt8 := le4 (crc (frBody kind d)) ++ frBody kind d

/-- The integer that a number stands for: P1.2. -/
def unz (n : Nat) : Int := if n % 2 = 1 then -(n / 2 : Nat) - 1 else (n / 2 : Nat)
def rdI (l : List UInt8) : Int := if (rd l).2.2 = 0 then unz (rd l).1 else 0
end Go.Proofs.Ythjcdibblhcgpaa

/-
  DERIVED. Words shared by all walks of this seat: bytes as cells, slices that are read, slices that are grown.
-/
namespace Go.Proofs.Ythjcdibblhcgpaa
open Go.RowKit

theorem hide {p : Prop} (h : p) : Hid p := h
theorem unhide {p : Prop} (h : Hid p) : p := h.out

/-- A byte as a cell. -/
abbrev bv (c : UInt8) : Value := .int .u8 (c.toNat : Int)

/-- A slice value that reads as these bytes. (Where it has no room nothing is known of its address.) -/
def Sl (w : World) (v : Value) (l : List UInt8) : Prop :=
  ∃ ao cap, v = .slice ao l.length cap ∧ l.length ≤ cap ∧ cap ≤ maxLen ∧
    (cap ≠ 0 → ∃ b off, ao = some ⟨b, off, none⟩ ∧ b < w.heap.size ∧ ∀ i, (h : i < l.length) → w.cell? ⟨b, off + i, none⟩ = some (bv l[i]))

theorem Try.info5 : (Try.prog.info? 5).map (fun i => (i.zero, i.size, i.bytes)) = some (some (.int .u8 0), 1, 1) := by kernel_rfl

/-- A slice that a call made for itself. -/
def Own (w : World) (base : Nat) (v : Value) (l : List UInt8) : Prop := w.ownsRow base 5 1 v l.length (l.map bv)

/-- A slice to which can be appended without a write to what was there below 'base'. -/
def Room (w : World) (base : Nat) (v : Value) (l : List UInt8) : Prop :=
  Own w base v l ∨ (Sl w v l ∧ ∃ ao, v = .slice ao l.length l.length)

theorem bv_one (l : List UInt8) : ∀ u ∈ l.map bv, u.oneCell' = true := by
  intro u hu; obtain ⟨c, _, rfl⟩ := List.mem_map.1 hu; rfl

theorem Own.mono {w : World} {base b2 : Nat} {v : Value} {l : List UInt8} (h : Own w base v l) (hb : b2 ≤ base) : Own w b2 v l := by
  obtain ⟨h1, h2⟩ := h
  refine ⟨h1, ?_⟩
  rcases h2 with h | ⟨g, cap, cur, a, b, c⟩
  · exact .inl h
  · exact .inr ⟨g, cap, cur, a, by omega, c⟩

theorem Own.sl {w : World} {base : Nat} {v : Value} {l : List UInt8} (h : Own w base v l) : Sl w v l := by
  obtain ⟨h1, h2⟩ := h
  rcases h2 with ⟨rfl, h⟩ | ⟨g, cap, cur, rfl, hb, hg, hn, hm, hs, ht⟩
  · exact ⟨none, 0, by rw [h], by omega, by unfold maxLen; omega, fun h => absurd rfl h⟩
  · refine ⟨some ⟨g, 0, none⟩, cap, rfl, hn, hm, fun _ => ⟨g, 0, rfl, lt_of_block hg, fun i hi => ?_⟩⟩
    have e : (cur.toList.take (l.length * 1))[i]? = (l.map bv)[i]? := by rw [ht]
    rw [List.getElem?_take_of_lt (by omega)] at e
    simp only [World.cell?, hg]
    simpa [hi] using e

theorem Own.below {B base : Nat} {w w' : World} {v : Value} {l : List UInt8} (h : Own w base v l) (hb : Below B w w') (hB : w.heap.size ≤ B) : Own w' base v l := by
  obtain ⟨h1, h2⟩ := h
  refine ⟨h1, ?_⟩
  rcases h2 with h | ⟨g, cap, cur, a, b, c, r⟩
  · exact .inl h
  · exact .inr ⟨g, cap, cur, a, b, (hb.block g (by have := lt_of_block c; omega)).trans c, r⟩

theorem Sl.below {B : Nat} {w w' : World} {v : Value} {l : List UInt8} (h : Sl w v l) (hb : Below B w w') (hB : w.heap.size ≤ B) : Sl w' v l := by
  obtain ⟨ao, cap, rfl, h1, h2, h4⟩ := h
  refine ⟨ao, cap, rfl, h1, h2, fun hc => ?_⟩
  obtain ⟨b, off, e, a, c⟩ := h4 hc
  exact ⟨b, off, e, by have := hb.size; omega, fun i hi => (hb.cell (p := ⟨b, off + i, none⟩) (by show b < B; omega)).trans (c i hi)⟩

theorem addr_add (b o j : Nat) : (⟨b, o, none⟩ : Addr).add j = ⟨b, o + j, none⟩ := by
  by_cases h : j = 0
  · subst h; simp [Addr.add]
  · simp [Addr.add, h]

/-- THE ONE LAW ON append THAT THE WALKS USE: to a slice with room, bytes that lie somewhere, one at least. -/
theorem wpList_append_room {w : World} {ops : Array Oper} {rest : List Oper} {o : Oper} {a : Act} {Q : Exit → Act → World → Prop} (hgd : o.guard = none) (s x : Operand)
    (ho : o.op = .call { callee := .builtin .append, args := #[s, x], argTypes := #[23, 23] })
    (base : Nat) (v : Value) (l : List UInt8) (hs : a.eval s = v) (hroom : Room w base v l)
    (y : Value) (m : List UInt8) (hx : a.eval x = y) (hy : Sl w y m) (hm : m ≠ []) (hlen : l.length + m.length ≤ 140737488355328) (hbase : base ≤ w.heap.size)
    (h : ∀ v' w', Own w' base v' (l ++ m) → Below base w w' → wpList Try.prog ops Q rest (a.put o.dst v') w') : wpList Try.prog ops Q (o :: rest) a w := by
  obtain ⟨i0, hi, hz0, hz1, hz2⟩ := info_parts Try.info5
  have hmp : 0 < m.length := List.length_pos_iff.2 hm
  obtain ⟨ao, cap, rfl, h1, h2, h4⟩ := hy
  obtain ⟨bk, off, rfl, hlt, hc⟩ := h4 (by omega)
  have hnews : ∀ j u, (m.map bv)[j]? = some u → w.cell? ((⟨bk, off, none⟩ : Addr).add j) = some u := by
    intro j u hj
    rw [List.getElem?_map] at hj
    by_cases hjl : j < m.length
    · rw [List.getElem?_eq_getElem hjl] at hj
      simp only [Option.map_some, Option.some.injEq] at hj
      subst hj
      rw [addr_add]; exact hc j hjl
    · rw [List.getElem?_eq_none (by omega)] at hj; cases hj
  rcases hroom with hown | ⟨hsl, ao2, hv⟩
  · refine wpList_append_own w hgd s x 23 ho base 5 i0 (.int .u8 0) 1 1 Try.underlying23 hi hz0 hz1 hz2 rfl (by decide) v l.length (l.map bv) hs hown ⟨bk, off, none⟩ m.length cap (m.map bv) hx (by simp) hnews (bv_one m) (by unfold maxLen; omega) (by omega) hbase ?_
    intro v' w' ho' hgr _
    refine h v' w' (by simpa [Own] using ho') ((Below.refl _ _).grown hgr hbase ?_)
    intro k hk
    rcases hown.2 with ⟨rfl, _⟩ | ⟨g, cap', cur, rfl, hb, _⟩
    · cases hk
    · simp only [Value.ownBlock, Option.some.injEq] at hk; omega
  · subst hv
    obtain ⟨ao3, cap3, hv3, _, _, h4'⟩ := hsl
    cases hv3
    refine wpList_append_grows w hgd s x 23 ho 5 i0 (.int .u8 0) 1 1 Try.underlying23 hi hz0 hz1 hz2 rfl (by decide) ao2 l.length l.length (l.map bv) hs ?_ (by simp) ?_ ⟨bk, off, none⟩ m.length cap (m.map bv) hx (by simp) hnews (bv_one m) (by omega) (by unfold maxLen; omega) (by omega) ?_
    · intro hn
      by_cases hz : l.length = 0
      · exact ⟨hz, hz⟩
      · obtain ⟨b, o, e, _⟩ := h4' hz
        rw [hn] at e; cases e
    · intro b hb j u hj
      rw [List.getElem?_map] at hj
      by_cases hjl : j < l.length
      · obtain ⟨bb, bo, e, a2, a3⟩ := h4' (by omega)
        rw [hb] at e
        cases e
        rw [List.getElem?_eq_getElem hjl] at hj
        simp only [Option.map_some, Option.some.injEq] at hj
        subst hj
        rw [addr_add]; exact a3 j hjl
      · rw [List.getElem?_eq_none (by omega)] at hj; cases hj
    · intro v' w' ho' hgr
      have ho2 : Own w' w.heap.size v' (l ++ m) := by simpa [Own] using ho'
      exact h v' w' (ho2.mono hbase) ((Below.refl _ _).grown hgr hbase (fun k hk => by cases hk))

theorem Sl.cases {w : World} {v : Value} {l : List UInt8} (h : Sl w v l) : (l = [] ∧ ∃ ao, v = .slice ao 0 0) ∨ ∃ b off cap, v = .slice (some ⟨b, off, none⟩) l.length cap ∧ l.length ≤ cap ∧ cap ≤ 9223372036854775807 ∧ b < w.heap.size ∧ ∀ i, (h : i < l.length) → w.cell? ⟨b, off + i, none⟩ = some (bv l[i]) := by
  obtain ⟨ao, cap, rfl, h1, h2, h4⟩ := h
  unfold maxLen at h2
  by_cases hz : cap = 0
  · subst hz
    obtain rfl : l = [] := List.eq_nil_of_length_eq_zero (by omega)
    exact .inl ⟨rfl, ao, rfl⟩
  · obtain ⟨b, off, rfl, a, c⟩ := h4 hz
    exact .inr ⟨b, off, cap, rfl, h1, by omega, a, c⟩

theorem Sl.alloc {w : World} {v : Value} {l : List UInt8} (h : Sl w v l) (o : Obj) : Sl (w.alloc o) v l :=
  h.below ((Below.refl w.heap.size w).alloc (Nat.le_refl _) o) (Nat.le_refl _)

theorem Sl.drew {w : World} {v : Value} {l : List UInt8} (h : Sl w v l) : Sl w.drew v l := h.below ((Below.refl w.heap.size w).drew) (Nat.le_refl _)
theorem after_drew {B : Nat} {w w' : World} (h : Below B w.drew w') : Below B w w' := ((Below.refl B w).drew).trans h

theorem Room.alloc {w : World} {base : Nat} {v : Value} {l : List UInt8} (h : Room w base v l) (o : Obj) : Room (w.alloc o) base v l := by
  rcases h with h | ⟨h, e⟩
  · exact .inl (World.ownsRow.alloc h o)
  · exact .inr ⟨h.alloc o, e⟩

/-- A new block of bytes. -/
theorem Sl.new (w : World) (l : List UInt8) (hl : l.length ≤ maxLen) (fz : Nat × Nat) : Sl (w.alloc (.cells (l.map bv).toArray 5 fz)) (.slice (some ⟨w.heap.size, 0, none⟩) l.length l.length) l := by
  refine ⟨_, _, rfl, Nat.le_refl _, hl, fun _ => ⟨w.heap.size, 0, rfl, by simp, fun i hi => ?_⟩⟩
  have : (w.alloc (.cells (l.map bv).toArray 5 fz)).heap[w.heap.size]? = some (.cells (l.map bv).toArray 5 fz) := by
    show (w.heap.push _)[w.heap.size]? = _
    simp
  simp only [World.cell?, this]
  simp [hi]

/-! ### Bits of a byte -/
theorem byte_all (p : Nat → Bool) (h : (List.range 256).all p = true) : ∀ k, k < 256 → p k = true := fun k hk => List.all_eq_true.1 h k (List.mem_range.2 hk)
theorem or128 (m : Int) (h : 0 ≤ m) : bits BinOp.or IntKind.u8 (m % 256) 128 = ((UInt8.ofNat (128 + m.toNat % 128)).toNat : Int) := by
  obtain ⟨k, rfl⟩ := Int.eq_ofNat_of_zero_le h
  have hk : k % 256 < 256 := Nat.mod_lt _ (by decide)
  have := byte_all (fun k => bits BinOp.or IntKind.u8 (k : Int) 128 == ((128 + k % 128 : Nat) : Int)) (by decide +kernel) (k % 256) hk
  have e : ((k : Int) % 256) = ((k % 256 : Nat) : Int) := by omega
  rw [e, beq_iff_eq.1 this, Int.toNat_natCast]
  simp only [UInt8.toNat_ofNat']
  omega
theorem byte_of (m : Int) (h : 0 ≤ m) (h2 : m < 128) : m % 256 = ((UInt8.ofNat m.toNat).toNat : Int) := by
  simp only [UInt8.toNat_ofNat']
  omega

theorem not_i64 (n : Int) (h0 : -9223372036854775808 ≤ n) (h1 : n ≤ 9223372036854775807) : bits BinOp.xor IntKind.i64 (-1) n = -n - 1 := by
  have e1 : BitVec.ofInt 64 (-1) = BitVec.allOnes 64 := by decide
  show IntKind.i64.wrap ((BitVec.ofInt 64 (-1) ^^^ BitVec.ofInt 64 n).toNat : Int) = _
  rw [e1, BitVec.allOnes_xor, BitVec.toNat_not, BitVec.toNat_ofInt, IntKind.wrap_i64]
  omega


/-- An append to a slice of one's own, of whatever bytes: none, too. -/
theorem wpList_append_mine {w : World} {ops : Array Oper} {rest : List Oper} {o : Oper} {a : Act} {Q : Exit → Act → World → Prop} (hgd : o.guard = none) (s x : Operand)
    (ho : o.op = .call { callee := .builtin .append, args := #[s, x], argTypes := #[23, 23] })
    (base : Nat) (v : Value) (l : List UInt8) (hs : a.eval s = v) (hown : Own w base v l)
    (y : Value) (m : List UInt8) (hx : a.eval x = y) (hy : Sl w y m) (hlen : l.length + m.length ≤ 140737488355328) (hbase : base ≤ w.heap.size)
    (h : ∀ v' w', Own w' base v' (l ++ m) → Below base w w' → wpList Try.prog ops Q rest (a.put o.dst v') w') : wpList Try.prog ops Q (o :: rest) a w := by
  by_cases hm : m = []
  · subst hm
    obtain ⟨i0, hi, hz0, hz1, hz2⟩ := info_parts Try.info5
    obtain ⟨ao, cap, rfl, h1, h2, h4⟩ := hy
    cases ao with
    | none =>
      obtain rfl : cap = 0 := by
        by_cases hz : cap = 0
        · exact hz
        · obtain ⟨_, _, e, _⟩ := h4 hz; cases e
      refine wpList_append_own_none hgd s x 23 ho base 5 i0 1 Try.underlying23 hi v l.length (l.map bv) hs hown hx ?_
      exact h v w (by simpa using hown) (Below.refl _ _)
    | some ad =>
      refine wpList_append_own w hgd s x 23 ho base 5 i0 (.int .u8 0) 1 1 Try.underlying23 hi hz0 hz1 hz2 rfl (by decide) v l.length (l.map bv) hs hown ad 0 cap [] hx (by simp) (fun j u hj => by simp at hj) (fun u hu => by simp at hu) (by unfold maxLen; omega) (by omega) hbase ?_
      intro v' w' ho' hgr _
      refine h v' w' (by simpa [Own] using ho') ((Below.refl _ _).grown hgr hbase ?_)
      intro k hk
      rcases hown.2 with ⟨rfl, _⟩ | ⟨g, cap', cur, rfl, hb, _⟩
      · cases hk
      · simp only [Value.ownBlock, Option.some.injEq] at hk; omega
  · exact wpList_append_room hgd s x ho base v l hs (.inl hown) y m hx hy hm hlen hbase h
end Go.Proofs.Ythjcdibblhcgpaa

/-
  DERIVED. Blocks and runs, plainly: canon L, the runs of a list of blocks.
-/
namespace Go.Proofs.Ythjcdibblhcgpaa
set_option linter.unusedVariables false

/-- The blocks of runs. -/
def bks (X : List (Nat × Nat)) : List Nat := X.flatMap fun x => List.range' x.1 x.2
theorem bks_nil : bks [] = [] := rfl
theorem bks_cons (x : Nat × Nat) (X : List (Nat × Nat)) : bks (x :: X) = List.range' x.1 x.2 ++ bks X := by simp [bks]
theorem bks_append (X Y : List (Nat × Nat)) : bks (X ++ Y) = bks X ++ bks Y := by simp [bks]
theorem bks_one (x : Nat × Nat) : bks [x] = List.range' x.1 x.2 := by simp [bks]

/-- A run behind runs: joined with the last one where it follows on it. -/
def jstep (X : List (Nat × Nat)) (r : Nat × Nat) : List (Nat × Nat) :=
  match X.getLast? with
  | none => X ++ [r]
  | some z => if z.1 + z.2 = r.1 then X.dropLast ++ [(z.1, z.2 + r.2)] else X ++ [r]
theorem jstep_nil (r : Nat × Nat) : jstep [] r = [r] := rfl
theorem jstep_join (X : List (Nat × Nat)) (a m n : Nat) : jstep (X ++ [(a, m)]) (a + m, n) = X ++ [(a, m + n)] := by simp [jstep]
theorem jstep_not (X : List (Nat × Nat)) (z r : Nat × Nat) (h : z.1 + z.2 ≠ r.1) : jstep (X ++ [z]) r = X ++ [z] ++ [r] := by simp [jstep, h]
theorem list_snoc {α : Type} (X : List α) : X = [] ∨ ∃ Y z, X = Y ++ [z] := by
  rcases List.eq_nil_or_concat X with h | ⟨Y, z, h⟩
  · exact .inl h
  · exact .inr ⟨Y, z, by simpa using h⟩
theorem jstep_cases (X : List (Nat × Nat)) (r : Nat × Nat) : jstep X r = X ++ [r] ∨ ∃ Y z, X = Y ++ [z] ∧ z.1 + z.2 = r.1 ∧ jstep X r = Y ++ [(z.1, z.2 + r.2)] := by
  rcases list_snoc X with rfl | ⟨Y, z, rfl⟩
  · exact .inl rfl
  · by_cases h : z.1 + z.2 = r.1
    · obtain ⟨r1, r2⟩ := r
      simp only at h
      subst h
      exact .inr ⟨Y, z, rfl, rfl, by obtain ⟨z1, z2⟩ := z; exact jstep_join Y z1 z2 r2⟩
    · exact .inl (jstep_not Y z r h)
theorem range_join (a m n : Nat) : List.range' a m ++ List.range' (a + m) n = List.range' a (m + n) := by simp
theorem bks_jstep (X : List (Nat × Nat)) (r : Nat × Nat) : bks (jstep X r) = bks X ++ List.range' r.1 r.2 := by
  rcases jstep_cases X r with h | ⟨Y, z, rfl, h1, h2⟩
  · rw [h, bks_append, bks_one]
  · rw [h2, bks_append, bks_one, bks_append, bks_one, List.append_assoc, ← h1, range_join]
/-- A run laid block by block. -/
theorem jstep_succ (X : List (Nat × Nat)) (a m : Nat) (hm : 0 < m) : jstep (jstep X (a, m)) (a + m, 1) = jstep X (a, m + 1) := by
  rcases jstep_cases X (a, m) with h | ⟨Y, z, rfl, h1, h2⟩
  · rw [h, jstep_join]
    rcases list_snoc X with rfl | ⟨Y, z, rfl⟩
    · rfl
    · by_cases hz : z.1 + z.2 = a
      · exfalso
        obtain ⟨z1, z2⟩ := z
        simp only at hz
        subst hz
        rw [jstep_join] at h
        have := congrArg List.length h
        simp at this
      · exact (jstep_not Y z _ hz).symm
  · obtain ⟨z1, z2⟩ := z
    simp only at h1 h2
    subst h1
    rw [h2, jstep_join, show z1 + z2 + m = z1 + (z2 + m) by omega, jstep_join, Nat.add_assoc]

/-- The runs of blocks. -/
def canon (L : List Nat) : List (Nat × Nat) := L.foldl (fun X b => jstep X (b, 1)) []
theorem canon_nil : canon [] = [] := rfl
theorem canon_snoc (L : List Nat) (b : Nat) : canon (L ++ [b]) = jstep (canon L) (b, 1) := by simp [canon]
theorem canon_run (L : List Nat) (a : Nat) : ∀ m, 0 < m → canon (L ++ List.range' a m) = jstep (canon L) (a, m)
  | 0, h => by omega
  | 1, _ => by rw [show List.range' a 1 = [a] by simp]; exact canon_snoc L a
  | m + 2, _ => by
    rw [List.range'_concat, ← List.append_assoc, Nat.one_mul, canon_snoc, canon_run L a (m + 1) (by omega), jstep_succ _ _ _ (by omega)]
/-- Runs laid behind. -/
def joinL (X Y : List (Nat × Nat)) : List (Nat × Nat) := Y.foldl jstep X
theorem joinL_snoc (X Y : List (Nat × Nat)) (r : Nat × Nat) : joinL X (Y ++ [r]) = jstep (joinL X Y) r := by simp [joinL]
theorem canon_join (L : List Nat) : ∀ (Y : List (Nat × Nat)), (∀ y ∈ Y, 0 < y.2) → canon (L ++ bks Y) = joinL (canon L) Y := by
  intro Y
  induction Y generalizing L with
  | nil => intro _; simp [bks, joinL]
  | cons y Y ih =>
    intro h
    rw [bks_cons, ← List.append_assoc, ih _ fun z hz => h z (List.mem_cons_of_mem _ hz), canon_run _ _ _ (h y (List.mem_cons_self ..))]
    rfl
theorem bks_joinL (X : List (Nat × Nat)) : ∀ Y : List (Nat × Nat), bks (joinL X Y) = bks X ++ bks Y := by
  intro Y
  induction Y generalizing X with
  | nil => simp [joinL, bks]
  | cons y Y ih =>
    show bks (joinL (jstep X y) Y) = _
    rw [ih, bks_jstep, bks_cons, List.append_assoc]
theorem bks_canon (L : List Nat) : bks (canon L) = L := by
  suffices h : ∀ (L : List Nat) (X : List (Nat × Nat)), bks (L.foldl (fun X b => jstep X (b, 1)) X) = bks X ++ L from by simpa [canon, bks] using h L []
  intro L
  induction L with
  | nil => simp
  | cons b L ih =>
    intro X
    rw [List.foldl_cons, ih, bks_jstep]
    simp

/-- No run follows on the one ahead of it; all have blocks. -/
def Norm : List (Nat × Nat) → Prop
  | [] => True
  | [x] => 0 < x.2
  | x :: y :: r => 0 < x.2 ∧ x.1 + x.2 ≠ y.1 ∧ Norm (y :: r)
theorem Norm.tail {x : Nat × Nat} {X : List (Nat × Nat)} (h : Norm (x :: X)) : Norm X := by
  cases X with
  | nil => trivial
  | cons y r => exact h.2.2
theorem Norm.head {x : Nat × Nat} {X : List (Nat × Nat)} (h : Norm (x :: X)) : 0 < x.2 := by
  cases X with
  | nil => exact h
  | cons y r => exact h.1
theorem Norm.pos {X : List (Nat × Nat)} (h : Norm X) : ∀ x ∈ X, 0 < x.2 := by
  induction X with
  | nil => intro x hx; cases hx
  | cons y r ih =>
    intro x hx
    rcases List.mem_cons.1 hx with rfl | hx
    · exact h.head
    · exact ih h.tail x hx
theorem Norm.left {X Y : List (Nat × Nat)} (h : Norm (X ++ Y)) : Norm X := by
  induction X with
  | nil => trivial
  | cons x X ih =>
    cases X with
    | nil => exact h.head
    | cons y r => exact ⟨h.1, h.2.1, ih h.2.2⟩
theorem Norm.right {X Y : List (Nat × Nat)} (h : Norm (X ++ Y)) : Norm Y := by
  induction X with
  | nil => exact h
  | cons x X ih => exact ih h.tail
theorem Norm.mid {X : List (Nat × Nat)} {z r : Nat × Nat} (h : Norm (X ++ [z] ++ [r])) : z.1 + z.2 ≠ r.1 := by
  have h2 : Norm ([z] ++ [r]) := Norm.right (X := X) (by simpa using h)
  exact h2.2.1
theorem Norm.snoc {X : List (Nat × Nat)} {r : Nat × Nat} (h : Norm X) (hr : 0 < r.2) (hl : ∀ Y z, X = Y ++ [z] → z.1 + z.2 ≠ r.1) : Norm (X ++ [r]) := by
  induction X with
  | nil => exact hr
  | cons x X ih =>
    cases X with
    | nil => exact ⟨h, hl [] x rfl, hr⟩
    | cons y q => exact ⟨h.1, h.2.1, ih h.2.2 fun Y z e => hl (x :: Y) z (by rw [e]; rfl)⟩
/-- The last run longer. -/
theorem Norm.last {X : List (Nat × Nat)} {a m n : Nat} (h : Norm (X ++ [(a, m)])) (hn : 0 < n) : Norm (X ++ [(a, n)]) := by
  refine Norm.snoc h.left hn fun Y z e => ?_
  subst e
  exact h.mid
/-- The first run cut ahead. -/
theorem Norm.first {X : List (Nat × Nat)} {a m k : Nat} (h : Norm ((a, m) :: X)) (hk : k < m) : Norm ((a + k, m - k) :: X) := by
  cases X with
  | nil => show 0 < m - k; omega
  | cons y r =>
    refine ⟨by show 0 < m - k; omega, ?_, h.2.2⟩
    have h1 := h.2.1
    simp only at h1 ⊢
    omega
theorem Norm.jstep {X : List (Nat × Nat)} {r : Nat × Nat} (h : Norm X) (hr : 0 < r.2) : Norm (jstep X r) := by
  rcases list_snoc X with rfl | ⟨Y, z, rfl⟩
  · exact hr
  · by_cases e : z.1 + z.2 = r.1
    · obtain ⟨r1, r2⟩ := r
      obtain ⟨z1, z2⟩ := z
      simp only at e
      subst e
      rw [jstep_join]
      exact h.last (by simp only at hr; omega)
    · rw [jstep_not _ _ _ e]
      refine h.snoc hr fun Y' z' e' => ?_
      have := List.append_inj' e' rfl
      have e2 : z = z' := by simpa using this.2
      rw [← e2]; exact e
theorem norm_canon (L : List Nat) : Norm (canon L) := by
  suffices h : ∀ (L : List Nat) (X : List (Nat × Nat)), Norm X → Norm (L.foldl (fun X b => jstep X (b, 1)) X) from h L [] trivial
  intro L
  induction L with
  | nil => intro X h; exact h
  | cons b L ih => intro X h; exact ih _ (h.jstep (by simp))
theorem canon_bks : ∀ (n : Nat) (X : List (Nat × Nat)), X.length = n → Norm X → canon (bks X) = X
  | 0, X, hl, _ => by rw [List.eq_nil_of_length_eq_zero hl]; rfl
  | n + 1, X, hl, h => by
    rcases list_snoc X with rfl | ⟨Y, z, rfl⟩
    · simp at hl
    · have hz : 0 < z.2 := h.pos z (by simp)
      rw [bks_append, bks_one, canon_run _ _ _ hz, canon_bks n Y (by simpa using hl) h.left]
      rcases list_snoc Y with rfl | ⟨Y', z', rfl⟩
      · rfl
      · exact jstep_not _ _ _ h.mid
theorem canon_of {X : List (Nat × Nat)} {L : List Nat} (h : Norm X) (e : bks X = L) : canon L = X := by rw [← e]; exact canon_bks _ X rfl h

/-- How many blocks runs have. -/
def tot (X : List (Nat × Nat)) : Nat := (bks X).length
theorem tot_nil : tot [] = 0 := rfl
theorem tot_cons (x : Nat × Nat) (X : List (Nat × Nat)) : tot (x :: X) = x.2 + tot X := by simp [tot, bks_cons]
theorem tot_append (X Y : List (Nat × Nat)) : tot (X ++ Y) = tot X + tot Y := by simp [tot, bks_append]
theorem tot_canon (L : List Nat) : tot (canon L) = L.length := by rw [tot, bks_canon]
/-- Where a block lies: in which run, and as which of it. -/
structure In (X : List (Nat × Nat)) (n r k : Nat) : Prop where
  lt : r < X.length
  kl : k < X[r].2
  sum : tot (X.take r) + k = n
theorem In.block {X : List (Nat × Nat)} {n r k : Nat} (h : In X n r k) : (bks X)[n]? = some ((X[r]'h.lt).1 + k) := by
  have hl := h.lt
  have e : X = X.take r ++ X[r] :: X.drop (r + 1) := by rw [← List.drop_eq_getElem_cons hl, List.take_append_drop]
  have hs := h.sum
  have hk := h.kl
  unfold tot at hs
  rw [show bks X = bks (X.take r) ++ (List.range' X[r].1 X[r].2 ++ bks (X.drop (r + 1))) from by
    conv => lhs; rw [e]
    rw [bks_append, bks_cons], List.getElem?_append_right (by omega), List.getElem?_append_left (by rw [List.length_range']; omega)]
  rw [List.getElem?_range' (by omega)]
  congr 1
  omega
/-- What is ahead of a place, and what is from there on. -/
def keptL (X : List (Nat × Nat)) (r k : Nat) : List (Nat × Nat) := X.take r ++ (if 0 < k then [((X[r]?.getD (0, 0)).1, k)] else [])
def goneL (X : List (Nat × Nat)) (r k : Nat) : List (Nat × Nat) := (((X[r]?.getD (0, 0)).1 + k, (X[r]?.getD (0, 0)).2 - k)) :: X.drop (r + 1)
theorem In.getD {X : List (Nat × Nat)} {n r k : Nat} (h : In X n r k) : X[r]?.getD (0, 0) = X[r]'h.lt := by simp [h.lt]
theorem In.kept_gone {X : List (Nat × Nat)} {n r k : Nat} (h : In X n r k) : bks (keptL X r k) ++ bks (goneL X r k) = bks X ∧ tot (keptL X r k) = n := by
  have hl := h.lt
  have hk := h.kl
  have e : X = X.take r ++ X[r] :: X.drop (r + 1) := by rw [← List.drop_eq_getElem_cons hl, List.take_append_drop]
  have hk2 : bks (keptL X r k) = bks (X.take r) ++ List.range' X[r].1 k := by
    rw [keptL, bks_append, h.getD]
    by_cases hz : 0 < k
    · rw [if_pos hz, bks_one]
    · have : k = 0 := by omega
      subst this
      simp [bks]
  refine ⟨?_, ?_⟩
  · rw [hk2, goneL, bks_cons, h.getD]
    conv => rhs; rw [e]
    rw [bks_append, bks_cons, List.append_assoc, ← List.append_assoc (List.range' _ _), range_join, show k + (X[r].2 - k) = X[r].2 by omega]
  · have hs := h.sum
    unfold tot at hs ⊢
    rw [hk2, List.length_append, List.length_range']
    exact hs
theorem In.norms {X : List (Nat × Nat)} {n r k : Nat} (h : In X n r k) (hn : Norm X) : Norm (keptL X r k) ∧ Norm (goneL X r k) := by
  have hl := h.lt
  have hk := h.kl
  have e : X = X.take r ++ X[r] :: X.drop (r + 1) := by rw [← List.drop_eq_getElem_cons hl, List.take_append_drop]
  have hn1 : Norm (X.take r ++ X[r] :: X.drop (r + 1)) := e ▸ hn
  refine ⟨?_, ?_⟩
  · rw [keptL, h.getD]
    by_cases hz : 0 < k
    · rw [if_pos hz]
      have h2 : Norm ((X.take r ++ [(X[r].1, X[r].2)]) ++ X.drop (r + 1)) := by rw [List.append_assoc]; exact hn1
      exact h2.left.last hz
    · rw [if_neg hz, List.append_nil]
      exact hn1.left
  · rw [goneL, h.getD]
    have h2 : Norm ((X[r].1, X[r].2) :: X.drop (r + 1)) := hn1.right
    exact h2.first hk
theorem In.kept {L : List Nat} {n r k : Nat} (h : In (canon L) n r k) : keptL (canon L) r k = canon (L.take n) ∧ goneL (canon L) r k = canon (L.drop n) := by
  obtain ⟨h1, h2⟩ := h.kept_gone
  obtain ⟨h3, h4⟩ := h.norms (norm_canon L)
  rw [bks_canon] at h1
  unfold tot at h2
  have e1 : bks (keptL (canon L) r k) = L.take n := by
    have := congrArg (List.take n) h1
    rw [List.take_append_of_le_length (by omega), ← h2, List.take_length] at this
    rw [this, h2]
  have e2 : bks (goneL (canon L) r k) = L.drop n := by
    have := congrArg (List.drop n) h1
    rw [List.drop_append_of_le_length (by omega), ← h2, List.drop_length, List.nil_append] at this
    rw [this, h2]
  exact ⟨(canon_of h3 e1).symm, (canon_of h4 e2).symm⟩
theorem canon_nil_iff {L : List Nat} : canon L = [] ↔ L = [] := by
  constructor
  · intro h
    rw [← bks_canon L, h]; rfl
  · rintro rfl; rfl
theorem canon_len (L : List Nat) : (canon L).length ≤ L.length := by
  have h := norm_canon L
  have h2 := tot_canon L
  suffices g : ∀ X : List (Nat × Nat), (∀ x ∈ X, 0 < x.2) → X.length ≤ tot X from by have := g _ h.pos; omega
  intro X
  induction X with
  | nil => intro _; simp
  | cons x X ih =>
    intro h
    have h1 := ih fun y hy => h y (List.mem_cons_of_mem _ hy)
    have h2 := h x (List.mem_cons_self ..)
    rw [tot_cons, List.length_cons]
    omega
/-- All blocks below 512. -/
def low (L : List Nat) : Prop := ∀ b ∈ L, b < 512
theorem low_run {X : List (Nat × Nat)} (h : low (bks X)) : ∀ x ∈ X, 0 < x.2 → x.1 + x.2 ≤ 512 := by
  intro x hx hp
  have : x.1 + (x.2 - 1) ∈ bks X := by
    unfold bks
    rw [List.mem_flatMap]
    refine ⟨x, hx, ?_⟩
    rw [List.mem_range']
    exact ⟨x.2 - 1, by omega, by omega⟩
  have := h _ this
  omega
theorem low_canon {L : List Nat} (h : low L) : ∀ x ∈ canon L, 0 < x.2 ∧ x.1 + x.2 ≤ 512 := fun x hx => by
  have hp := (norm_canon L).pos x hx
  exact ⟨hp, low_run (by rw [bks_canon]; exact h) x hx hp⟩
theorem low_take {L : List Nat} (h : low L) (n : Nat) : low (L.take n) := fun b hb => h b (List.mem_of_mem_take hb)
theorem low_drop {L : List Nat} (h : low L) (n : Nat) : low (L.drop n) := fun b hb => h b (List.mem_of_mem_drop hb)
theorem low_append {L M : List Nat} (h : low L) (h2 : low M) : low (L ++ M) := fun b hb => (List.mem_append.1 hb).elim (h b) (h2 b)
theorem low_bks {X : List (Nat × Nat)} (h : ∀ x ∈ X, x.1 + x.2 ≤ 512) : low (bks X) := by
  intro b hb
  unfold bks at hb
  rw [List.mem_flatMap] at hb
  obtain ⟨x, hx, hb⟩ := hb
  rw [List.mem_range'] at hb
  obtain ⟨i, hi, rfl⟩ := hb
  have := h x hx
  omega
end Go.Proofs.Ythjcdibblhcgpaa

/-
  DERIVED. A node in memory: a number and a slice of runs. Slices of runs, of one's own and as they are read.
-/
namespace Go.Proofs.Ythjcdibblhcgpaa
open Go.RowKit
set_option linter.unusedVariables false

theorem setCell_grown (w : World) (b k : Nat) (v : Value) : w.grownBy (w.setCell ⟨b, k, none⟩ v) (some b) := ⟨rfl, rfl, rfl, by simp, fun q _ hq => Below.heap_setCell w ⟨b, k, none⟩ v q (fun e => hq (by rw [e]))⟩
theorem grown_of_below {w w' : World} (h : Below w.heap.size w w') : w.grownBy w' none := ⟨h.os, h.tape, h.output, h.size, fun k hk _ => h.block k hk⟩
theorem below_of_grown {w w' : World} (h : w.grownBy w' none) : Below w.heap.size w w' := ⟨h.os, h.tape, h.output, h.size, fun k hk => h.block k hk (by simp)⟩

def fits (x : Int × Int) : Prop := -9223372036854775808 ≤ x.1 ∧ x.1 ≤ 9223372036854775807 ∧ -9223372036854775808 ≤ x.2 ∧ x.2 ≤ 9223372036854775807

/-- A slice of runs that reads as these. -/
def Rn (w : World) (v : Value) (l : List (Int × Int)) : Prop :=
  ∃ ao cap, v = .slice ao l.length cap ∧ l.length ≤ cap ∧ cap ≤ 9223372036854775807 ∧ (∀ x ∈ l, fits x) ∧
    (l.length ≠ 0 → ∃ b off, ao = some ⟨b, off, none⟩ ∧ b < w.heap.size ∧ ∀ i, (h : i < l.length) → w.cell? ⟨b, off + i * 2, none⟩ = some (.int .i64 l[i].1) ∧ w.cell? ⟨b, off + i * 2 + 1, none⟩ = some (.int .i64 l[i].2))
theorem Rn.kept {w w' : World} {v : Value} {l : List (Int × Int)} (h : Rn w v l) (hg : w.grownBy w' none) : Rn w' v l := by
  obtain ⟨ao, cap, e, h1, h2, h3, h4⟩ := h
  refine ⟨ao, cap, e, h1, h2, h3, fun hl => ?_⟩
  obtain ⟨b, off, e2, hb, hc⟩ := h4 hl
  exact ⟨b, off, e2, by have := hg.size; omega, fun i hi => ⟨hg.cell (hc i hi).1 (by simp), hg.cell (hc i hi).2 (by simp)⟩⟩
theorem Rn.nil (w : World) : Rn w (.slice none 0 0) [] := ⟨none, 0, rfl, by simp, by omega, by simp, fun h => absurd rfl h⟩
theorem Rn.alloc {w : World} {v : Value} {l : List (Int × Int)} (h : Rn w v l) (o : Obj) : Rn (w.alloc o) v l := h.kept (World.grownBy_alloc _ _ _)
theorem grown_drewN' {w w' : World} (h : w.grownBy w' none) (n : Nat) : w.grownBy (w'.drewN n) none := ⟨h.os, h.tape, h.output, h.size, h.block⟩

theorem Try.infoRun3 : (Try.prog.info? 36).map (fun i => (i.zero, i.size, i.bytes)) = some (some (.agg #[.int .i64 0, .int .i64 0]), 2, 16) := by kernel_rfl

/-- The cells of runs. -/
def rcells (xs : List (Nat × Nat)) : List Value := xs.flatMap fun x => [.int .i64 (x.1 : Int), .int .i64 (x.2 : Int)]
theorem rcells_snoc (xs : List (Nat × Nat)) (x : Nat × Nat) : rcells (xs ++ [x]) = rcells xs ++ [.int .i64 (x.1 : Int), .int .i64 (x.2 : Int)] := by simp [rcells]
theorem rcells_cons (x : Nat × Nat) (xs : List (Nat × Nat)) : rcells (x :: xs) = .int .i64 (x.1 : Int) :: .int .i64 (x.2 : Int) :: rcells xs := by simp [rcells]
theorem rcells_len : ∀ xs : List (Nat × Nat), (rcells xs).length = xs.length * 2
  | [] => rfl
  | x :: xs => by rw [rcells_cons, List.length_cons, List.length_cons, rcells_len xs, List.length_cons]; omega
theorem rcells_at : ∀ (xs : List (Nat × Nat)) (i : Nat) (h : i < xs.length), (rcells xs)[i * 2]? = some (.int .i64 (xs[i].1 : Int)) ∧ (rcells xs)[i * 2 + 1]? = some (.int .i64 (xs[i].2 : Int))
  | x :: xs, 0, _ => by simp [rcells]
  | x :: xs, i + 1, h => by
    have ih := rcells_at xs i (by simpa using h)
    rw [rcells_cons, show (i + 1) * 2 = i * 2 + 1 + 1 by omega, show i * 2 + 1 + 1 + 1 = (i * 2 + 1) + 1 + 1 by omega]
    simp only [List.getElem?_cons_succ, List.getElem_cons_succ]
    exact ih
theorem rcells_one (xs : List (Nat × Nat)) : ∀ u ∈ rcells xs, u.oneCell' = true := by
  intro u hu
  unfold rcells at hu
  rw [List.mem_flatMap] at hu
  obtain ⟨x, _, hx⟩ := hu
  rcases List.mem_cons.1 hx with rfl | hx
  · rfl
  · rcases List.mem_cons.1 hx with rfl | hx
    · rfl
    · cases hx
theorem rcells_set1 : ∀ (xs : List (Nat × Nat)) (i m : Nat) (h : i < xs.length), (rcells xs).set (i * 2 + 1) (.int .i64 (m : Int)) = rcells (xs.set i (xs[i].1, m))
  | x :: xs, 0, m, _ => by simp [rcells]
  | x :: xs, i + 1, m, h => by
    have ih := rcells_set1 xs i m (by simpa using h)
    rw [rcells_cons, show (i + 1) * 2 + 1 = (i * 2 + 1) + 1 + 1 by omega, List.set_cons_succ, List.set_cons_succ, ih, List.set_cons_succ, rcells_cons]
    rfl
theorem rcells_set0 : ∀ (xs : List (Nat × Nat)) (i m : Nat) (h : i < xs.length), (rcells xs).set (i * 2) (.int .i64 (m : Int)) = rcells (xs.set i (m, xs[i].2))
  | x :: xs, 0, m, _ => by simp [rcells]
  | x :: xs, i + 1, m, h => by
    have ih := rcells_set0 xs i m (by simpa using h)
    rw [rcells_cons, show (i + 1) * 2 = (i * 2) + 1 + 1 by omega, List.set_cons_succ, List.set_cons_succ, ih, List.set_cons_succ, rcells_cons]
    rfl

/-- A slice of runs of one's own. -/
def ROwn (w : World) (base : Nat) (v : Value) (xs : List (Nat × Nat)) : Prop := w.ownsRow base 36 2 v xs.length (rcells xs)
def toI (x : Nat × Nat) : Int × Int := ((x.1 : Int), (x.2 : Int))

theorem ROwn.nil (w : World) (base : Nat) : ROwn w base (.slice none 0 0) [] := World.ownsRow_nil w _ _ _
theorem ROwn.kept {W W' : World} {base : Nat} {v : Value} {xs : List (Nat × Nat)} {row : Option Nat} (h : ROwn W base v xs) (hg : W.grownBy W' row) (hne : ∀ q, v.ownBlock = some q → some q ≠ row) : ROwn W' base v xs := by
  obtain ⟨h1, h2⟩ := h
  refine ⟨h1, ?_⟩
  rcases h2 with h2 | ⟨g, cap, cur, rfl, hb, hgb, r⟩
  · exact .inl h2
  · exact .inr ⟨g, cap, cur, rfl, hb, (hg.block g (lt_of_block hgb) (hne g rfl)).trans hgb, r⟩
theorem ROwn.grown {W W' : World} {base : Nat} {v : Value} {xs : List (Nat × Nat)} (h : ROwn W base v xs) (hg : W.grownBy W' none) : ROwn W' base v xs := h.kept hg (fun q _ e => by cases e)
theorem ROwn.mono {w : World} {base b2 : Nat} {v : Value} {xs : List (Nat × Nat)} (h : ROwn w base v xs) (hb : b2 ≤ base) : ROwn w b2 v xs := by
  obtain ⟨h1, h2⟩ := h
  refine ⟨h1, ?_⟩
  rcases h2 with h | ⟨g, cap, cur, a, b, c⟩
  · exact .inl h
  · exact .inr ⟨g, cap, cur, a, by omega, c⟩
theorem ROwn.row {W : World} {base : Nat} {v : Value} {xs : List (Nat × Nat)} (h : ROwn W base v xs) {q : Nat} (hq : v.ownBlock = some q) : base ≤ q ∧ ∃ cur, W.heap[q]? = some (.cells cur 36 (0, 0)) := by
  rcases h.2 with ⟨rfl, _⟩ | ⟨g, cap, cur, rfl, hb, hg, r⟩
  · cases hq
  · cases hq; exact ⟨hb, cur, hg⟩
/-- Another block, by its type. -/
theorem ROwn.ne {W : World} {base : Nat} {v : Value} {xs : List (Nat × Nat)} (h : ROwn W base v xs) {q j : Nat} {C : Array Value} {t : TypeId} {fr : Nat × Nat} (hq : v.ownBlock = some q) (hj : W.heap[j]? = some (.cells C t fr)) (ht : t ≠ 36) : q ≠ j := by
  rintro rfl
  obtain ⟨_, cur, hc⟩ := h.row hq
  rw [hc] at hj
  cases hj
  exact ht rfl
/-- As it is in memory. -/
theorem ROwn.form {w : World} {base : Nat} {v : Value} {xs : List (Nat × Nat)} (h : ROwn w base v xs) : ∃ ao cap, v = .slice ao xs.length cap ∧ xs.length ≤ cap ∧ cap ≤ 9223372036854775807 ∧ (xs.length ≠ 0 → ∃ g, ao = some ⟨g, 0, none⟩ ∧ base ≤ g ∧ g < w.heap.size ∧ ∀ i, (h : i < xs.length) → w.cell? ⟨g, i * 2, none⟩ = some (.int .i64 (xs[i].1 : Int)) ∧ w.cell? ⟨g, i * 2 + 1, none⟩ = some (.int .i64 (xs[i].2 : Int))) := by
  rcases h.2 with ⟨rfl, h0⟩ | ⟨g, cap, cur, rfl, hb, hg, hn, hm, hs, ht⟩
  · exact ⟨none, 0, by rw [h0], by omega, by omega, fun h => absurd h0 h⟩
  · refine ⟨some ⟨g, 0, none⟩, cap, rfl, hn, by unfold maxLen at hm; omega, fun _ => ⟨g, rfl, hb, lt_of_block hg, fun i hi => ?_⟩⟩
    obtain ⟨e1, e2⟩ := rcells_at xs i hi
    have at' : ∀ j, j < xs.length * 2 → cur[j]? = (rcells xs)[j]? := fun j hj => by
      have e : (cur.toList.take (xs.length * 2))[j]? = (rcells xs)[j]? := by rw [ht]
      rw [List.getElem?_take_of_lt (by omega)] at e
      simpa using e
    constructor
    · rw [cell_of_row _ _ _ _ _ _ hg, at' _ (by omega), e1]
    · rw [cell_of_row _ _ _ _ _ _ hg, at' _ (by omega), e2]
theorem ROwn.rn {w : World} {base : Nat} {v : Value} {xs : List (Nat × Nat)} (h : ROwn w base v xs) (hf : ∀ x ∈ xs, x.1 ≤ 65536 ∧ x.2 ≤ 65536) : Rn w v (xs.map toI) := by
  have hfit : ∀ x ∈ xs.map toI, fits x := fun x hx => by
    obtain ⟨y, hy, rfl⟩ := List.mem_map.1 hx
    have := hf y hy
    simp only [fits, toI]
    omega
  obtain ⟨ao, cap, e, h1, h2, h4⟩ := h.form
  refine ⟨ao, cap, by rw [e, List.length_map], by simpa using h1, h2, hfit, fun hl => ?_⟩
  obtain ⟨g, e2, _, hlt, hc⟩ := h4 (by simpa using hl)
  refine ⟨g, 0, e2, hlt, fun i hi => ?_⟩
  have := hc i (by simpa using hi)
  simpa [toI] using this
/-- One cell of it set. -/
theorem ROwn.set1 {w : World} {base g n cap : Nat} {xs : List (Nat × Nat)} (h : ROwn w base (.slice (some ⟨g, 0, none⟩) n cap) xs) (i m : Nat) (hi : i < xs.length) : ROwn (w.setCell ⟨g, i * 2 + 1, none⟩ (.int .i64 (m : Int))) base (.slice (some ⟨g, 0, none⟩) n cap) (xs.set i (xs[i].1, m)) := by
  obtain ⟨h1, h2⟩ := h
  refine ⟨by rw [rcells_len, List.length_set], ?_⟩
  rcases h2 with ⟨e, _⟩ | ⟨g', cap', cur, e, hb, hg, hn, hm, hs, ht⟩
  · cases e
  · cases e
    refine .inr ⟨g, cap, _, by rw [List.length_set], hb, heap_setCell_same w g (i * 2 + 1) cur _ _ hg, by rw [List.length_set]; exact hn, hm, by simpa using hs, ?_⟩
    rw [← rcells_set1 xs i m hi, ← ht, List.length_set, Array.toList_setIfInBounds, List.take_set]
theorem ROwn.set0 {w : World} {base g n cap : Nat} {xs : List (Nat × Nat)} (h : ROwn w base (.slice (some ⟨g, 0, none⟩) n cap) xs) (i m : Nat) (hi : i < xs.length) : ROwn (w.setCell ⟨g, i * 2, none⟩ (.int .i64 (m : Int))) base (.slice (some ⟨g, 0, none⟩) n cap) (xs.set i (m, xs[i].2)) := by
  obtain ⟨h1, h2⟩ := h
  refine ⟨by rw [rcells_len, List.length_set], ?_⟩
  rcases h2 with ⟨e, _⟩ | ⟨g', cap', cur, e, hb, hg, hn, hm, hs, ht⟩
  · cases e
  · cases e
    refine .inr ⟨g, cap, _, by rw [List.length_set], hb, heap_setCell_same w g (i * 2) cur _ _ hg, by rw [List.length_set]; exact hn, hm, by simpa using hs, ?_⟩
    rw [← rcells_set0 xs i m hi, ← ht, List.length_set, Array.toList_setIfInBounds, List.take_set]

theorem run_append_run (w : World) (base : Nat) (ty : TypeId) (v : Value) (xs : List (Nat × Nat)) (hown : ROwn w base v xs) (hb : base ≤ w.heap.size) (hl : xs.length ≤ 65536) (ad : Addr) (c : Nat) (x : Nat × Nat)
    (hc : ∀ j u, ([.int .i64 (x.1 : Int), .int .i64 (x.2 : Int)] : List Value)[j]? = some u → w.cell? (ad.add j) = some u) :
    ∃ v' w', (Builtin.append_ #[28, 28] ty #[v, .slice (some ad) 1 c]).run Try.prog w = .ok v' w' ∧ ROwn w' base v' (xs ++ [x]) ∧ w.grownBy w' v.ownBlock := by
  obtain ⟨i0, hi, hz0, hz1, hz2⟩ := info_parts Try.infoRun3
  have h1c : ∀ u ∈ ([.int .i64 (x.1 : Int), .int .i64 (x.2 : Int)] : List Value), u.oneCell' = true := by
    have := rcells_one [x]
    simpa [rcells] using this
  obtain ⟨v', w', hr, r1, r2, _⟩ := run_append_own (P := Try.prog) w base 28 ty 36 i0 (.agg #[.int .i64 0, .int .i64 0]) 2 16 Try.underlying28 hi hz0 hz1 hz2 rfl (by decide) v xs.length (rcells xs) hown ad 1 c _ rfl hc h1c (by unfold maxLen; omega) (by omega) hb
  exact ⟨v', w', hr, by unfold ROwn; rw [rcells_snoc, List.length_append]; exact r1, r2⟩
theorem wpList_append_run {ops : Array Oper} {rest : List Oper} {o : Oper} {a : Act} {w : World} {Q : Exit → Act → World → Prop} (hgd : o.guard = none) (s x : Operand)
    (hop : o.op = Op.call { callee := Callee.builtin Builtin.append, args := #[s, x], argTypes := #[28, 28] }) (base : Nat) (v : Value) (xs : List (Nat × Nat)) (hs : a.eval s = v) (hown : ROwn w base v xs) (hb : base ≤ w.heap.size) (hl : xs.length ≤ 65536) (ad : Addr) (c : Nat) (y : Nat × Nat)
    (hx : a.eval x = .slice (some ad) 1 c) (hc : ∀ j u, ([.int .i64 (y.1 : Int), .int .i64 (y.2 : Int)] : List Value)[j]? = some u → w.cell? (ad.add j) = some u)
    (hK : ∀ v' w', ROwn w' base v' (xs ++ [y]) → w.grownBy w' v.ownBlock → wpList Try.prog ops Q rest (a.put o.dst v') w') :
    wpList Try.prog ops Q (o :: rest) a w := by
  obtain ⟨i0, hi, hz0, hz1, hz2⟩ := info_parts Try.infoRun3
  have h1c : ∀ u ∈ ([.int .i64 (y.1 : Int), .int .i64 (y.2 : Int)] : List Value), u.oneCell' = true := by
    have := rcells_one [y]
    simpa [rcells] using this
  refine wpList_append_own w hgd s x 28 hop base 36 i0 (.agg #[.int .i64 0, .int .i64 0]) 2 16 Try.underlying28 hi hz0 hz1 hz2 rfl (by decide) v xs.length (rcells xs) hs hown ad 1 c _ hx rfl hc h1c (by unfold maxLen; omega) (by omega) hb ?_
  intro v' w' ho' hgr _
  refine hK v' w' ?_ hgr
  unfold ROwn
  rw [rcells_snoc, List.length_append]
  exact ho'
/-- What is appended to one's own is not seen from where one began. -/
theorem own_step' {w w1 w2 : World} {v : Value} {xs : List (Nat × Nat)} (h : w.grownBy w1 none) (ho : ROwn w1 w.heap.size v xs) (k : w1.grownBy w2 v.ownBlock) : w.grownBy w2 none := h.andThen k (fun j e => .inl (ho.row e).1)
theorem own_step {w w1 w2 : World} {b : Nat} (h : w.grownBy w1 none) (hb : w.heap.size ≤ b) (k : w1.grownBy w2 (some b)) : w.grownBy w2 none := h.andThen k (fun j e => by cases e; exact .inl hb)

/-- One run in a block of its own. -/
theorem Rn.one (w : World) (x1 x2 : Int) (hf : fits (x1, x2)) : Rn (w.alloc (.cells #[.int .i64 x1, .int .i64 x2] 36)) (.slice (some ⟨w.heap.size, 0, none⟩) 1 1) [(x1, x2)] := by
  refine ⟨_, 1, rfl, by simp, by omega, fun x hx => by simp at hx; subst hx; exact hf, fun _ => ⟨w.heap.size, 0, rfl, by simp, fun i hi => ?_⟩⟩
  have : i = 0 := by simp at hi; omega
  subst this
  exact ⟨(cell_of_row _ _ _ _ _ _ (heap_alloc_new _ _)).trans rfl, (cell_of_row _ _ _ _ _ _ (heap_alloc_new _ _)).trans rfl⟩
theorem one_cells (w : World) (x1 x2 : Int) : ∀ j u, ([.int .i64 x1, .int .i64 x2] : List Value)[j]? = some u → (w.alloc (.cells #[.int .i64 x1, .int .i64 x2] 36)).cell? ((⟨w.heap.size, 0, none⟩ : Addr).add j) = some u := by
  intro j u hj
  rw [addr_add, cell_of_row _ _ _ _ _ _ (heap_alloc_new _ _)]
  rw [Nat.zero_add, ← hj]
  simp

theorem one_cells' (w : World) (x1 x2 : Int) : ∀ j u, ([.int .i64 x1, .int .i64 x2] : List Value)[j]? = some u → (w.alloc (.cells #[.int .i64 x1, .int .i64 x2] 36)).cell? ⟨w.heap.size, j, none⟩ = some u := fun j u hj => by
  have := one_cells w x1 x2 j u hj
  rw [addr_add, Nat.zero_add] at this
  exact this

/-! ### A node -/
def bf (n : Nat) : Nat := (n + 511) / 512
structure NdAt (w : World) (b n : Nat) (v : Value) (L : List Nat) : Prop where
  blk : w.heap[b]? = some (.cells #[.int .i64 (n : Int), v] 58 (0, 0))
  runs : ROwn w 0 v (canon L)
  le : n ≤ 32768
  len : L.length = bf n
  lw : low L
theorem NdAt.lt {w : World} {b n : Nat} {v : Value} {L : List Nat} (h : NdAt w b n v L) : b < w.heap.size := lt_of_block h.blk
theorem NdAt.frozen {w : World} {b n : Nat} {v : Value} {L : List Nat} (h : NdAt w b n v L) (i : Nat) : w.frozen? ⟨b, i, none⟩ = false := by simp [World.frozen?, h.blk]
theorem NdAt.num {w : World} {b n : Nat} {v : Value} {L : List Nat} (h : NdAt w b n v L) : w.cell? ⟨b, 0, none⟩ = some (.int .i64 (n : Int)) := (cell_of_row _ _ _ _ _ _ h.blk).trans rfl
theorem NdAt.val {w : World} {b n : Nat} {v : Value} {L : List Nat} (h : NdAt w b n v L) : w.cell? ⟨b, 1, none⟩ = some v := (cell_of_row _ _ _ _ _ _ h.blk).trans rfl
theorem NdAt.grown {w w' : World} {b n : Nat} {v : Value} {L : List Nat} (h : NdAt w b n v L) (hg : w.grownBy w' none) : NdAt w' b n v L := ⟨(hg.block b h.lt (by simp)).trans h.blk, h.runs.grown hg, h.le, h.len, h.lw⟩
theorem NdAt.other {w w' : World} {b n c : Nat} {v : Value} {L : List Nat} (h : NdAt w b n v L) (hg : w.grownBy w' (some c)) (hc : b ≠ c) (hr : ∀ q, v.ownBlock = some q → q ≠ c) : NdAt w' b n v L := ⟨(hg.block b h.lt (by simpa using hc)).trans h.blk, h.runs.kept hg (fun q hq e => hr q hq (by simpa using e)), h.le, h.len, h.lw⟩
theorem ROwn.far {W W' : World} {base b n : Nat} {u v : Value} {L : List Nat} {xs : List (Nat × Nat)} (h : ROwn W base v xs) (hm : NdAt W b n u L) (hg : W.grownBy W' (some b)) : ROwn W' base v xs :=
  h.kept hg (fun q hq e => h.ne hq hm.blk (by decide) (by simpa using e))
/-- Another node changed. -/
theorem NdAt.beside {w w' : World} {b n c m : Nat} {v u : Value} {L M : List Nat} (h : NdAt w b n v L) (h2 : NdAt w c m u M) (hg : w.grownBy w' (some c)) (hc : b ≠ c) : NdAt w' b n v L :=
  h.other hg hc (fun q hq => h.runs.ne hq h2.blk (by decide))
theorem NdAt.new (w : World) : NdAt (w.alloc (.cells #[.int .i64 0, .slice none 0 0] 58)) w.heap.size 0 (.slice none 0 0) [] := ⟨heap_alloc_new _ _, ROwn.nil _ _, by omega, rfl, fun b hb => by cases hb⟩
theorem bf_le {n : Nat} (h : n ≤ 32768) : bf n ≤ 64 := by unfold bf; omega
theorem NdAt.small {w : World} {b n : Nat} {v : Value} {L : List Nat} (h : NdAt w b n v L) : L.length ≤ 64 ∧ (canon L).length ≤ 64 := by
  have h1 := h.len
  have h2 := bf_le h.le
  have h3 := canon_len L
  omega
end Go.Proofs.Ythjcdibblhcgpaa

/-
  DERIVED. New, blocksFor, Size, Blocks, Need, slices.Clone, Runs.
-/
namespace Go.Proofs.Ythjcdibblhcgpaa
open Go.RowKit
set_option linter.unusedVariables false

theorem New_any (w : World) : Calls Try.prog 7 #[] w fun e w' => e = .returned (.pointer (some ⟨w.heap.size, 0, none⟩)) ∧ NdAt w' w.heap.size 0 (.slice none 0 0) [] ∧ w.grownBy w' none := by
  go_enter Try.func7, Try.ntmps7
  go_wp2
  go_ret
  exact ⟨rfl, NdAt.new w, World.grownBy_alloc _ _ _⟩

theorem blocksFor_any (w : World) (n : Nat) (hn : n ≤ 32768) : Calls Try.prog 21 #[.int .i64 (n : Int)] w fun e w' => e = .returned (.int .i64 (bf n : Int)) ∧ w' = w := by
  have h1 : (n : Int) ≤ 32768 := by omega
  go_enter Try.func21, Try.ntmps21
  go_wp2
  go_ret
  refine ⟨congrArg (fun z => Ending.returned (.int .i64 z)) ?_, rfl⟩
  unfold bf
  omega
theorem Size_any (w : World) (b n : Nat) (v : Value) (L : List Nat) (h : NdAt w b n v L) : Calls Try.prog 13 #[.pointer (some ⟨b, 0, none⟩)] w fun e w' => e = .returned (.int .i64 (n : Int)) ∧ w' = w := by
  have c0 := h.num
  go_enter Try.func13, Try.ntmps13
  go_wp2
  go_ret
  exact ⟨rfl, rfl⟩
theorem Size_nil (w : World) : Calls Try.prog 13 #[.pointer none] w fun e w' => e = .returned (.int .i64 0) ∧ w' = w := by
  go_enter Try.func13, Try.ntmps13
  go_wp2
  go_ret
  exact ⟨rfl, rfl⟩
theorem Blocks_any (w : World) (b n : Nat) (v : Value) (L : List Nat) (h : NdAt w b n v L) : Calls Try.prog 14 #[.pointer (some ⟨b, 0, none⟩)] w fun e w' => e = .returned (.int .i64 (L.length : Int)) ∧ w' = w := by
  have H := hide h
  clear h
  go_enter Try.func14, Try.ntmps14
  go_wp2_with fail
  refine (Size_any w b n v L (unhide H)).mono ?_
  rintro e w1 ⟨rfl, rfl⟩
  go_wp2_with fail
  refine (blocksFor_any w1 n (unhide H).le).mono ?_
  rintro e w2 ⟨rfl, rfl⟩
  go_wp2
  go_ret
  rw [(unhide H).len]
  exact ⟨rfl, rfl⟩
theorem Blocks_nil (w : World) : Calls Try.prog 14 #[.pointer none] w fun e w' => e = .returned (.int .i64 0) ∧ w' = w := by
  go_enter Try.func14, Try.ntmps14
  go_wp2_with fail
  refine (Size_nil w).mono ?_
  rintro e w1 ⟨rfl, rfl⟩
  go_wp2_with fail
  refine (blocksFor_any w1 0 (by omega)).mono ?_
  rintro e w2 ⟨rfl, rfl⟩
  go_wp2
  go_ret
  exact ⟨rfl, rfl⟩

theorem Need_ok (w : World) (b n : Nat) (v : Value) (L : List Nat) (h : NdAt w b n v L) (m : Nat) (hm : n + m ≤ 32768) : Calls Try.prog 9 #[.pointer (some ⟨b, 0, none⟩), .int .i64 (m : Int)] w fun e w' => e = .returned (.tuple #[.int .i64 ((bf (n + m) - bf n : Nat) : Int), .int .i64 0]) ∧ w' = w := by
  have c0 := h.num
  have h1 : ¬ (m : Int) < 0 := by omega
  have h2 : ¬ ((32768 : Int) - (n : Int) < (m : Int)) := by omega
  have h3 : (n : Int) + (m : Int) ≤ 32768 := by omega
  have h4 : (n : Int) ≤ 32768 := by omega
  have H := hide h
  clear h
  go_enter Try.func9, Try.ntmps9
  go_wp2_with fail
  refine (blocksFor_any w (n + m) hm).mono ?_
  rintro e w1 ⟨rfl, rfl⟩
  go_wp2_with fail
  refine (Blocks_any w1 b n v L (unhide H)).mono ?_
  rintro e w2 ⟨rfl, rfl⟩
  have e1 := (unhide H).len
  have e2 := bf_le (unhide H).le
  have e3 := bf_le hm
  have e4 : bf n ≤ bf (n + m) := by unfold bf; omega
  go_wp2
  go_ret2
  refine ⟨congrArg (fun z => Ending.returned (.tuple #[.int .i64 z, .int .i64 0])) ?_, rfl⟩
  omega
theorem Need_neg (w : World) (b n : Nat) (v : Value) (L : List Nat) (h : NdAt w b n v L) (m : Int) (hm : m < 0) : Calls Try.prog 9 #[.pointer (some ⟨b, 0, none⟩), .int .i64 m] w fun e w' => e = .returned (.tuple #[.int .i64 0, .int .i64 1]) ∧ w' = w := by
  clear h
  go_enter Try.func9, Try.ntmps9
  go_wp2
  go_ret2
  exact ⟨rfl, rfl⟩
theorem Need_far (w : World) (b n : Nat) (v : Value) (L : List Nat) (h : NdAt w b n v L) (m : Int) (hm : 32768 < (n : Int) + m) (h0 : 0 ≤ m) (h9 : m ≤ 9223372036854775807) : Calls Try.prog 9 #[.pointer (some ⟨b, 0, none⟩), .int .i64 m] w fun e w' => e = .returned (.tuple #[.int .i64 0, .int .i64 60]) ∧ w' = w := by
  have c0 := h.num
  have h1 : ¬ m < 0 := by omega
  have h2 : (32768 : Int) - (n : Int) < m := by omega
  have h5 := h.le
  have h4 : (n : Int) ≤ 32768 := by omega
  clear h hm
  go_enter Try.func9, Try.ntmps9
  go_wp2
  go_ret2
  exact ⟨rfl, rfl⟩
theorem Need_nil (w : World) (m : Int) : Calls Try.prog 9 #[.pointer none, .int .i64 m] w fun e w' => e = .returned (.tuple #[.int .i64 0, .int .i64 1]) ∧ w' = w := by
  go_enter Try.func9, Try.ntmps9
  go_wp2
  go_ret2
  exact ⟨rfl, rfl⟩

theorem Clone_nil (w : World) : Calls Try.prog 39 #[.slice none 0 0] w fun e w' => e = .returned (.slice none 0 0) ∧ w' = w := by
  have hnil := fun (w : World) => Lib.run_eql_slice_nil (P := Try.prog) (w := w) 28
  go_enter Try.func39, Try.ntmps39
  go_wp2
  go_ret
  exact ⟨rfl, rfl⟩
/-- A part of runs that lie in one block. -/
theorem Clone_part (w : World) (g off c : Nat) (xs : List (Nat × Nat)) (hlen : xs.length ≤ 65536)
    (hc : ∀ j u, (rcells xs)[j]? = some u → w.cell? ⟨g, off + j, none⟩ = some u) :
    Calls Try.prog 39 #[.slice (some ⟨g, off, none⟩) xs.length c] w fun e w' => ∃ u, e = .returned u ∧ ROwn w' w.heap.size u xs ∧ w.grownBy w' none := by
  have hnil := fun (w : World) => Lib.run_eql_slice_nil (P := Try.prog) (w := w) 28
  obtain ⟨i0, hi, hz0, hz1, hz2⟩ := info_parts Try.infoRun3
  have HC : Hid (∀ j u, (rcells xs)[j]? = some u → (w.alloc (.cells #[] 36)).cell? ((⟨g, off, none⟩ : Addr).add j) = some u) := hide (fun j u hj => by
    rw [addr_add]
    have h := hc j u hj
    have hl := World.block_lt_of_cell? w _ h
    exact ((Below.refl w.heap.size w).alloc (Nat.le_refl _) _).cell (p := ⟨g, off + j, none⟩) hl |>.trans h)
  have HO : Hid (ROwn (w.alloc (.cells #[] 36)) w.heap.size (.slice (some ⟨w.heap.size, 0, none⟩) 0 0) []) := hide ⟨rfl, .inr ⟨w.heap.size, 0, #[], rfl, Nat.le_refl _, heap_alloc_new _ _, by simp, by unfold maxLen; omega, by simp, by simp [rcells]⟩⟩
  clear hc
  go_enter Try.func39, Try.ntmps39
  go_wp2_with (at_builtin; refine wpList_append_own _ rfl (.tmp 5) (.tmp 6) 28 rfl w.heap.size 36 i0 (.agg #[.int .i64 0, .int .i64 0]) 2 16 Try.underlying28 hi hz0 hz1 hz2 rfl (by decide) _ 0 [] rfl (unhide HO) ⟨g, off, none⟩ xs.length c (rcells xs) rfl (rcells_len xs) (unhide HC) (rcells_one xs) ?b1 ?b2 ?b3 ?_)
  case b1 => unfold maxLen; omega
  case b2 => omega
  case b3 => simp
  intro v' w1 hown hgr _
  have hg : w.grownBy w1 none := (World.grownBy_alloc w (.cells #[] 36) none).andThen hgr (fun j e => by cases e; exact .inl (Nat.le_refl _))
  have HOn : Hid (ROwn w1 w.heap.size v' xs) := hide (by unfold ROwn; simpa using hown)
  clear hown hgr hnil
  go_wp2
  go_ret
  exact ⟨v', rfl, unhide HOn, hg⟩
theorem ROwn.cells {w : World} {base g n cap : Nat} {xs : List (Nat × Nat)} (h : ROwn w base (.slice (some ⟨g, 0, none⟩) n cap) xs) (j : Nat) (u : Value) (hj : (rcells xs)[j]? = some u) : w.cell? ⟨g, j, none⟩ = some u := by
  have := World.ownsRow.cells h (g := g) rfl j u hj
  rw [addr_add, Nat.zero_add] at this
  exact this
theorem Clone_own (w : World) (base : Nat) (v : Value) (xs : List (Nat × Nat)) (h : ROwn w base v xs) (hlen : xs.length ≤ 65536) :
    Calls Try.prog 39 #[v] w fun e w' => ∃ u, e = .returned u ∧ ROwn w' w.heap.size u xs ∧ w.grownBy w' none := by
  rcases h.2 with ⟨rfl, h0⟩ | ⟨g, cap, cur, rfl, hb, hg, hn, hm, hs, ht⟩
  · obtain rfl : xs = [] := List.eq_nil_of_length_eq_zero h0
    refine (Clone_nil w).mono ?_
    rintro e w' ⟨rfl, rfl⟩
    exact ⟨_, rfl, ROwn.nil _ _, World.grownBy.refl _ _⟩
  · exact Clone_part w g 0 cap xs hlen fun j u hj => by rw [Nat.zero_add]; exact h.cells j u hj
theorem Runs_any (w : World) (b n : Nat) (v : Value) (L : List Nat) (h : NdAt w b n v L) : Calls Try.prog 31 #[.pointer (some ⟨b, 0, none⟩)] w fun e w' => ∃ u, e = .returned u ∧ ROwn w' w.heap.size u (canon L) ∧ w.grownBy w' none := by
  have c1 := h.val
  have H := hide h
  clear h
  go_enter Try.func31, Try.ntmps31
  go_wp2_with fail
  refine (Clone_own w 0 v (canon L) (unhide H).runs (by have := (unhide H).small; omega)).mono ?_
  rintro e w1 ⟨u, rfl, ho, hg⟩
  have HO := hide ho
  have HG := hide hg
  clear ho hg c1
  go_wp2
  go_ret
  exact ⟨u, rfl, unhide HO, unhide HG⟩
theorem Runs_nil (w : World) : Calls Try.prog 31 #[.pointer none] w fun e w' => e = .returned (.slice none 0 0) ∧ w' = w := by
  go_enter Try.func31, Try.ntmps31
  go_wp2
  go_ret
  exact ⟨rfl, rfl⟩
end Go.Proofs.Ythjcdibblhcgpaa

/-
  DERIVED. mayBe, haveJust.
-/
namespace Go.Proofs.Ythjcdibblhcgpaa
open Go.RowKit
set_option linter.unusedVariables false

def okR (x : Int × Int) : Prop := 0 < x.2 ∧ 0 ≤ x.1 ∧ x.1 + x.2 ≤ 512
instance (x : Int × Int) : Decidable (okR x) := by unfold okR; infer_instance
def sumL (l : List (Int × Int)) : Int := (l.map fun x => x.2).sum
theorem sumL_snoc (l : List (Int × Int)) (x : Int × Int) : sumL (l ++ [x]) = sumL l + x.2 := by simp [sumL]
def okL (l : List (Int × Int)) (k : Int) : Prop := (∀ x ∈ l, okR x) ∧ sumL l = k
instance (l : List (Int × Int)) (k : Int) : Decidable (okL l k) := by unfold okL; infer_instance
theorem sumL_bounds : ∀ (l : List (Int × Int)), (∀ x ∈ l, okR x) → 0 ≤ sumL l ∧ sumL l ≤ 512 * (l.length : Int)
  | [], _ => by simp [sumL]
  | x :: l, h => by
    have h1 := sumL_bounds l fun y hy => h y (List.mem_cons_of_mem _ hy)
    have h2 := h x (List.mem_cons_self ..)
    unfold okR at h2
    have e : sumL (x :: l) = x.2 + sumL l := by simp [sumL]
    rw [e, List.length_cons]
    omega

theorem mayBe_any (w : World) (x1 x2 : Int) (hf : fits (x1, x2)) : Calls Try.prog 38 #[.agg #[.int .i64 x1, .int .i64 x2]] w fun e w' => e = .returned (.bool (decide (okR (x1, x2)))) ∧ w.grownBy w' none := by
  obtain ⟨f1, f2, f3, f4⟩ := hf
  simp only at f1 f2 f3 f4
  by_cases h1 : 0 < x2
  · by_cases h2 : 0 ≤ x1
    · by_cases h3 : x2 ≤ 512 - x1
      · have HD : Hid (decide (okR (x1, x2)) = true) := hide (decide_eq_true (by unfold okR; simp only; omega))
        go_enter Try.func38, Try.ntmps38
        go_wp2
        go_ret
        rw [unhide HD]
        exact ⟨by simp, World.grownBy_alloc _ _ _⟩
      · have HD : Hid (decide (okR (x1, x2)) = false) := hide (decide_eq_false (by unfold okR; simp only; omega))
        go_enter Try.func38, Try.ntmps38
        go_wp2
        go_ret
        rw [unhide HD]
        exact ⟨by simp, World.grownBy_alloc _ _ _⟩
    · have HD : Hid (decide (okR (x1, x2)) = false) := hide (decide_eq_false (by unfold okR; simp only; omega))
      go_enter Try.func38, Try.ntmps38
      go_wp2
      go_ret
      rw [unhide HD]
      exact ⟨by simp, World.grownBy_alloc _ _ _⟩
  · have HD : Hid (decide (okR (x1, x2)) = false) := hide (decide_eq_false (by unfold okR; simp only; omega))
    go_enter Try.func38, Try.ntmps38
    go_wp2
    go_ret
    rw [unhide HD]
    exact ⟨by simp, World.grownBy_alloc _ _ _⟩

set_option maxHeartbeats 1000000 in
theorem haveJust_any (w : World) (v : Value) (l : List (Int × Int)) (m : Nat) (hv : Rn w v l) (hm : m ≤ 65536) (hl : l.length ≤ 1125899906842624) :
    Calls Try.prog 22 #[v, .int .i64 (m : Int)] w fun e w' => e = .returned (.bool (decide (okL l (m : Int)))) ∧ w.grownBy w' none := by
  have HV := hide hv
  obtain ⟨ao, cap, rfl, hv1, hv2, hv3, hv4⟩ := hv
  clear hv4
  obtain ⟨n, hn⟩ : ∃ n, n = l.length := ⟨_, rfl⟩
  rw [← hn] at hv1 HV hl ⊢
  have HN := hide hn
  clear hn
  have hlen : (n : Int) ≤ 1125899906842624 := by omega
  have hmi : (m : Int) ≤ 65536 := by omega
  go_enter Try.func22, Try.ntmps22
  go_wp2
  go_loopw [1, 9] (fun s i wr => ∃ (k : Nat) (z : Int), i = .int .i64 (k : Int) ∧ s = .int .i64 z ∧ k ≤ n ∧ Hid (z = (m : Int) - sumL (l.take k)) ∧ Hid (∀ x ∈ l.take k, okR x) ∧ w.grownBy wr none) (fun _ i _ => n - (intOf i).toNat)
  case atStart => exact ⟨0, m, rfl, rfl, by omega, hide (by simp [sumL]), hide (by simp), World.grownBy.refl _ _⟩
  case round =>
    obtain ⟨k, z, rfl, rfl, hk, HZ, HK, hg⟩ := hrel
    have hzb : -1152921504606846976 ≤ z ∧ z ≤ 65536 := by
      have h1 := sumL_bounds _ (unhide HK)
      have h2 := unhide HZ
      have h3 : ((l.take k).length : Int) ≤ (k : Int) := by rw [List.length_take]; omega
      omega
    obtain ⟨hz1, hz2⟩ := hzb
    by_cases hlt : k < n
    · have hlt' : (k : Int) < (n : Int) := by omega
      have hkl : k < l.length := by rw [← unhide HN]; exact hlt
      obtain ⟨pb, off, hao, hpb, hc⟩ : ∃ pb off, ao = some ⟨pb, off, none⟩ ∧ pb < wr.heap.size ∧ ∀ i, (h : i < l.length) → wr.cell? ⟨pb, off + i * 2, none⟩ = some (.int .i64 l[i].1) ∧ wr.cell? ⟨pb, off + i * 2 + 1, none⟩ = some (.int .i64 l[i].2) := by
        obtain ⟨ao', cap', e, _, _, _, h4⟩ := (unhide HV).kept hg
        cases e
        exact h4 (by omega)
      subst hao
      obtain ⟨c0, c1⟩ := hc k hkl
      have hfit := hv3 l[k] (List.getElem_mem hkl)
      have HTk : Hid (l.take (k + 1) = l.take k ++ [l[k]]) := hide (List.take_succ_eq_append_getElem hkl)
      obtain ⟨x, hx⟩ : ∃ x, x = l[k] := ⟨_, rfl⟩
      rw [← hx] at c0 c1 hfit HTk
      have HX := hide hx
      clear hc hx
      obtain ⟨x1, x2⟩ := x
      have HF := hide hfit
      obtain ⟨f1, f2, f3, f4⟩ := hfit
      simp only at c0 c1 f1 f2 f3 f4
      have HG : Hid (w.grownBy (wr.alloc (.cells #[.int .i64 x1, .int .i64 x2] 36)) none) := hide (hg.trans (World.grownBy_alloc _ _ _))
      clear hg
      go_wp2_with fail
      refine (mayBe_any _ x1 x2 (unhide HF)).mono ?_
      rintro e w2 ⟨rfl, hg2⟩
      have d1 : w2.cell? ⟨wr.heap.size, 1, none⟩ = some (.int .i64 x2) := hg2.cell ((cell_of_row _ _ _ _ _ _ (heap_alloc_new _ _)).trans rfl) (by simp)
      have HG2 : Hid (w.grownBy w2 none) := hide ((unhide HG).trans hg2)
      clear hg2
      by_cases hok : okR (x1, x2)
      · have hD : decide (okR (x1, x2)) = true := decide_eq_true hok
        rw [hD]
        have HK2 : Hid (∀ x ∈ l.take (k + 1), okR x) := hide (by
          rw [unhide HTk]
          intro x hx
          rcases List.mem_append.1 hx with hx | hx
          · exact unhide HK x hx
          · simp at hx; subst hx; exact hok)
        have HZ2 : Hid (z - x2 = (m : Int) - sumL (l.take (k + 1))) := hide (by rw [unhide HTk, sumL_snoc, unhide HZ]; omega)
        unfold okR at hok
        obtain ⟨o1, o2, o3⟩ := hok
        simp only at o1 o2 o3
        clear hD HK HZ
        go_wp2
        go_roundw
        case rel => exact ⟨k + 1, z - x2, rfl, rfl, by omega, HZ2, HK2, unhide HG2⟩
        case measure => simp [intOf]; omega
      · have hD : decide (okR (x1, x2)) = false := decide_eq_false hok
        rw [hD]
        have HR : Hid (decide (okL l (m : Int)) = false) := hide (decide_eq_false (fun h => hok (by rw [unhide HX]; exact h.1 _ (List.getElem_mem hkl))))
        clear hD hok
        go_wp2
        go_ret
        rw [unhide HR]
        exact ⟨rfl, unhide HG2⟩
    · have hlt' : ¬ (k : Int) < (n : Int) := by omega
      have HT : Hid (l.take k = l) := hide (List.take_of_length_le (by have := unhide HN; omega))
      have HG := hide hg
      clear hg
      go_wp2
      go_ret
      have hz := unhide HZ
      have hK := unhide HK
      rw [unhide HT] at hz hK
      have hR : decide (okL l (m : Int)) = decide (z = 0) := by
        by_cases h0 : z = 0
        · have ho : okL l (m : Int) := ⟨hK, by omega⟩
          rw [decide_eq_true h0, decide_eq_true ho]
        · have ho : ¬ okL l (m : Int) := fun h => h0 (by have := h.2; omega)
          rw [decide_eq_false h0, decide_eq_false ho]
      rw [hR]
      exact ⟨rfl, unhide HG⟩
end Go.Proofs.Ythjcdibblhcgpaa

/-
  DERIVED. joined: two lists of runs as one.
-/
namespace Go.Proofs.Ythjcdibblhcgpaa
open Go.RowKit
set_option linter.unusedVariables false

theorem Norm.joinL {X : List (Nat × Nat)} (h : Norm X) : ∀ (Y : List (Nat × Nat)), (∀ y ∈ Y, 0 < y.2) → Norm (joinL X Y) := by
  intro Y
  induction Y generalizing X with
  | nil => intro _; exact h
  | cons y Y ih => intro hy; exact ih (h.jstep (hy y (List.mem_cons_self ..))) fun z hz => hy z (List.mem_cons_of_mem _ hz)
theorem joinL_len (X : List (Nat × Nat)) : ∀ (Y : List (Nat × Nat)), (joinL X Y).length ≤ X.length + Y.length := by
  intro Y
  induction Y generalizing X with
  | nil => simp [joinL]
  | cons y Y ih =>
    have h1 := ih (jstep X y)
    have h2 : (jstep X y).length ≤ X.length + 1 := by
      rcases jstep_cases X y with h | ⟨Z, z, rfl, _, h⟩
      · rw [h]; simp
      · rw [h]; simp
    show (joinL (jstep X y) Y).length ≤ _
    rw [List.length_cons]
    omega
theorem joinL_take (X Y : List (Nat × Nat)) (k : Nat) (h : k < Y.length) : joinL X (Y.take (k + 1)) = jstep (joinL X (Y.take k)) Y[k] := by rw [List.take_succ_eq_append_getElem h, joinL_snoc]
theorem ROwn.at_last {w : World} {base : Nat} {v : Value} {Z : List (Nat × Nat)} {z : Nat × Nat} (h : ROwn w base v (Z ++ [z])) : ∃ g cap, v = .slice (some ⟨g, 0, none⟩) (Z.length + 1) cap ∧ base ≤ g ∧ g < w.heap.size ∧ Z.length + 1 ≤ cap ∧ cap ≤ 9223372036854775807 ∧ w.cell? ⟨g, Z.length * 2, none⟩ = some (.int .i64 (z.1 : Int)) ∧ w.cell? ⟨g, Z.length * 2 + 1, none⟩ = some (.int .i64 (z.2 : Int)) ∧ (∀ i, w.frozen? ⟨g, i, none⟩ = false) := by
  obtain ⟨ao, cap, e, h1, h2, h4⟩ := h.form
  obtain ⟨g, e2, hb, hl, hc⟩ := h4 (by simp)
  subst e2
  obtain ⟨c0, c1⟩ := hc Z.length (by simp)
  simp only [List.getElem_append_right (Nat.le_refl _), Nat.sub_self, List.getElem_singleton] at c0 c1
  simp only [List.length_append, List.length_singleton] at e h1
  subst e
  obtain ⟨_, cur, hcur⟩ := h.row (q := g) rfl
  exact ⟨g, cap, rfl, hb, hl, h1, h2, c0, c1, fun i => by simp [World.frozen?, hcur]⟩

set_option maxRecDepth 20000 in
set_option maxHeartbeats 2000000 in
theorem joined_any (w : World) (v u : Value) (X Y : List (Nat × Nat)) (hv : ROwn w 0 v X) (hu : Rn w u (Y.map toI)) (hX : Norm X) (hXl : low (bks X)) (hY : ∀ y ∈ Y, 0 < y.2 ∧ y.1 + y.2 ≤ 512) (hlx : X.length ≤ 10000) (hly : Y.length ≤ 10000) :
    Calls Try.prog 23 #[v, u] w fun e w' => ∃ u', e = .returned u' ∧ ROwn w' w.heap.size u' (joinL X Y) ∧ w.grownBy w' none := by
  have HU := hide hu
  have HV := hide hv
  obtain ⟨ao, cap, rfl, hu1, hu2, hu3, hu4⟩ := hu
  rw [List.length_map] at hu1 HU ⊢
  clear hu4 hu3 hv
  obtain ⟨n, hn⟩ : ∃ n, n = Y.length := ⟨_, rfl⟩
  rw [← hn] at hu1 HU hly ⊢
  have HN := hide hn
  have hni : (n : Int) ≤ 10000 := by omega
  clear hn
  go_enter Try.func23, Try.ntmps23
  go_wp2_with fail
  refine (Clone_own w 0 v X (unhide HV) (by omega)).mono ?_
  rintro e w1 ⟨a1, rfl, o1, g1⟩
  have O1 := hide o1
  have G1 := hide g1
  clear o1 g1
  go_wp2
  go_loopw [5, 13] (fun a i wr => ∃ (k : Nat), i = .int .i64 (k : Int) ∧ k ≤ n ∧ ROwn wr w.heap.size a (joinL X (Y.take k)) ∧ w.grownBy wr none) (fun _ i _ => n - (intOf i).toNat)
  case atStart => exact ⟨0, rfl, by omega, by simpa [joinL] using unhide O1, unhide G1⟩
  case round =>
    obtain ⟨k, rfl, hk, ho, hg⟩ := hrel
    by_cases hlt : k < n
    · have hlt' : (k : Int) < (n : Int) := by omega
      have hkl : k < Y.length := by rw [← unhide HN]; exact hlt
      obtain ⟨pb, off, hao, hpb, hc⟩ : ∃ pb off, ao = some ⟨pb, off, none⟩ ∧ pb < wr.heap.size ∧ ∀ i, (h : i < (Y.map toI).length) → wr.cell? ⟨pb, off + i * 2, none⟩ = some (.int .i64 (Y.map toI)[i].1) ∧ wr.cell? ⟨pb, off + i * 2 + 1, none⟩ = some (.int .i64 (Y.map toI)[i].2) := by
        obtain ⟨ao', cap', e, _, _, _, h4⟩ := (unhide HU).kept hg
        injection e with e1 e2 e3
        subst e1
        exact h4 (by rw [List.length_map]; omega)
      subst hao
      obtain ⟨c0, c1⟩ := hc k (by rw [List.length_map]; exact hkl)
      rw [List.getElem_map] at c0 c1
      have hy := hY Y[k] (List.getElem_mem hkl)
      have HJ := hide (joinL_take X Y k hkl)
      have hpre : ∀ y ∈ Y.take k, 0 < y.2 ∧ y.1 + y.2 ≤ 512 := fun y hy => hY y (List.mem_of_mem_take hy)
      have HNm := hide (hX.joinL (Y.take k) fun y hy => (hpre y hy).1)
      have HLw : Hid (low (bks (joinL X (Y.take k)))) := hide (by rw [bks_joinL]; exact low_append hXl (low_bks fun y hy => (hpre y hy).2))
      have hJl : (joinL X (Y.take k)).length ≤ 20000 := by
        have h1 := joinL_len X (Y.take k)
        have h2 : (Y.take k).length ≤ k := by rw [List.length_take]; omega
        omega
      clear hpre
      obtain ⟨J, hJ⟩ : ∃ J, J = joinL X (Y.take k) := ⟨_, rfl⟩
      rw [← hJ] at ho HJ HNm HLw hJl
      obtain ⟨y, hyk⟩ : ∃ y, y = Y[k] := ⟨_, rfl⟩
      rw [← hyk] at c0 c1 hy HJ
      obtain ⟨y1, y2⟩ := y
      simp only [toI] at c0 c1 hy
      obtain ⟨hy1, hy2⟩ := hy
      have hyi1 : (0 : Int) < (y2 : Int) := by omega
      have hyi2 : (y1 : Int) + (y2 : Int) ≤ 512 := by omega
      clear hc hJ hyk hlt hY
      have HG : Hid (w.grownBy (wr.alloc (.cells #[.int .i64 (y1 : Int), .int .i64 (y2 : Int)] 36)) none) := hide (hg.trans (World.grownBy_alloc _ _ _))
      have HO : Hid (ROwn (wr.alloc (.cells #[.int .i64 (y1 : Int), .int .i64 (y2 : Int)] 36)) w.heap.size u5 J) := hide (ho.grown (World.grownBy_alloc _ _ _))
      clear hg ho
      have b0 : (wr.alloc (.cells #[.int .i64 (y1 : Int), .int .i64 (y2 : Int)] 36)).cell? ⟨wr.heap.size, 0, none⟩ = some (.int .i64 (y1 : Int)) := (cell_of_row _ _ _ _ _ _ (heap_alloc_new _ _)).trans rfl
      have b1 : (wr.alloc (.cells #[.int .i64 (y1 : Int), .int .i64 (y2 : Int)] 36)).cell? ⟨wr.heap.size, 1, none⟩ = some (.int .i64 (y2 : Int)) := (cell_of_row _ _ _ _ _ _ (heap_alloc_new _ _)).trans rfl
      rcases list_snoc J with hJ0 | ⟨Z, z, hJZ⟩
      · subst hJ0
        obtain ⟨ao5, cap5, hu5, _, _, _⟩ := (unhide HO).form
        subst hu5
        simp only [List.length_nil] at HO ⊢
        have hd : decide ((0 : Int) ≤ -1) = false := by decide
        go_wp2_with fail
        obtain ⟨W, hW⟩ : ∃ W, W = wr.alloc (.cells #[.int .i64 (y1 : Int), .int .i64 (y2 : Int)] 36) := ⟨_, rfl⟩
        rw [← hW] at b0 b1 HG HO ⊢
        have HS : Hid (wr.heap.size + 1 = W.heap.size) := hide (by rw [hW]; simp)
        clear hW c0 c1
        go_quiet (fail)
        go_wp2_with (at_builtin; refine wpList_append_run rfl (.tmp 48) (.tmp 50) rfl w.heap.size _ [] rfl ?ho ?hb ?hl ⟨_, 0, none⟩ 1 (y1, y2) rfl ?hc ?_)
        case ho => exact (unhide HO).grown (grown_drewN' (World.grownBy.refl _ _) _ |>.trans (World.grownBy_alloc _ _ _))
        case hb => have := (unhide HG).size; simp; omega
        case hl => simp
        case hc => exact one_cells' _ _ _
        intro v' w2 o2 g2
        have o1 : ROwn ((W.drewN nq).alloc (.cells #[.int .i64 (y1 : Int), .int .i64 (y2 : Int)] 36)) w.heap.size (.slice ao5 0 cap5) [] := (unhide HO).grown ((grown_drewN' (World.grownBy.refl _ _) _).trans (World.grownBy_alloc _ _ _))
        have g1 : w.grownBy ((W.drewN nq).alloc (.cells #[.int .i64 (y1 : Int), .int .i64 (y2 : Int)] 36)) none := (grown_drewN' (unhide HG) _).trans (World.grownBy_alloc _ _ _)
        have G2 : Hid (w.grownBy w2 none) := hide (own_step' g1 o1 g2)
        clear o1 g1
        have O2 : Hid (ROwn w2 w.heap.size v' (joinL X (Y.take (k + 1)))) := hide (by rw [unhide HJ]; exact o2)
        clear o2 g2 HO HG b0 b1
        go_wp2
        go_roundw
        case rel => exact ⟨k + 1, rfl, by omega, unhide O2, unhide G2⟩
        case measure => simp [intOf]; omega
      · subst hJZ
        have hz : z.1 + z.2 ≤ 512 ∧ 0 < z.2 := by
          have h1 := (unhide HNm).pos z (by simp)
          exact ⟨low_run (unhide HLw) z (by simp) h1, h1⟩
        obtain ⟨g5, cap5, hu5, hb5, hl5, hcp5, hcq5, d0, d1, hfz⟩ := (unhide HO).at_last
        subst hu5
        obtain ⟨z1, z2⟩ := z
        simp only at hz d0 d1
        obtain ⟨hz1, hz2⟩ := hz
        have hqi : Z.length ≤ 20000 := by simp at hJl; omega
        obtain ⟨q, hq⟩ : ∃ q, q = Z.length := ⟨_, rfl⟩
        rw [← hq] at d0 d1 hcp5 HO hqi ⊢
        have HQ := hide hq
        clear hq
        have hqi : (q : Int) ≤ 20000 := by omega
        have hzi : (z1 : Int) + (z2 : Int) ≤ 512 := by omega
        have hzj : (0 : Int) < (z2 : Int) := by omega
        have e1 : (q : Int) + 1 - 1 = (q : Int) := by omega
        go_wp2_with fail
        obtain ⟨W, hW⟩ : ∃ W, W = wr.alloc (.cells #[.int .i64 (y1 : Int), .int .i64 (y2 : Int)] 36) := ⟨_, rfl⟩
        rw [← hW] at b0 b1 HG HO d0 d1 hl5 hfz ⊢
        have HS : Hid (wr.heap.size + 1 = W.heap.size) := hide (by rw [hW]; simp)
        clear hW c0 c1
        have hd : decide ((0 : Int) ≤ (q : Int)) = true := decide_eq_true (by omega)
        by_cases hj : (z1 : Int) + (z2 : Int) = (y1 : Int)
        · have hj' : ((z1 : Int) + (z2 : Int) == (y1 : Int)) = true := beq_iff_eq.2 hj
          have HJ2 : Hid (joinL X (Y.take (k + 1)) = (Z ++ [(z1, z2)]).set q (z1, z2 + y2)) := hide (by
            rw [unhide HJ, show y1 = z1 + z2 by omega, jstep_join, unhide HQ]
            simp)
          have HO2 : Hid (ROwn (W.setCell ⟨g5, q * 2 + 1, none⟩ (.int .i64 ((z2 : Int) + (y2 : Int)))) w.heap.size (.slice (some ⟨g5, 0, none⟩) (q + 1) cap5) (joinL X (Y.take (k + 1)))) := hide (by
            have h := (unhide HO).set1 q (z2 + y2) (by rw [unhide HQ]; simp)
            have e : (Z ++ [(z1, z2)])[q]'(by rw [unhide HQ]; simp) = (z1, z2) := by simp [unhide HQ]
            rw [e] at h
            rw [unhide HJ2, ← Int.natCast_add]
            exact h)
          have HG2 : Hid (w.grownBy (W.setCell ⟨g5, q * 2 + 1, none⟩ (.int .i64 ((z2 : Int) + (y2 : Int)))) none) := hide (own_step (unhide HG) hb5 (setCell_grown _ _ _ _))
          clear HJ2 HO HG HJ
          go_quiet (fail)
          go_wp2_with fail
          go_region
          go_wp2
          go_roundw
          case rel => exact ⟨k + 1, rfl, by omega, unhide HO2, ⟨(unhide HG2).os, (unhide HG2).tape, (unhide HG2).output, (unhide HG2).size, (unhide HG2).block⟩⟩
          case measure => simp [intOf]; omega
        · have hj' : ((z1 : Int) + (z2 : Int) == (y1 : Int)) = false := beq_eq_false_iff_ne.2 hj
          have HJ2 : Hid (joinL X (Y.take (k + 1)) = Z ++ [(z1, z2)] ++ [(y1, y2)]) := hide (by
            rw [unhide HJ]
            exact jstep_not _ _ _ (by simp only; omega))
          clear HJ
          go_quiet (fail)
          go_wp2_with (at_builtin; refine wpList_append_run rfl (.tmp 48) (.tmp 50) rfl w.heap.size _ (Z ++ [(z1, z2)]) rfl ?ho ?hb ?hl ⟨_, 0, none⟩ 1 (y1, y2) rfl ?hc ?_)
          case ho => exact (unhide HO).grown (grown_drewN' (World.grownBy.refl _ _) _ |>.trans (World.grownBy_alloc _ _ _))
          case hb => have := (unhide HG).size; simp; omega
          case hl => have := unhide HQ; simp; omega
          case hc => exact one_cells' _ _ _
          intro v' w2 o2 g2
          have o1 : ROwn ((W.drewN nq).alloc (.cells #[.int .i64 (y1 : Int), .int .i64 (y2 : Int)] 36)) w.heap.size (.slice (some ⟨g5, 0, none⟩) (q + 1) cap5) (Z ++ [(z1, z2)]) := (unhide HO).grown ((grown_drewN' (World.grownBy.refl _ _) _).trans (World.grownBy_alloc _ _ _))
          have g1 : w.grownBy ((W.drewN nq).alloc (.cells #[.int .i64 (y1 : Int), .int .i64 (y2 : Int)] 36)) none := (grown_drewN' (unhide HG) _).trans (World.grownBy_alloc _ _ _)
          have G2 : Hid (w.grownBy w2 none) := hide (own_step' g1 o1 g2)
          have O2 : Hid (ROwn w2 w.heap.size v' (joinL X (Y.take (k + 1)))) := hide (by rw [unhide HJ2, List.append_assoc]; exact o2)
          clear o1 g1 o2 g2 HO HG b0 b1 d0 d1 hfz
          go_wp2
          go_roundw
          case rel => exact ⟨k + 1, rfl, by omega, unhide O2, unhide G2⟩
          case measure => simp [intOf]; omega
    · have hlt' : ¬ (k : Int) < (n : Int) := by omega
      have HO : Hid (ROwn wr w.heap.size u5 (joinL X Y)) := hide (by
        rw [List.take_of_length_le (by have := unhide HN; omega)] at ho
        exact ho)
      have HG := hide hg
      clear ho hg
      go_wp2
      go_ret
      exact ⟨_, rfl, unhide HO, unhide HG⟩
end Go.Proofs.Ythjcdibblhcgpaa

/-
  DERIVED. Extend.
-/
namespace Go.Proofs.Ythjcdibblhcgpaa
open Go.RowKit
set_option linter.unusedVariables false

theorem NdAt.drewN {w : World} {b n : Nat} {v : Value} {L : List Nat} (h : NdAt w b n v L) (k : Nat) : NdAt (w.drewN k) b n v L := h.grown (grown_drewN' (World.grownBy.refl _ _) k)
/-- A node that is laid anew. -/
theorem NdAt.turned {w : World} {b n m base : Nat} {v u : Value} {L M : List Nat} (h : NdAt w b n v L) (hu : ROwn w base u (canon M)) (hm : m ≤ 32768) (hl : M.length = bf m) (hlow : low M) (x : Int) (hx : x = (m : Int)) :
    NdAt ((w.setCell ⟨b, 0, none⟩ (.int .i64 x)).setCell ⟨b, 1, none⟩ u) b m u M ∧ ROwn ((w.setCell ⟨b, 0, none⟩ (.int .i64 x)).setCell ⟨b, 1, none⟩ u) base u (canon M) ∧ w.grownBy ((w.setCell ⟨b, 0, none⟩ (.int .i64 x)).setCell ⟨b, 1, none⟩ u) (some b) := by
  subst hx
  have hg : w.grownBy ((w.setCell ⟨b, 0, none⟩ (.int .i64 (m : Int))).setCell ⟨b, 1, none⟩ u) (some b) := (setCell_grown w b 0 _).trans (setCell_grown _ b 1 _)
  have h1 := heap_setCell_same w b 0 _ _ (.int .i64 (m : Int)) h.blk
  have h2 := heap_setCell_same _ b 1 _ _ u h1
  have ho := hu.far h hg
  exact ⟨⟨h2, ho.mono (Nat.zero_le _), hm, hl, hlow⟩, ho, hg⟩
theorem okL_of (Y : List (Nat × Nat)) (hY : ∀ y ∈ Y, 0 < y.2 ∧ y.1 + y.2 ≤ 512) (k : Nat) (ht : tot Y = k) : okL (Y.map toI) (k : Int) := by
  refine ⟨fun x hx => ?_, ?_⟩
  · obtain ⟨y, hy, rfl⟩ := List.mem_map.1 hx
    have := hY y hy
    simp only [okR, toI]
    omega
  · subst ht
    clear hY
    induction Y with
    | nil => rfl
    | cons y Y ih =>
      rw [tot_cons, List.map_cons]
      have e : sumL (toI y :: Y.map toI) = (y.2 : Int) + sumL (Y.map toI) := by simp [sumL, toI]
      rw [e, ih]
      omega
theorem of_okL {l : List (Int × Int)} {k : Nat} (h : okL l (k : Int)) : ∃ Y : List (Nat × Nat), l = Y.map toI ∧ (∀ y ∈ Y, 0 < y.2 ∧ y.1 + y.2 ≤ 512) ∧ tot Y = k := by
  refine ⟨l.map fun x => (x.1.toNat, x.2.toNat), ?_, ?_, ?_⟩
  · rw [List.map_map]
    conv => lhs; rw [← List.map_id l]
    refine List.map_congr_left fun x hx => ?_
    have := h.1 x hx
    unfold okR at this
    simp only [Function.comp, toI, id]
    rw [Int.toNat_of_nonneg (by omega), Int.toNat_of_nonneg (by omega)]
  · intro y hy
    obtain ⟨x, hx, rfl⟩ := List.mem_map.1 hy
    have := h.1 x hx
    unfold okR at this
    simp only
    omega
  · have h1 := h.1
    have h2 := h.2
    have : ∀ l : List (Int × Int), (∀ x ∈ l, okR x) → (tot (l.map fun x => (x.1.toNat, x.2.toNat)) : Int) = sumL l := by
      intro l
      induction l with
      | nil => intro _; rfl
      | cons x l ih =>
        intro hx
        have h3 := ih fun y hy => hx y (List.mem_cons_of_mem _ hy)
        have h4 := hx x (List.mem_cons_self ..)
        unfold okR at h4
        have e : sumL (x :: l) = x.2 + sumL l := by simp [sumL]
        rw [List.map_cons, tot_cons, e, ← h3]
        simp only
        omega
    have := this l h1
    omega
theorem len_tot {Y : List (Nat × Nat)} (h : ∀ y ∈ Y, 0 < y.2 ∧ y.1 + y.2 ≤ 512) : Y.length ≤ tot Y := by
  induction Y with
  | nil => simp
  | cons x X ih =>
    have h1 := ih fun y hy => h y (List.mem_cons_of_mem _ hy)
    have h2 := h x (List.mem_cons_self ..)
    rw [tot_cons, List.length_cons]
    omega

set_option maxRecDepth 20000 in
set_option maxHeartbeats 2000000 in
theorem Extend_ok (w : World) (b n m : Nat) (v u : Value) (L : List Nat) (Y : List (Nat × Nat)) (h : NdAt w b n v L) (hm : n + m ≤ 32768) (hu : Rn w u (Y.map toI)) (hY : ∀ y ∈ Y, 0 < y.2 ∧ y.1 + y.2 ≤ 512) (ht : tot Y = bf (n + m) - bf n) :
    Calls Try.prog 10 #[.pointer (some ⟨b, 0, none⟩), .int .i64 (m : Int), u] w fun e w' => e = .returned (.int .i64 0) ∧ ∃ v', NdAt w' b (n + m) v' (L ++ bks Y) ∧ ROwn w' w.heap.size v' (canon (L ++ bks Y)) ∧ w.grownBy w' (some b) := by
  have HM := hide h
  have HU := hide hu
  have HOK : Hid (decide (okL (Y.map toI) ((bf (n + m) - bf n : Nat) : Int)) = true) := hide (decide_eq_true (okL_of Y hY _ ht))
  have hbl := bf_le hm
  have hylen : Y.length ≤ 64 := by have := len_tot hY; omega
  have hni : (n : Int) + (m : Int) ≤ 32768 := by omega
  have HL : Hid ((L ++ bks Y).length = bf (n + m)) := hide (by
    rw [List.length_append, h.len]
    have : bf n ≤ bf (n + m) := by unfold bf; omega
    have h2 : (bks Y).length = bf (n + m) - bf n := ht
    omega)
  have HLw : Hid (low (L ++ bks Y)) := hide (low_append h.lw (low_bks fun y hy => (hY y hy).2))
  have HJ : Hid (joinL (canon L) Y = canon (L ++ bks Y)) := hide (canon_join L Y fun y hy => (hY y hy).1).symm
  have HW : Hid (IntKind.i64.wrap ((n : Int) + (m : Int)) = (n : Int) + (m : Int)) := hide (by rw [IntKind.wrap_i64]; omega)
  obtain ⟨d, hd⟩ : ∃ d, d = bf (n + m) - bf n := ⟨_, rfl⟩
  have hd64 : d ≤ 64 := by omega
  clear h hu
  go_enter Try.func10, Try.ntmps10
  go_wp2_with fail
  refine (Need_ok w b n v L (unhide HM) m hm).mono ?_
  rintro e w1 ⟨rfl, rfl⟩
  rw [← hd] at HOK ⊢
  clear hd ht
  go_wp2_with fail
  refine (haveJust_any w1 u (Y.map toI) d (unhide HU) (by omega) (by rw [List.length_map]; omega)).mono ?_
  rintro e w2 ⟨rfl, g2⟩
  have M2 := hide ((unhide HM).grown g2)
  have U2 := hide ((unhide HU).kept g2)
  have G2 := hide g2
  have S2 := hide g2.size
  rw [unhide HOK]
  clear g2
  have c0 := (unhide M2).num
  have c1 := (unhide M2).val
  go_wp2_with fail
  go_region_with (go_at_call 23; refine (joined_any _ v u (canon L) Y ((unhide M2).drewN _).runs ((unhide U2).kept (grown_drewN' (World.grownBy.refl _ _) _)) (norm_canon L) (by rw [bks_canon]; exact (unhide M2).lw) hY (by have := (unhide M2).small; omega) (by omega)).mono ?_; rintro e w3 ⟨u3, rfl, o3, g3⟩; obtain ⟨ao3, cap3, hu3, _, _, _⟩ := o3.form; subst hu3; have M3 := hide (((unhide M2).drewN _).grown g3); have O3 := hide o3; have G3 := hide g3; have d0 := (unhide M3).num; have d1 := (unhide M3).val; have f3 := (unhide M3).frozen; clear o3 g3)
  all_goals go_wp2
  all_goals go_ret
  all_goals try rw [unhide HW]
  all_goals
    obtain ⟨t1, t2, t3⟩ := (unhide M3).turned (by rw [← unhide HJ]; exact unhide O3) hm (unhide HL) (unhide HLw) ((n : Int) + (m : Int)) (by omega)
    refine ⟨rfl, _, ⟨t1.blk, t1.runs, t1.le, t1.len, t1.lw⟩, t2.mono (unhide S2), ?_⟩
    refine World.grownBy.trans ((unhide G2).but _) ?_
    refine World.grownBy.trans (b := w3) ⟨(unhide G3).os, (unhide G3).tape, (unhide G3).output, (unhide G3).size, fun k hk _ => (unhide G3).block k hk (by simp)⟩ ⟨t3.os, t3.tape, t3.output, t3.size, t3.block⟩
theorem Extend_nil (w : World) (m : Int) (u : Value) : Calls Try.prog 10 #[.pointer none, .int .i64 m, u] w fun e w' => e = .returned (.int .i64 1) ∧ w' = w := by
  go_enter Try.func10, Try.ntmps10
  go_wp2_with fail
  refine (Need_nil w m).mono ?_
  rintro e w1 ⟨rfl, rfl⟩
  go_wp2
  go_ret
  exact ⟨rfl, rfl⟩
end Go.Proofs.Ythjcdibblhcgpaa

/-
  DERIVED. place, At.
-/
namespace Go.Proofs.Ythjcdibblhcgpaa
open Go.RowKit
set_option linter.unusedVariables false

theorem tot_take (X : List (Nat × Nat)) (r : Nat) (h : r < X.length) : tot (X.take (r + 1)) = tot (X.take r) + X[r].2 := by
  rw [List.take_succ_eq_append_getElem h, tot_append]
  simp [tot, bks_one]

set_option maxHeartbeats 2000000 in
theorem place_any (w : World) (b n : Nat) (v : Value) (L : List Nat) (h : NdAt w b n v L) (k : Nat) (hk : k < L.length) :
    Calls Try.prog 27 #[.pointer (some ⟨b, 0, none⟩), .int .i64 (k : Int)] w fun e w' => ∃ r j : Nat, e = .returned (.tuple #[.int .i64 (r : Int), .int .i64 (j : Int)]) ∧ In (canon L) k r j ∧ w' = w := by
  have c1 := h.val
  have hs := h.small
  have hT := tot_canon L
  have hpos := (norm_canon L).pos
  obtain ⟨ao, cap, hv, hv1, hv2, hv4⟩ := h.runs.form
  have hlow : ∀ x ∈ canon L, x.1 + x.2 ≤ 512 := fun x hx => ((low_canon h.lw) x hx).2
  clear h
  obtain ⟨X, hX⟩ : ∃ X, X = canon L := ⟨_, rfl⟩
  rw [← hX] at hv hv1 hv4 hT hpos hs hlow ⊢
  clear hX
  subst hv
  obtain ⟨q, hq⟩ : ∃ q, q = X.length := ⟨_, rfl⟩
  rw [← hq] at c1 hv1 hs
  have HQ := hide hq
  have HT : Hid (k < tot X) := hide (by omega)
  have hkI : (k : Int) ≤ 64 := by omega
  have hqI : (q : Int) ≤ 64 := by omega
  have H4 := hide hv4
  clear hv4 hT hq
  go_enter Try.func27, Try.ntmps27
  go_wp2
  go_step3
  go_wp2
  go_step3
  go_wp2
  go_loopw [1, 11] (fun s i wr => ∃ (r y : Nat), i = .int .i64 (r : Int) ∧ s = .int .i64 (y : Int) ∧ r ≤ q ∧ Hid (tot (X.take r) + y = k) ∧ wr = w) (fun _ i _ => q - (intOf i).toNat)
  case atStart => exact ⟨0, k, rfl, rfl, by omega, hide (by simp [tot, bks]), rfl⟩
  case round =>
    obtain ⟨r, y, rfl, rfl, hr, HK, rfl⟩ := hrel
    have hyk : (y : Int) ≤ 64 := by have := unhide HK; omega
    by_cases hlt : r < q
    · have hlt' : (r : Int) < (q : Int) := by omega
      have hrl : r < X.length := by rw [← unhide HQ]; exact hlt
      obtain ⟨g, rfl, _, hgl, hc⟩ := unhide H4 (by omega)
      obtain ⟨d0, d1⟩ := hc r hrl
      have HTk := hide (tot_take X r hrl)
      have hx2 := hlow X[r] (List.getElem_mem hrl)
      obtain ⟨x, hx⟩ : ∃ x, x = X[r] := ⟨_, rfl⟩
      rw [← hx] at d0 d1 HTk hx2
      have HX := hide hx
      clear hx hc hlt
      obtain ⟨x1, x2⟩ := x
      simp only at d0 d1 hx2
      have hx2I : (x2 : Int) ≤ 512 := by omega
      go_wp2
      go_loopw [1, 22] (fun s i wr2 => ∃ (j z : Nat), i = .int .i64 (j : Int) ∧ s = .int .i64 (z : Int) ∧ j ≤ x2 ∧ Hid (tot (X.take r) + j + z = k) ∧ wr2 = wr) (fun _ i _ => x2 - (intOf i).toNat)
      case atStart => exact ⟨0, y, rfl, rfl, by omega, hide (by have := unhide HK; omega), rfl⟩
      case round =>
        obtain ⟨j, z, rfl, rfl, hj, HK2, rfl⟩ := hrel
        have hzk : (z : Int) ≤ 64 := by have := unhide HK2; omega
        by_cases hjl : j < x2
        · have hjl' : (j : Int) < (x2 : Int) := by omega
          by_cases hz : z = 0
          · subst hz
            go_wp2
            try rw [Exit.noGoto_ret]
            go_ret2
            refine ⟨r, j, rfl, ⟨hrl, ?_, by have := unhide HK2; omega⟩, rfl⟩
            rw [← unhide HX]
            exact hjl
          · have hz' : ¬ (z : Int) = 0 := by omega
            have hz2 : (1 : Int) ≤ (z : Int) := by omega
            go_wp2
            go_roundw
            case rel => exact ⟨j + 1, z - 1, rfl, by rw [Int.natCast_sub (by omega)]; rfl, by omega, hide (by have := unhide HK2; omega), by first | rfl | trivial⟩
            case measure => simp [intOf]; omega
        · have hjl' : ¬ (j : Int) < (x2 : Int) := by omega
          go_wp2
          go_roundw
          case rel => exact ⟨r + 1, z, rfl, rfl, by omega, hide (by
            rw [unhide HTk]
            have := unhide HK2
            omega), by first | rfl | trivial⟩
          case measure => simp [intOf]; omega
    · exfalso
      have h1 := unhide HK
      have h2 := unhide HT
      rw [List.take_of_length_le (by have := unhide HQ; omega)] at h1
      omega

theorem At_ok (w : World) (b n : Nat) (v : Value) (L : List Nat) (h : NdAt w b n v L) (k : Nat) (hk : k < n) :
    Calls Try.prog 15 #[.pointer (some ⟨b, 0, none⟩), .int .i64 (k : Int)] w fun e w' => ∃ c : Nat, e = .returned (.tuple #[.int .i64 (c : Int), .int .i64 ((k % 512 : Nat) : Int), .int .i64 0]) ∧ L[k / 512]? = some c ∧ w' = w := by
  have c0 := h.num
  have c1 := h.val
  have hle := h.le
  have hkl : k / 512 < L.length := by rw [h.len]; unfold bf; omega
  have HM := hide h
  have hlow : ∀ x ∈ canon L, x.1 + x.2 ≤ 512 := fun x hx => ((low_canon h.lw) x hx).2
  obtain ⟨ao, cap, rfl, hv1, hv2, hv4⟩ := h.runs.form
  have H4 := hide hv4
  have hsm := h.small
  clear h hv4
  have h1 : ¬ (k : Int) < 0 := by omega
  have h2 : ¬ (n : Int) ≤ (k : Int) := by omega
  have h3 : (k : Int) ≤ 32768 := by omega
  go_enter Try.func15, Try.ntmps15
  go_wp2_with fail
  rw [show (k : Int) / 512 = ((k / 512 : Nat) : Int) by omega]
  refine (place_any w b n _ L (unhide HM) (k / 512) hkl).mono ?_
  rintro e w1 ⟨r, j, rfl, hin, rfl⟩
  have hr := hin.lt
  have hj := hin.kl
  have HB := hide hin.block
  obtain ⟨g, rfl, _, _, hc⟩ := unhide H4 (by omega)
  obtain ⟨d0, d1⟩ := hc r hr
  have hx := hlow _ (List.getElem_mem hr)
  obtain ⟨x, hx0⟩ : ∃ x, x = (canon L)[r] := ⟨_, rfl⟩
  rw [← hx0] at d0 d1 HB hx hj
  clear hx0 hc hin
  obtain ⟨x1, x2⟩ := x
  simp only at d0 d1 HB hx hj
  have hrI : (r : Int) < ((canon L).length : Int) := by omega
  have hxI : (x1 : Int) + (j : Int) ≤ 512 := by omega
  go_wp2
  go_ret3
  refine ⟨x1 + j, rfl, ?_, rfl⟩
  have hB := unhide HB
  rw [bks_canon] at hB
  exact hB
theorem At_far (w : World) (b n : Nat) (v : Value) (L : List Nat) (h : NdAt w b n v L) (k : Int) (hk : k < 0 ∨ (n : Int) ≤ k) (h9 : k ≤ 9223372036854775807) :
    Calls Try.prog 15 #[.pointer (some ⟨b, 0, none⟩), .int .i64 k] w fun e w' => e = .returned (.tuple #[.int .i64 0, .int .i64 0, .int .i64 60]) ∧ w' = w := by
  have c0 := h.num
  clear h
  by_cases h1 : k < 0
  · clear hk
    go_enter Try.func15, Try.ntmps15
    go_wp2
    go_ret3
    exact ⟨rfl, rfl⟩
  · have h2 : (n : Int) ≤ k := by omega
    clear hk
    go_enter Try.func15, Try.ntmps15
    go_wp2
    go_ret3
    exact ⟨rfl, rfl⟩
theorem At_nil (w : World) (k : Int) : Calls Try.prog 15 #[.pointer none, .int .i64 k] w fun e w' => e = .returned (.tuple #[.int .i64 0, .int .i64 0, .int .i64 1]) ∧ w' = w := by
  go_enter Try.func15, Try.ntmps15
  go_wp2
  go_ret3
  exact ⟨rfl, rfl⟩
end Go.Proofs.Ythjcdibblhcgpaa

/-
  DERIVED. The walks of layUint, closed, PutUint, layInt, PutInt.
-/
namespace Go.Proofs.Ythjcdibblhcgpaa
open Go.RowKit

theorem closed_any (v : Value) (l : List UInt8) (w : World) (hv : Sl w v l) :
    Calls Try.prog 49 #[v] w fun e w' => ∃ v', e = .returned v' ∧ (Sl w v' l ∧ ∃ ao, v' = .slice ao l.length l.length) ∧ w = w' := by
  obtain ⟨ao, cap, rfl, h1, h2, h4⟩ := hv
  have H4 := hide h4
  clear h4
  go_enter Try.func49, Try.ntmps49
  go_wp2
  go_ret
  exact ⟨_, rfl, ⟨⟨ao, l.length, rfl, Nat.le_refl _, by omega, fun h => unhide H4 (by omega)⟩, ao, rfl⟩, rfl⟩

set_option maxHeartbeats 400000 in
theorem layUint_any (base : Nat) (v : Value) (l : List UInt8) (n : Int) (w : World) (hb : base ≤ w.heap.size) (hv : Room w base v l) (hn0 : 0 ≤ n) (hn1 : n ≤ 18446744073709551615) (hl : l.length + 10 ≤ 140737488355328) :
    Calls Try.prog 48 #[v, .int .u64 n] w fun e w' => ∃ v', e = .returned v' ∧ Own w' base v' (l ++ lay n.toNat) ∧ Below base w w' := by
  go_enter Try.func48, Try.ntmps48
  go_wp2
  go_loopw [0, 1] (fun u k wr => ∃ (m : Int) (l' : List UInt8), k = .int .u64 m ∧ 0 ≤ m ∧ m ≤ 18446744073709551615 ∧ Hid (lay n.toNat = l' ++ lay m.toNat) ∧ Room wr base u (l ++ l') ∧ Below base w wr) (fun _ k _ => (intOf k).toNat)
  case atStart => exact ⟨n, [], rfl, hn0, hn1, hide (by simp), by simpa using hv, Below.refl _ _⟩
  case round =>
    obtain ⟨m, l', rfl, hm0, hm1, HL, hroom, hbel⟩ := hrel
    have hsz : l'.length + 1 ≤ 10 := by
      have := congrArg List.length (unhide HL)
      have h1 := lay_len n.toNat
      have h2 := lay_len m.toNat
      simp at this
      omega
    have hbs := hbel.size
    by_cases hlt : 128 ≤ m
    · obtain ⟨c, hc⟩ : ∃ c, c = UInt8.ofNat (128 + m.toNat % 128) := ⟨_, rfl⟩
      have Hc : Hid (bits BinOp.or IntKind.u8 (m % 256) 128 = (c.toNat : Int)) := hide (by rw [hc]; exact or128 m hm0)
      have HL2 : Hid (lay n.toNat = (l' ++ [c]) ++ lay (m / 128).toNat) := hide (by
        rw [unhide HL, lay_big (by omega) (by omega), hc]
        have : m.toNat / 128 = (m / 128).toNat := by omega
        simp [this])
      clear hc HL
      go_wp2_with (at_builtin; refine wpList_append_room rfl (.tmp 7) (.tmp 11) rfl base _ (l ++ l') rfl ?hroom _ [c] rfl ?hy (by simp) ?hlen ?hbase ?_)
      case hroom => exact hroom.alloc _
      case hy => rw [unhide Hc]; exact Sl.new wr [c] (by simp [maxLen]) (0, 0)
      case hlen => simp; omega
      case hbase => simp; omega
      intro v' w1 hown hb1
      have R : Room w1 base v' (l ++ (l' ++ [c])) := Or.inl (by simpa using hown)
      have hb2 : Below base w w1 := (hbel.alloc (by omega) _).trans hb1
      clear hown hb1 hroom hbel
      go_wp2
      go_roundw
      case rel => exact ⟨m / 128, l' ++ [c], rfl, by omega, by omega, HL2, R, hb2⟩
      case measure => simp [intOf]; omega
    · obtain ⟨c, hc⟩ : ∃ c, c = UInt8.ofNat m.toNat := ⟨_, rfl⟩
      have Hc : Hid (m = (c.toNat : Int)) := hide (by have := byte_of m hm0 (by omega); rw [hc, ← this]; omega)
      have HL2 : Hid (lay n.toNat = l' ++ [c]) := hide (by
        rw [unhide HL, lay_small (by omega), hc])
      clear hc HL
      go_wp2_with (at_builtin; refine wpList_append_room rfl (.tmp 15) (.tmp 18) rfl base _ (l ++ l') rfl ?hroom2 _ [c] rfl ?hy2 (by simp) ?hlen2 ?hbase2 ?_)
      case hroom2 => exact hroom.alloc _
      case hy2 => rw [unhide Hc]; exact Sl.new wr [c] (by simp [maxLen]) (0, 0)
      case hlen2 => (try simp); omega
      case hbase2 => (try simp); omega
      intro v' w1 hown hb1
      have R : Own w1 base v' (l ++ lay n.toNat) := by rw [unhide HL2]; simpa using hown
      have hb2 : Below base w w1 := (hbel.alloc (by omega) _).trans hb1
      clear hown hb1 hroom hbel
      go_wp2
      go_ret
      exact ⟨_, rfl, R, hb2⟩

theorem layUint_at (base : Nat) (v : Value) (l : List UInt8) (x : Int) (n : Nat) (w : World) (hb : base ≤ w.heap.size) (hv : Room w base v l) (hl : l.length + 10 ≤ 140737488355328) (hn : n ≤ 18446744073709551615) (hx : x = n) :
    Calls Try.prog 48 #[v, .int .u64 x] w fun e w' => ∃ v', e = .returned v' ∧ Own w' base v' (l ++ lay n) ∧ Below base w w' := by
  subst hx
  exact layUint_any base v l n w hb hv (by omega) (by omega) hl

theorem zig_neg (n : Int) (h : n < 0) (h2 : -9223372036854775808 ≤ n) : IntKind.u64.wrap (IntKind.u64.wrap (2 * IntKind.u64.wrap (-n - 1)) + 1) = (zig n : Int) := by
  unfold zig; rw [if_pos h]; simp only [IntKind.wrap_u64]; omega
theorem zig_pos (n : Int) (h : ¬ n < 0) (h2 : n ≤ 9223372036854775807) : 2 * n = (zig n : Int) := by
  unfold zig; rw [if_neg h]; omega
theorem zig_le (n : Int) (h : -9223372036854775808 ≤ n) (h2 : n ≤ 9223372036854775807) : zig n ≤ 18446744073709551615 := by
  unfold zig; split <;> omega

end Go.Proofs.Ythjcdibblhcgpaa

/-
  DERIVED. put, Bytes: a node as bytes.
-/
namespace Go.Proofs.Ythjcdibblhcgpaa
open Go.RowKit
set_option linter.unusedVariables false

theorem PutUint_sl (v : Value) (l : List UInt8) (n : Nat) (w : World) (hv : Sl w v l) (hn : n ≤ 18446744073709551615) (hl : l.length + 10 ≤ 140737488355328) :
    Calls Try.prog 40 #[v, .int .u64 (n : Int)] w fun e w' => ∃ v', e = .returned v' ∧ Own w' w.heap.size v' (l ++ lay n) ∧ Below w.heap.size w w' := by
  have HV := hide hv
  clear hv
  go_enter Try.func40, Try.ntmps40
  go_wp2_with (first | (go_at_call 49; refine (closed_any _ l _ (unhide HV)).mono ?_; rintro e w' ⟨v1, rfl, hroom, rfl⟩) | (go_at_call 48; refine (layUint_at w.heap.size _ l _ n _ (Nat.le_refl _) (Or.inr hroom) hl hn rfl).mono ?_; rintro e w' ⟨v2, rfl, hown, hbel⟩))
  go_ret
  exact ⟨_, rfl, hown, hbel⟩

theorem put_any (v : Value) (l : List UInt8) (x y : Nat) (w : World) (hv : Sl w v l) (hx : x ≤ 65536) (hy : y ≤ 65536) (hl : l.length + 20 ≤ 140737488355328) :
    Calls Try.prog 24 #[v, .int .i64 (x : Int), .int .i64 (y : Int)] w fun e w' => ∃ v', e = .returned v' ∧ Own w' w.heap.size v' (l ++ lay x ++ lay y) ∧ Below w.heap.size w w' := by
  have HV := hide hv
  have h1 : (x : Int) ≤ 65536 := by omega
  have h2 : (y : Int) ≤ 65536 := by omega
  have hlx := lay_len x
  clear hv
  go_enter Try.func24, Try.ntmps24
  go_wp2_with fail
  refine (PutUint_sl v l x w (unhide HV) (by omega) (by omega)).mono ?_
  rintro e w1 ⟨v1, rfl, o1, b1⟩
  have O1 := hide o1.sl
  have B1 := hide b1
  clear o1 b1
  go_wp2_with fail
  refine (PutUint_sl v1 (l ++ lay x) y w1 (unhide O1) (by omega) (by simp; omega)).mono ?_
  rintro e w2 ⟨v2, rfl, o2, b2⟩
  have O2 := hide (o2.mono (unhide B1).size)
  have B2 : Hid (Below w.heap.size w w2) := hide ((unhide B1).trans ⟨b2.os, b2.tape, b2.output, b2.size, fun k hk => b2.block k (Nat.lt_of_lt_of_le hk (unhide B1).size)⟩)
  clear o2 b2
  go_wp2
  go_ret
  exact ⟨_, rfl, unhide O2, unhide B2⟩

/-- Runs as bytes; a node as bytes. -/
def layR (X : List (Nat × Nat)) : List UInt8 := X.flatMap fun x => lay x.1 ++ lay x.2
theorem layR_snoc (X : List (Nat × Nat)) (x : Nat × Nat) : layR (X ++ [x]) = layR X ++ (lay x.1 ++ lay x.2) := by simp [layR]
def tellN (n : Nat) (L : List Nat) : List UInt8 := lay n ++ lay (canon L).length ++ layR (canon L)
theorem layR_len : ∀ X : List (Nat × Nat), (layR X).length ≤ 20 * X.length
  | [] => by simp [layR]
  | x :: X => by
    have h := layR_len X
    have h1 := lay_len x.1
    have h2 := lay_len x.2
    have e : layR (x :: X) = (lay x.1 ++ lay x.2) ++ layR X := by simp [layR]
    rw [e]
    simp only [List.length_append, List.length_cons]
    omega
theorem tellN_len {n : Nat} {L : List Nat} (h : (canon L).length ≤ 64) : (tellN n L).length ≤ 1400 := by
  have h1 := layR_len (canon L)
  have h2 := lay_len n
  have h3 := lay_len (canon L).length
  unfold tellN
  simp only [List.length_append]
  omega

set_option maxRecDepth 20000 in
set_option maxHeartbeats 2000000 in
theorem Bytes_any (w : World) (b n : Nat) (v : Value) (L : List Nat) (h : NdAt w b n v L) :
    Calls Try.prog 11 #[.pointer (some ⟨b, 0, none⟩)] w fun e w' => ∃ u, e = .returned u ∧ Own w' w.heap.size u (tellN n L) ∧ w.grownBy w' none := by
  have c0 := h.num
  have c1 := h.val
  have hle := h.le
  have hni : (n : Int) ≤ 32768 := by omega
  have hsm := h.small.2
  have hlow := low_canon h.lw
  have HM := hide h
  obtain ⟨ao, cap, hv, hv1, hv2, hv4⟩ := h.runs.form
  subst hv
  have HR := hide h.runs
  have HTL : Hid (tellN n L = lay n ++ lay (canon L).length ++ layR (canon L)) := hide rfl
  clear h hv4
  obtain ⟨X, hX⟩ : ∃ X, X = canon L := ⟨_, rfl⟩
  rw [← hX] at hsm hlow HR hv1 c1 HTL HM
  clear hX
  obtain ⟨q, hq⟩ : ∃ q, q = X.length := ⟨_, rfl⟩
  rw [← hq] at hsm HR hv1 c1 HTL HM
  have HQ := hide hq
  have hqI : (q : Int) ≤ 64 := by omega
  clear hq
  go_enter Try.func11, Try.ntmps11
  go_wp2_with fail
  go_cut [3] from 8 to 17 (fun a wx => Own wx w.heap.size a (lay n ++ lay q) ∧ w.grownBy wx none)
  case first =>
    go_region_with (go_at_call 24; refine (put_any _ [] n q _ ⟨none, 0, rfl, by simp, by simp [maxLen], fun h => absurd rfl h⟩ (by omega) (by omega) (by simp)).mono ?_; rintro e w1 ⟨v1, rfl, o1, b1⟩; have O1 := hide o1; have B1 := hide b1; clear o1 b1)
    all_goals go_wp2_with fail
    all_goals go_meet
    all_goals exact ⟨by simpa using unhide O1, grown_of_below ⟨(unhide B1).os, (unhide B1).tape, (unhide B1).output, (unhide B1).size, (unhide B1).block⟩⟩
  case rest =>
    obtain ⟨o1, g1⟩ := hcut
    have c1' := g1.cell c1 (by simp)
    have O1 := hide o1
    have G1 := hide g1
    clear o1 g1 c0 c1
    go_wp2
    go_loopw [3, 23] (fun a i wr => ∃ (k : Nat), i = .int .i64 (k : Int) ∧ k ≤ q ∧ Own wr w.heap.size a (lay n ++ lay q ++ layR (X.take k)) ∧ w.grownBy wr none) (fun _ i _ => q - (intOf i).toNat)
    case atStart => exact ⟨0, rfl, by omega, by simpa [layR] using unhide O1, unhide G1⟩
    case round =>
      obtain ⟨k, rfl, hk, ho, hg⟩ := hrel
      by_cases hlt : k < q
      · have hlt' : (k : Int) < (q : Int) := by omega
        have hkl : k < X.length := by rw [← unhide HQ]; exact hlt
        obtain ⟨ao', cap', e, _, _, h4⟩ := ((unhide HR).grown hg).form
        injection e with e1 e2 e3
        subst e1
        obtain ⟨g, rfl, _, hgl, hc⟩ := h4 (by omega)
        obtain ⟨d0, d1⟩ := hc k hkl
        have hx := hlow X[k] (List.getElem_mem hkl)
        have HTk : Hid (layR (X.take (k + 1)) = layR (X.take k) ++ (lay X[k].1 ++ lay X[k].2)) := hide (by rw [List.take_succ_eq_append_getElem hkl, layR_snoc])
        have HLen : Hid ((lay n ++ lay q ++ layR (X.take k)).length + 20 ≤ 140737488355328) := hide (by
          have h1 := layR_len (X.take k)
          have h2 := lay_len n
          have h3 := lay_len q
          have h5 : (X.take k).length ≤ k := by rw [List.length_take]; omega
          simp only [List.length_append]
          omega)
        obtain ⟨x, hx0⟩ : ∃ x, x = X[k] := ⟨_, rfl⟩
        rw [← hx0] at d0 d1 hx HTk
        clear hx0 hc h4 e2 e3 hlt
        obtain ⟨x1, x2⟩ := x
        simp only at d0 d1 hx HTk
        obtain ⟨hx1, hx2⟩ := hx
        have hxI : (x1 : Int) + (x2 : Int) ≤ 512 := by omega
        have HO := hide (ho.sl.alloc (.cells #[.int .i64 (x1 : Int), .int .i64 (x2 : Int)] 36))
        have HG : Hid (w.grownBy (wr.alloc (.cells #[.int .i64 (x1 : Int), .int .i64 (x2 : Int)] 36)) none) := hide (hg.trans (World.grownBy_alloc _ _ _))
        have HS : Hid (w.heap.size ≤ (wr.alloc (.cells #[.int .i64 (x1 : Int), .int .i64 (x2 : Int)] 36)).heap.size) := hide (unhide HG).size
        clear ho hg
        go_wp2_with fail
        refine (put_any _ _ x1 x2 _ (unhide HO) (by omega) (by omega) (unhide HLen)).mono ?_
        rintro e w2 ⟨v2, rfl, o2, b2⟩
        have O2 : Hid (Own w2 w.heap.size v2 (lay n ++ lay q ++ layR (X.take (k + 1)))) := hide (by
          rw [unhide HTk]
          have := o2.mono (unhide HS)
          simpa [List.append_assoc] using this)
        have G2 : Hid (w.grownBy w2 none) := hide ((unhide HG).trans (grown_of_below b2))
        clear o2 b2 HO HG d0 d1 HTk
        go_wp2
        go_roundw
        case rel => exact ⟨k + 1, rfl, by omega, unhide O2, unhide G2⟩
        case measure => simp [intOf]; omega
      · have hlt' : ¬ (k : Int) < (q : Int) := by omega
        have HO : Hid (Own wr w.heap.size u3 (tellN n L)) := hide (by
          rw [List.take_of_length_le (by have := unhide HQ; omega)] at ho
          rw [unhide HTL]
          exact ho)
        have HG := hide hg
        clear ho hg
        go_wp2
        go_ret
        exact ⟨_, rfl, unhide HO, unhide HG⟩
theorem Bytes_nil (w : World) : Calls Try.prog 11 #[.pointer none] w fun e w' => e = .returned (.slice none 0 0) ∧ w' = w := by
  go_enter Try.func11, Try.ntmps11
  go_wp2
  go_ret
  exact ⟨rfl, rfl⟩
end Go.Proofs.Ythjcdibblhcgpaa

/-
  DERIVED. SameRuns; Pick; bytes as a string.
-/
namespace Go.Proofs.Ythjcdibblhcgpaa
open Go.RowKit
set_option linter.unusedVariables false

abbrev I64 (x : Int) : Prop := -9223372036854775808 ≤ x ∧ x ≤ 9223372036854775807

theorem Sl.str {w : World} {v : Value} {l : List UInt8} (h : Sl w v l) : (convert 23 9 v).run Try.prog w = .ok (.string ⟨l.toArray⟩) w := by
  rcases h.cases with ⟨rfl, ao, rfl⟩ | ⟨b, off, cap, rfl, h1, h2, hb, hc⟩
  · cases ao with
    | none => exact run_convert_bytes_nil w 23 5 Try.underlying23 Try.underlying5 0 0 9 Try.underlying9
    | some a => exact run_convert_bytes_back w 23 9 5 a 0 [] Try.underlying23 Try.underlying5 Try.underlying9 (fun j hj => by simp at hj)
  · exact run_convert_bytes_back w 23 9 5 ⟨b, off, none⟩ cap l Try.underlying23 Try.underlying5 Try.underlying9 (fun j hj => by rw [addr_add]; exact hc j hj)

theorem Pick_any (c n : Int) (w : World) (h0 : -9223372036854775808 ≤ c) (h1 : c ≤ 9223372036854775807) (hn : 0 < n) (hn2 : n ≤ 9223372036854775807) :
    Calls Try.prog 8 #[.int .i64 c, .int .i64 n] w fun e w' => ∃ k : Nat, e = .returned (.int .i64 k) ∧ (k : Int) < n ∧ w = w' := by
  by_cases hc : c < 0
  · go_enter Try.func8, Try.ntmps8
    go_wp2
    go_ret
    have h2 := Int.emod_nonneg (-(c + 1)) (show n ≠ 0 by omega)
    have h3 := Int.emod_lt_of_pos (-(c + 1)) hn
    have e : -(c + 1).tmod n = -(c + 1) % n := by rw [← Int.neg_tmod, Int.tmod_eq_emod_of_nonneg (by omega)]
    exact ⟨(-(c + 1) % n).toNat, by rw [Int.toNat_of_nonneg h2, ← e]; rfl, by omega, rfl⟩
  · go_enter Try.func8, Try.ntmps8
    go_wp2
    go_ret
    have h2 := Int.emod_nonneg c (show n ≠ 0 by omega)
    have h3 := Int.emod_lt_of_pos c hn
    exact ⟨(c % n).toNat, by rw [Int.toNat_of_nonneg h2]; rfl, by omega, rfl⟩

theorem take_eq_step {α : Type} (l m : List α) (k : Nat) (h1 : k < l.length) (h2 : k < m.length) (h : l.take k = m.take k) (e : l[k] = m[k]) : l.take (k + 1) = m.take (k + 1) := by
  rw [List.take_succ_eq_append_getElem h1, List.take_succ_eq_append_getElem h2, h, e]

set_option maxHeartbeats 2000000 in
theorem SameRuns_any (w : World) (v u : Value) (l m : List (Int × Int)) (hv : Rn w v l) (hu : Rn w u m) :
    Calls Try.prog 32 #[v, u] w fun e w' => e = .returned (.bool (decide (l = m))) ∧ w.grownBy w' none := by
  have HV := hide hv
  have HU := hide hu
  obtain ⟨ao, cap, rfl, h1, h2, _, _⟩ := hv
  obtain ⟨bo, dap, rfl, k1, k2, _, _⟩ := hu
  by_cases hlen : l.length = m.length
  · obtain ⟨n, hn⟩ : ∃ n, n = l.length := ⟨_, rfl⟩
    have hnm : n = m.length := hn.trans hlen
    rw [← hn] at h1 HV ⊢
    rw [← hnm] at k1 HU ⊢
    have hni : (n : Int) ≤ 9223372036854775807 := by omega
    have Hn := hide hn
    have Hm := hide hnm
    clear hn hnm hlen
    go_enter Try.func32, Try.ntmps32
    go_wp2
    go_loopw [5] (fun i wr => ∃ k : Nat, i = .int .i64 (k : Int) ∧ k ≤ n ∧ Hid (l.take k = m.take k) ∧ w.grownBy wr none) (fun i _ => n - (intOf i).toNat)
    case atStart => exact ⟨0, rfl, by omega, hide (by simp), World.grownBy.refl _ _⟩
    case round =>
      obtain ⟨k, rfl, hk, HT, hg⟩ := hrel
      by_cases hlt : k < n
      · have hlt' : (k : Int) < (n : Int) := by omega
        have hkl : k < l.length := by rw [← unhide Hn]; exact hlt
        have hkm : k < m.length := by rw [← unhide Hm]; exact hlt
        obtain ⟨pb, off, hao, hpb, hc⟩ : ∃ pb off, ao = some ⟨pb, off, none⟩ ∧ pb < wr.heap.size ∧ ∀ i, (h : i < l.length) → wr.cell? ⟨pb, off + i * 2, none⟩ = some (.int .i64 l[i].1) ∧ wr.cell? ⟨pb, off + i * 2 + 1, none⟩ = some (.int .i64 l[i].2) := by
          obtain ⟨ao', cap', e, _, _, _, h4⟩ := (unhide HV).kept hg
          cases e
          exact h4 (by omega)
        obtain ⟨qb, qff, hbo, hqb, hd⟩ : ∃ pb off, bo = some ⟨pb, off, none⟩ ∧ pb < wr.heap.size ∧ ∀ i, (h : i < m.length) → wr.cell? ⟨pb, off + i * 2, none⟩ = some (.int .i64 m[i].1) ∧ wr.cell? ⟨pb, off + i * 2 + 1, none⟩ = some (.int .i64 m[i].2) := by
          obtain ⟨ao', cap', e, _, _, _, h4⟩ := (unhide HU).kept hg
          cases e
          exact h4 (by omega)
        subst hao hbo
        obtain ⟨c0, c1⟩ := hc k hkl
        obtain ⟨d0, d1⟩ := hd k hkm
        obtain ⟨x, hx⟩ : ∃ x, x = l[k] := ⟨_, rfl⟩
        obtain ⟨y, hy⟩ : ∃ y, y = m[k] := ⟨_, rfl⟩
        rw [← hx] at c0 c1
        rw [← hy] at d0 d1
        have HX := hide hx
        have HY := hide hy
        obtain ⟨x1, x2⟩ := x
        obtain ⟨y1, y2⟩ := y
        simp only at c0 c1 d0 d1
        have HG := hide hg
        clear hc hd hx hy hg
        by_cases he : x1 = y1 ∧ x2 = y2
        · obtain ⟨rfl, rfl⟩ := he
          have HT2 : Hid (l.take (k + 1) = m.take (k + 1)) := hide (take_eq_step l m k hkl hkm (unhide HT) ((unhide HX).symm.trans (unhide HY)))
          go_wp2_with fail
          go_quiet (fail)
          go_wp2
          go_roundw
          case rel => exact ⟨k + 1, rfl, by omega, HT2, grown_drewN' (unhide HG) _⟩
          case measure => simp [intOf]; omega
        · have HF : Hid (decide (l = m) = false) := hide (decide_eq_false (fun e => by
            subst e
            have := (unhide HX).trans (unhide HY).symm
            simp only [Prod.mk.injEq] at this
            exact he this))
          by_cases h1' : x1 = y1
          · have h2' : ¬ x2 = y2 := fun e => he ⟨h1', e⟩
            have b1 : (x1 == y1) = true := beq_iff_eq.2 h1'
            have b2 : (x2 == y2) = false := beq_eq_false_iff_ne.2 h2'
            clear he
            go_wp2_with fail
            go_quiet (fail)
            go_wp2
            go_ret
            rw [unhide HF]
            exact ⟨rfl, grown_drewN' (unhide HG) _⟩
          · have b1 : (x1 == y1) = false := beq_eq_false_iff_ne.2 h1'
            clear he
            go_wp2_with fail
            go_quiet (fail)
            go_wp2
            go_ret
            rw [unhide HF]
            exact ⟨rfl, grown_drewN' (unhide HG) _⟩
      · have hlt' : ¬ (k : Int) < (n : Int) := by omega
        have HF : Hid (decide (l = m) = true) := hide (decide_eq_true (by
          have := unhide HT
          rw [List.take_of_length_le (by have := unhide Hn; omega), List.take_of_length_le (by have := unhide Hm; omega)] at this
          exact this))
        have HG := hide hg
        clear hg
        go_wp2
        go_ret
        rw [unhide HF]
        exact ⟨rfl, unhide HG⟩
  · have hli : (l.length : Int) ≠ (m.length : Int) := by omega
    have HF : Hid (decide (l = m) = false) := hide (decide_eq_false (fun e => hlen (by rw [e])))
    clear hlen
    go_enter Try.func32, Try.ntmps32
    go_wp2
    go_ret
    rw [unhide HF]
    exact ⟨rfl, World.grownBy.refl _ _⟩
end Go.Proofs.Ythjcdibblhcgpaa

/-
  DERIVED. The chapter's examples: awake. And the calls without a node.
-/
namespace Go.Proofs.Ythjcdibblhcgpaa
open Go.RowKit
set_option linter.unusedVariables false

theorem Cut_nil (w : World) (k : Int) : Calls Try.prog 35 #[.pointer none, .int .i64 k] w fun e w' => e = .returned (.tuple #[.slice none 0 0, .int .i64 1]) ∧ w' = w := by
  go_enter Try.func35, Try.ntmps35
  go_wp2
  go_ret2
  exact ⟨rfl, rfl⟩
theorem Copy_nil (w : World) : Calls Try.prog 18 #[.pointer none] w fun e w' => e = .returned (.pointer none) ∧ w' = w := by
  go_enter Try.func18, Try.ntmps18
  go_wp2
  go_ret
  exact ⟨rfl, rfl⟩

theorem ex_bks : bks [(7, 2)] = [7, 8] := by decide
theorem ex_tell : tellN 513 [7, 8] = [129, 4, 1, 7, 2] := by decide +kernel
theorem Need_513 (w : World) (b : Nat) (v : Value) (h : NdAt w b 0 v []) : Calls Try.prog 9 #[.pointer (some ⟨b, 0, none⟩), .int .i64 513] w fun e w' => e = .returned (.tuple #[.int .i64 2, .int .i64 0]) ∧ w' = w := Need_ok w b 0 v [] h 513 (by omega)
theorem Extend_513 (w : World) (b : Nat) (v u : Value) (h : NdAt w b 0 v []) (hu : Rn w u [(7, 2)]) : Calls Try.prog 10 #[.pointer (some ⟨b, 0, none⟩), .int .i64 513, u] w fun e w' => e = .returned (.int .i64 0) ∧ ∃ v', NdAt w' b 513 v' [7, 8] ∧ w.grownBy w' (some b) := by
  refine (Extend_ok w b 0 513 v u [] [(7, 2)] h (by omega) hu (by simp) (by decide)).mono fun e w' h => ?_
  obtain ⟨h1, v', h2, _, h3⟩ := h
  refine ⟨h1, v', ?_, h3⟩
  rw [List.nil_append, ex_bks] at h2
  exact h2
theorem At_512 (w : World) (b : Nat) (v : Value) (h : NdAt w b 513 v [7, 8]) : Calls Try.prog 15 #[.pointer (some ⟨b, 0, none⟩), .int .i64 512] w fun e w' => e = .returned (.tuple #[.int .i64 8, .int .i64 0, .int .i64 0]) ∧ w' = w := by
  refine (At_ok w b 513 v [7, 8] h 512 (by omega)).mono fun e w' h => ?_
  obtain ⟨c, rfl, h2, h3⟩ := h
  have : c = 8 := by simpa using h2.symm
  subst this
  exact ⟨rfl, h3⟩
theorem At_513 (w : World) (b : Nat) (v : Value) (h : NdAt w b 513 v [7, 8]) : Calls Try.prog 15 #[.pointer (some ⟨b, 0, none⟩), .int .i64 513] w fun e w' => e = .returned (.tuple #[.int .i64 0, .int .i64 0, .int .i64 60]) ∧ w' = w := At_far w b 513 v [7, 8] h 513 (by omega) (by omega)
theorem Bytes_513 (w : World) (b : Nat) (v : Value) (h : NdAt w b 513 v [7, 8]) : Calls Try.prog 11 #[.pointer (some ⟨b, 0, none⟩)] w fun e w' => ∃ u, e = .returned u ∧ Own w' w.heap.size u [129, 4, 1, 7, 2] ∧ w.grownBy w' none := by
  refine (Bytes_any w b 513 v [7, 8] h).mono fun e w' h => ?_
  rw [ex_tell] at h
  exact h

set_option maxRecDepth 20000 in
set_option maxHeartbeats 2000000 in
theorem awake_ok (w : World) : Calls Try.prog 6 #[] w fun e w' => e = .returned (.bool true) ∧ w.grownBy w' none := by
  go_enter Try.func6, Try.ntmps6
  go_wp2_with fail
  refine (New_any w).mono ?_
  rintro e w1 ⟨rfl, m1, g1⟩
  obtain ⟨b, hb⟩ : ∃ b, b = w.heap.size := ⟨_, rfl⟩
  rw [← hb] at m1 ⊢
  have M1 := hide m1
  have G1 := hide g1
  have HB : Hid (w.heap.size ≤ b) := hide (by omega)
  clear hb m1 g1
  go_wp2_with fail
  refine (Need_513 w1 b _ (unhide M1)).mono ?_
  rintro e w1' ⟨rfl, rfl⟩
  go_wp2_with fail
  refine (Extend_513 _ b _ _ ((unhide M1).grown (World.grownBy_alloc _ _ _)) (Rn.one w1' 7 2 (by simp [fits]))).mono ?_
  rintro e w2 ⟨rfl, v2, m2, g2⟩
  have M2 := hide m2
  have G2 : Hid (w.grownBy w2 none) := hide (own_step ((unhide G1).trans (World.grownBy_alloc _ _ _)) (unhide HB) g2)
  clear m2 g2 M1 G1
  go_wp2_with fail
  refine (At_512 w2 b _ (unhide M2)).mono ?_
  rintro e w3 ⟨rfl, rfl⟩
  go_wp2_with fail
  refine (At_513 w3 b _ (unhide M2)).mono ?_
  rintro e w4 ⟨rfl, rfl⟩
  go_wp2_with fail
  refine (Bytes_513 w4 b _ (unhide M2)).mono ?_
  rintro e w5 ⟨u, rfl, o5, g5⟩
  have hst := o5.sl.str
  have G5 : Hid (w.grownBy w5 none) := hide ((unhide G2).trans g5)
  clear o5 g5 M2 G2
  go_wp2
  go_ret
  exact ⟨rfl, unhide G5⟩
end Go.Proofs.Ythjcdibblhcgpaa
