/-
  DERIVED. The plain mathematics: numbers in groups of seven bits, the checksum. Nothing of the program.
-/
import Derived.Test.YtgdplmbchoogiaaProg
import Derived.WalkKit
import Derived.ProofKit
import Derived.ArgAppend
import Derived.Laws.AppendOwnNone
import Derived.Laws.BytesString
import Derived.Laws.IdiomStrings
import Derived.Laws.BytesArg
import Derived.WalkLawsBesides
import Derived.KernelRfl
import Derived.Deep.MidRow
import Derived.Maps.AppendAt
import Derived.Maps.Range
import Derived.Maps.RangeWalk
import Derived.BigQuiet
import Derived.RangeFuncNested
import Derived.RangeFuncBound
import Derived.RangeFuncCalls
import Derived.RangeFuncLeaves
import Derived.Shelf.Abstract
import Derived.Shelf.RegionOpen
import Derived.OwnWalkIn
import Derived.TacticsInMore
import Derived.LoopNIn
import Derived.LoopIn
namespace Go.Proofs.Ytgdplmbchoogiaa

/-! ### A number in groups of seven bits -/

def layF : Nat → Nat → List UInt8
  | 0, n => [UInt8.ofNat n]
  | f + 1, n => if n < 128 then [UInt8.ofNat n] else UInt8.ofNat (128 + n % 128) :: layF f (n / 128)

/-- The bytes of a number: P1.1. -/
def lay (n : Nat) : List UInt8 := layF 9 n

theorem layF_enough : ∀ (f g n : Nat), n < 128 ^ (f + 1) → n < 128 ^ (g + 1) → layF f n = layF g n
  | 0, 0, n, _, _ => rfl
  | 0, g + 1, n, h, _ => by simp only [layF]; rw [if_pos (by omega)]
  | f + 1, 0, n, _, h => by simp only [layF]; rw [if_pos (by omega)]
  | f + 1, g + 1, n, hf, hg => by
    simp only [layF]
    by_cases h : n < 128
    · rw [if_pos h, if_pos h]
    · rw [if_neg h, if_neg h, layF_enough f g (n / 128) (by rw [Nat.pow_succ] at hf; omega) (by rw [Nat.pow_succ] at hg; omega)]

theorem lay_small {n : Nat} (h : n < 128) : lay n = [UInt8.ofNat n] := by simp [lay, layF, h]
theorem lay_big {n : Nat} (h : 128 ≤ n) (h2 : n < 18446744073709551616) : lay n = UInt8.ofNat (128 + n % 128) :: lay (n / 128) := by
  show layF 9 n = _ :: layF 9 (n / 128)
  rw [layF_enough 9 8 (n / 128) (by omega) (by omega)]
  simp only [layF]
  rw [if_neg (by omega)]

theorem layF_len : ∀ (f n : Nat), 1 ≤ (layF f n).length ∧ (layF f n).length ≤ f + 1
  | 0, n => by simp [layF]
  | f + 1, n => by
    simp only [layF]
    split
    · simp
    · have := layF_len f (n / 128); simp; omega
theorem lay_len (n : Nat) : 1 ≤ (lay n).length ∧ (lay n).length ≤ 10 := layF_len 9 n
/-- What Uint reads, from its i-th byte on: the number, how many bytes, the error: P1.1. -/
def rdGo : Nat → Nat → List UInt8 → Nat × Nat × Nat
  | i, _, [] => if i < 10 then (0, 0, 10) else (0, 0, 11)
  | i, acc, c :: r =>
    if 10 ≤ i then (0, 0, 11)
    else if 128 ≤ c.toNat then rdGo (i + 1) (acc + c.toNat % 128 * 2 ^ (7 * i)) r
    else if (0 < i ∧ c.toNat = 0) ∨ (i = 9 ∧ 1 < c.toNat) then (0, 0, 11)
    else (acc + c.toNat * 2 ^ (7 * i), i + 1, 0)
def rd (l : List UInt8) : Nat × Nat × Nat := rdGo 0 0 l

/-- The number that an integer is laid as: P1.2. -/
def zig (n : Int) : Nat := if n < 0 then (-2 * n - 1).toNat else (2 * n).toNat


/-! ### The checksum -/
/-- One step on a register. -/
def stp (r : Nat) : Nat := if r % 2 = 1 then (r / 2) ^^^ 2197175160 else r / 2
def stp8 (r : Nat) : Nat := stp (stp (stp (stp (stp (stp (stp (stp r)))))))
def rAt : Nat → Nat
  | 0 => 2197175160
  | j + 1 => stp (rAt j)
def tabA : Nat → List Nat
  | 0 => List.replicate 256 0
  | j + 1 => (tabA j).set (128 / 2 ^ j) (rAt j)
def lowb (i : Nat) : Nat := i &&& (256 - i)
def tabB : Nat → List Nat
  | 0 => tabA 8
  | k + 1 => (tabB k).set (k + 1) ((tabB k).getD (lowb (k + 1)) 0 ^^^ (tabB k).getD ((k + 1) ^^^ lowb (k + 1)) 0)
def crcTab : List Nat := tabB 255
theorem crcTab_eq : crcTab = (List.range 256).map stp8 := by decide +kernel
def crcR (r : Nat) (l : List UInt8) : Nat := l.foldl (fun r c => (r / 256) ^^^ crcTab.getD ((r % 256) ^^^ c.toNat) 0) r
/-- CRC-32C: P1.4. -/
def crc (l : List UInt8) : Nat := crcR 4294967295 l ^^^ 4294967295

theorem tabA_len : ∀ j, (tabA j).length = 256
  | 0 => List.length_replicate
  | j + 1 => by simp [tabA, tabA_len j]
theorem tabB_len : ∀ j, (tabB j).length = 256
  | 0 => tabA_len 8
  | j + 1 => by simp [tabB, tabB_len j]

theorem xor_lt32 {a b : Nat} (ha : a < 4294967296) (hb : b < 4294967296) : a ^^^ b < 4294967296 := Nat.xor_lt_two_pow (n := 32) ha hb
theorem stp_lt {r : Nat} (h : r < 4294967296) : stp r < 4294967296 := by
  unfold stp; split
  · exact xor_lt32 (by omega) (by omega)
  · omega
theorem rAt_lt : ∀ j, rAt j < 4294967296
  | 0 => by decide
  | j + 1 => stp_lt (rAt_lt j)
theorem set_lt {l : List Nat} {i x : Nat} (h : ∀ k, l.getD k 0 < 4294967296) (hx : x < 4294967296) : ∀ k, (l.set i x).getD k 0 < 4294967296 := by
  intro k
  have hk := h k
  simp only [List.getD_eq_getElem?_getD, List.getElem?_set] at hk ⊢
  split
  · split
    · simpa using hx
    · simp
  · exact hk
theorem tabA_lt : ∀ j k, (tabA j).getD k 0 < 4294967296
  | 0 => by
    intro k
    show (List.replicate 256 0).getD k 0 < _
    rw [List.getD_eq_getElem?_getD, List.getElem?_replicate]
    split <;> simp
  | j + 1 => set_lt (tabA_lt j) (rAt_lt j)
theorem tabB_lt : ∀ j k, (tabB j).getD k 0 < 4294967296
  | 0 => tabA_lt 8
  | j + 1 => set_lt (tabB_lt j) (xor_lt32 (tabB_lt j _) (tabB_lt j _))
theorem crcTab_lt (k : Nat) : crcTab.getD k 0 < 4294967296 := tabB_lt 255 k
theorem crcR_lt : ∀ (l : List UInt8) (r : Nat), r < 4294967296 → crcR r l < 4294967296
  | [], r, h => h
  | c :: l, r, h => crcR_lt l _ (xor_lt32 (by omega) (crcTab_lt _))
theorem crc_lt (l : List UInt8) : crc l < 4294967296 := xor_lt32 (crcR_lt l _ (by decide)) (by decide)
theorem crc_123 : crc [49, 50, 51, 52, 53, 54, 55, 56, 57] = 3808858755 := by decide +kernel

/-! ### Four bytes, texts, frames -/
def le4 (n : Nat) : List UInt8 := [UInt8.ofNat n, UInt8.ofNat (n / 256), UInt8.ofNat (n / 65536), UInt8.ofNat (n / 16777216)]
def rd4 : List UInt8 → Nat
  | a :: b :: c :: d :: _ => a.toNat + 256 * b.toNat + 65536 * c.toNat + 16777216 * d.toNat
  | _ => 0
/-- The error of a piece: a number, and so many bytes. -/
def pcE (l : List UInt8) (most : Int) : Nat :=
  if (rd l).2.2 ≠ 0 then (rd l).2.2 else if most < 0 ∨ most < (rd l).1 then 12 else if l.length - (rd l).2.1 < (rd l).1 then 10 else 0
def pcK (l : List UInt8) (most : Int) : Nat := if pcE l most = 0 then (rd l).2.1 + (rd l).1 else 0
def pcD (l : List UInt8) (most : Int) : List UInt8 := if pcE l most = 0 then (l.drop (rd l).2.1).take (rd l).1 else []

theorem rdGo_facts : ∀ (l : List UInt8) (i acc : Nat), i ≤ 10 → acc < 2 ^ (7 * i) →
    (rdGo i acc l).1 < 18446744073709551616 ∧ ((rdGo i acc l).2.2 = 0 ∨ (rdGo i acc l).2.2 = 10 ∨ (rdGo i acc l).2.2 = 11) ∧ ((rdGo i acc l).2.2 ≠ 0 → (rdGo i acc l).1 = 0 ∧ (rdGo i acc l).2.1 = 0) ∧ ((rdGo i acc l).2.2 = 0 → i + 1 ≤ (rdGo i acc l).2.1 ∧ (rdGo i acc l).2.1 ≤ i + l.length ∧ (rdGo i acc l).2.1 ≤ 10)
  | [], i, acc, hi, ha => by
    rw [rdGo]; split <;> simp
  | c :: r, i, acc, hi, ha => by
    have hc := c.toNat_lt
    rw [rdGo]
    split
    · simp
    · split
      · have hm : c.toNat % 128 < 128 := Nat.mod_lt _ (by decide)
        have e : 2 ^ (7 * (i + 1)) = 128 * 2 ^ (7 * i) := by rw [Nat.mul_add, Nat.pow_add]; omega
        have h2 : c.toNat % 128 * 2 ^ (7 * i) ≤ 127 * 2 ^ (7 * i) := Nat.mul_le_mul_right _ (by omega)
        obtain ⟨a, b, d, f⟩ := rdGo_facts r (i + 1) (acc + c.toNat % 128 * 2 ^ (7 * i)) (by omega) (by omega)
        refine ⟨a, b, d, fun h => ?_⟩
        have := f h
        simp only [List.length_cons]
        omega
      · split
        · simp
        · rename_i h1 h2 h3
          have hp : 2 ^ (7 * i) ≤ 2 ^ 63 := Nat.pow_le_pow_right (by decide) (by omega)
          have hb : acc + c.toNat * 2 ^ (7 * i) < 18446744073709551616 := by
            by_cases h9 : i = 9
            · have : c.toNat * 2 ^ (7 * i) ≤ 1 * 2 ^ 63 := Nat.mul_le_mul (by omega) hp
              omega
            · have hp : 2 ^ (7 * i) ≤ 2 ^ 56 := Nat.pow_le_pow_right (by decide) (by omega)
              have : c.toNat * 2 ^ (7 * i) ≤ 127 * 2 ^ 56 := Nat.mul_le_mul (by omega) hp
              omega
          refine ⟨hb, by simp, by simp, fun _ => ?_⟩
          simp only [List.length_cons]
          omega
theorem rd_facts (l : List UInt8) : (rd l).1 < 18446744073709551616 ∧ ((rd l).2.2 = 0 ∨ (rd l).2.2 = 10 ∨ (rd l).2.2 = 11) ∧ ((rd l).2.2 ≠ 0 → (rd l).1 = 0 ∧ (rd l).2.1 = 0) ∧ ((rd l).2.2 = 0 → 1 ≤ (rd l).2.1 ∧ (rd l).2.1 ≤ l.length ∧ (rd l).2.1 ≤ 10) := by
  have := rdGo_facts l 0 0 (by omega) (by decide)
  simpa [rd] using this

/-- What Frame reads: the error; how many bytes; the kind; the data: P1.5. -/
def frE (l : List UInt8) : Nat :=
  if l.length < 5 then 10 else if pcE (l.drop 5) 2000 ≠ 0 then pcE (l.drop 5) 2000
  else if rd4 l ≠ crc ((l.drop 4).take (1 + pcK (l.drop 5) 2000)) then 11 else 0
def frK (l : List UInt8) : Nat := if frE l = 0 then 5 + pcK (l.drop 5) 2000 else 0
def frKind (l : List UInt8) : UInt8 := if frE l = 0 then l.getD 4 0 else 0
def frD (l : List UInt8) : List UInt8 := if frE l = 0 then pcD (l.drop 5) 2000 else []
/-- A frame's bytes: P1.5. -/
def frBody (kind : UInt8) (d : List UInt8) : List UInt8 := kind :: lay d.length ++ d
def frLay (kind : UInt8) (d : List UInt8) : List UInt8 := le4 (crc (frBody kind d)) ++ frBody kind d

/-- The integer that a number stands for: P1.2. -/
def unz (n : Nat) : Int := if n % 2 = 1 then -(n / 2 : Nat) - 1 else (n / 2 : Nat)
def rdI (l : List UInt8) : Int := if (rd l).2.2 = 0 then unz (rd l).1 else 0
end Go.Proofs.Ytgdplmbchoogiaa

/-
  DERIVED. Words shared by all walks of this seat: bytes as cells, slices that are read, slices that are grown.
-/
namespace Go.Proofs.Ytgdplmbchoogiaa
open Go.RowKit

theorem hide {p : Prop} (h : p) : Hid p := h
theorem unhide {p : Prop} (h : Hid p) : p := h.out

/-- A byte as a cell. -/
abbrev bv (c : UInt8) : Value := .int .u8 (c.toNat : Int)

/-- A slice value that reads as these bytes. (Where it has no room nothing is known of its address.) -/
def Sl (w : World) (v : Value) (l : List UInt8) : Prop :=
  ∃ ao cap, v = .slice ao l.length cap ∧ l.length ≤ cap ∧ cap ≤ maxLen ∧
    (cap ≠ 0 → ∃ b off, ao = some ⟨b, off, none⟩ ∧ b < w.heap.size ∧ ∀ i, (h : i < l.length) → w.cell? ⟨b, off + i, none⟩ = some (bv l[i]))

theorem Try.info5 : (Try.prog.info? 5).map (fun i => (i.zero, i.size, i.bytes)) = some (some (.int .u8 0), 1, 1) := by kernel_rfl

/-- A slice that a call made for itself. -/
def Own (w : World) (base : Nat) (v : Value) (l : List UInt8) : Prop := w.ownsRow base 5 1 v l.length (l.map bv)

/-- A slice to which can be appended without a write to what was there below 'base'. -/
def Room (w : World) (base : Nat) (v : Value) (l : List UInt8) : Prop :=
  Own w base v l ∨ (Sl w v l ∧ ∃ ao, v = .slice ao l.length l.length)

theorem bv_one (l : List UInt8) : ∀ u ∈ l.map bv, u.oneCell' = true := by
  intro u hu; obtain ⟨c, _, rfl⟩ := List.mem_map.1 hu; rfl

theorem Own.mono {w : World} {base b2 : Nat} {v : Value} {l : List UInt8} (h : Own w base v l) (hb : b2 ≤ base) : Own w b2 v l := by
  obtain ⟨h1, h2⟩ := h
  refine ⟨h1, ?_⟩
  rcases h2 with h | ⟨g, cap, cur, a, b, c⟩
  · exact .inl h
  · exact .inr ⟨g, cap, cur, a, by omega, c⟩

theorem Own.sl {w : World} {base : Nat} {v : Value} {l : List UInt8} (h : Own w base v l) : Sl w v l := by
  obtain ⟨h1, h2⟩ := h
  rcases h2 with ⟨rfl, h⟩ | ⟨g, cap, cur, rfl, hb, hg, hn, hm, hs, ht⟩
  · exact ⟨none, 0, by rw [h], by omega, by unfold maxLen; omega, fun h => absurd rfl h⟩
  · refine ⟨some ⟨g, 0, none⟩, cap, rfl, hn, hm, fun _ => ⟨g, 0, rfl, lt_of_block hg, fun i hi => ?_⟩⟩
    have e : (cur.toList.take (l.length * 1))[i]? = (l.map bv)[i]? := by rw [ht]
    rw [List.getElem?_take_of_lt (by omega)] at e
    simp only [World.cell?, hg]
    simpa [hi] using e

theorem Own.below {B base : Nat} {w w' : World} {v : Value} {l : List UInt8} (h : Own w base v l) (hb : Below B w w') (hB : w.heap.size ≤ B) : Own w' base v l := by
  obtain ⟨h1, h2⟩ := h
  refine ⟨h1, ?_⟩
  rcases h2 with h | ⟨g, cap, cur, a, b, c, r⟩
  · exact .inl h
  · exact .inr ⟨g, cap, cur, a, b, (hb.block g (by have := lt_of_block c; omega)).trans c, r⟩

theorem Sl.below {B : Nat} {w w' : World} {v : Value} {l : List UInt8} (h : Sl w v l) (hb : Below B w w') (hB : w.heap.size ≤ B) : Sl w' v l := by
  obtain ⟨ao, cap, rfl, h1, h2, h4⟩ := h
  refine ⟨ao, cap, rfl, h1, h2, fun hc => ?_⟩
  obtain ⟨b, off, e, a, c⟩ := h4 hc
  exact ⟨b, off, e, by have := hb.size; omega, fun i hi => (hb.cell (p := ⟨b, off + i, none⟩) (by show b < B; omega)).trans (c i hi)⟩

theorem addr_add (b o j : Nat) : (⟨b, o, none⟩ : Addr).add j = ⟨b, o + j, none⟩ := by
  by_cases h : j = 0
  · subst h; simp [Addr.add]
  · simp [Addr.add, h]

/-- THE ONE LAW ON append THAT THE WALKS USE: to a slice with room, bytes that lie somewhere, one at least. -/
theorem wpList_append_room {w : World} {ops : Array Oper} {rest : List Oper} {o : Oper} {a : Act} {Q : Exit → Act → World → Prop} (hgd : o.guard = none) (s x : Operand)
    (ho : o.op = .call { callee := .builtin .append, args := #[s, x], argTypes := #[42, 42] })
    (base : Nat) (v : Value) (l : List UInt8) (hs : a.eval s = v) (hroom : Room w base v l)
    (y : Value) (m : List UInt8) (hx : a.eval x = y) (hy : Sl w y m) (hm : m ≠ []) (hlen : l.length + m.length ≤ 140737488355328) (hbase : base ≤ w.heap.size)
    (h : ∀ v' w', Own w' base v' (l ++ m) → Below base w w' → wpList Try.prog ops Q rest (a.put o.dst v') w') : wpList Try.prog ops Q (o :: rest) a w := by
  obtain ⟨i0, hi, hz0, hz1, hz2⟩ := info_parts Try.info5
  have hmp : 0 < m.length := List.length_pos_iff.2 hm
  obtain ⟨ao, cap, rfl, h1, h2, h4⟩ := hy
  obtain ⟨bk, off, rfl, hlt, hc⟩ := h4 (by omega)
  have hnews : ∀ j u, (m.map bv)[j]? = some u → w.cell? ((⟨bk, off, none⟩ : Addr).add j) = some u := by
    intro j u hj
    rw [List.getElem?_map] at hj
    by_cases hjl : j < m.length
    · rw [List.getElem?_eq_getElem hjl] at hj
      simp only [Option.map_some, Option.some.injEq] at hj
      subst hj
      rw [addr_add]; exact hc j hjl
    · rw [List.getElem?_eq_none (by omega)] at hj; cases hj
  rcases hroom with hown | ⟨hsl, ao2, hv⟩
  · refine wpList_append_own w hgd s x 42 ho base 5 i0 (.int .u8 0) 1 1 Try.underlying42 hi hz0 hz1 hz2 rfl (by decide) v l.length (l.map bv) hs hown ⟨bk, off, none⟩ m.length cap (m.map bv) hx (by simp) hnews (bv_one m) (by unfold maxLen; omega) (by omega) hbase ?_
    intro v' w' ho' hgr _
    refine h v' w' (by simpa [Own] using ho') ((Below.refl _ _).grown hgr hbase ?_)
    intro k hk
    rcases hown.2 with ⟨rfl, _⟩ | ⟨g, cap', cur, rfl, hb, _⟩
    · cases hk
    · simp only [Value.ownBlock, Option.some.injEq] at hk; omega
  · subst hv
    obtain ⟨ao3, cap3, hv3, _, _, h4'⟩ := hsl
    cases hv3
    refine wpList_append_grows w hgd s x 42 ho 5 i0 (.int .u8 0) 1 1 Try.underlying42 hi hz0 hz1 hz2 rfl (by decide) ao2 l.length l.length (l.map bv) hs ?_ (by simp) ?_ ⟨bk, off, none⟩ m.length cap (m.map bv) hx (by simp) hnews (bv_one m) (by omega) (by unfold maxLen; omega) (by omega) ?_
    · intro hn
      by_cases hz : l.length = 0
      · exact ⟨hz, hz⟩
      · obtain ⟨b, o, e, _⟩ := h4' hz
        rw [hn] at e; cases e
    · intro b hb j u hj
      rw [List.getElem?_map] at hj
      by_cases hjl : j < l.length
      · obtain ⟨bb, bo, e, a2, a3⟩ := h4' (by omega)
        rw [hb] at e
        cases e
        rw [List.getElem?_eq_getElem hjl] at hj
        simp only [Option.map_some, Option.some.injEq] at hj
        subst hj
        rw [addr_add]; exact a3 j hjl
      · rw [List.getElem?_eq_none (by omega)] at hj; cases hj
    · intro v' w' ho' hgr
      have ho2 : Own w' w.heap.size v' (l ++ m) := by simpa [Own] using ho'
      exact h v' w' (ho2.mono hbase) ((Below.refl _ _).grown hgr hbase (fun k hk => by cases hk))

theorem Sl.cases {w : World} {v : Value} {l : List UInt8} (h : Sl w v l) : (l = [] ∧ ∃ ao, v = .slice ao 0 0) ∨ ∃ b off cap, v = .slice (some ⟨b, off, none⟩) l.length cap ∧ l.length ≤ cap ∧ cap ≤ 9223372036854775807 ∧ b < w.heap.size ∧ ∀ i, (h : i < l.length) → w.cell? ⟨b, off + i, none⟩ = some (bv l[i]) := by
  obtain ⟨ao, cap, rfl, h1, h2, h4⟩ := h
  unfold maxLen at h2
  by_cases hz : cap = 0
  · subst hz
    obtain rfl : l = [] := List.eq_nil_of_length_eq_zero (by omega)
    exact .inl ⟨rfl, ao, rfl⟩
  · obtain ⟨b, off, rfl, a, c⟩ := h4 hz
    exact .inr ⟨b, off, cap, rfl, h1, by omega, a, c⟩

theorem Sl.alloc {w : World} {v : Value} {l : List UInt8} (h : Sl w v l) (o : Obj) : Sl (w.alloc o) v l :=
  h.below ((Below.refl w.heap.size w).alloc (Nat.le_refl _) o) (Nat.le_refl _)

theorem Sl.drew {w : World} {v : Value} {l : List UInt8} (h : Sl w v l) : Sl w.drew v l := h.below ((Below.refl w.heap.size w).drew) (Nat.le_refl _)
theorem after_drew {B : Nat} {w w' : World} (h : Below B w.drew w') : Below B w w' := ((Below.refl B w).drew).trans h

theorem Room.alloc {w : World} {base : Nat} {v : Value} {l : List UInt8} (h : Room w base v l) (o : Obj) : Room (w.alloc o) base v l := by
  rcases h with h | ⟨h, e⟩
  · exact .inl (World.ownsRow.alloc h o)
  · exact .inr ⟨h.alloc o, e⟩

/-- A new block of bytes. -/
theorem Sl.new (w : World) (l : List UInt8) (hl : l.length ≤ maxLen) (fz : Nat × Nat) : Sl (w.alloc (.cells (l.map bv).toArray 5 fz)) (.slice (some ⟨w.heap.size, 0, none⟩) l.length l.length) l := by
  refine ⟨_, _, rfl, Nat.le_refl _, hl, fun _ => ⟨w.heap.size, 0, rfl, by simp, fun i hi => ?_⟩⟩
  have : (w.alloc (.cells (l.map bv).toArray 5 fz)).heap[w.heap.size]? = some (.cells (l.map bv).toArray 5 fz) := by
    show (w.heap.push _)[w.heap.size]? = _
    simp
  simp only [World.cell?, this]
  simp [hi]

/-! ### Bits of a byte -/
theorem byte_all (p : Nat → Bool) (h : (List.range 256).all p = true) : ∀ k, k < 256 → p k = true := fun k hk => List.all_eq_true.1 h k (List.mem_range.2 hk)
theorem or128 (m : Int) (h : 0 ≤ m) : bits BinOp.or IntKind.u8 (m % 256) 128 = ((UInt8.ofNat (128 + m.toNat % 128)).toNat : Int) := by
  obtain ⟨k, rfl⟩ := Int.eq_ofNat_of_zero_le h
  have hk : k % 256 < 256 := Nat.mod_lt _ (by decide)
  have := byte_all (fun k => bits BinOp.or IntKind.u8 (k : Int) 128 == ((128 + k % 128 : Nat) : Int)) (by decide +kernel) (k % 256) hk
  have e : ((k : Int) % 256) = ((k % 256 : Nat) : Int) := by omega
  rw [e, beq_iff_eq.1 this, Int.toNat_natCast]
  simp only [UInt8.toNat_ofNat']
  omega
theorem byte_of (m : Int) (h : 0 ≤ m) (h2 : m < 128) : m % 256 = ((UInt8.ofNat m.toNat).toNat : Int) := by
  simp only [UInt8.toNat_ofNat']
  omega

theorem not_i64 (n : Int) (h0 : -9223372036854775808 ≤ n) (h1 : n ≤ 9223372036854775807) : bits BinOp.xor IntKind.i64 (-1) n = -n - 1 := by
  have e1 : BitVec.ofInt 64 (-1) = BitVec.allOnes 64 := by decide
  show IntKind.i64.wrap ((BitVec.ofInt 64 (-1) ^^^ BitVec.ofInt 64 n).toNat : Int) = _
  rw [e1, BitVec.allOnes_xor, BitVec.toNat_not, BitVec.toNat_ofInt, IntKind.wrap_i64]
  omega


/-- An append to a slice of one's own, of whatever bytes: none, too. -/
theorem wpList_append_mine {w : World} {ops : Array Oper} {rest : List Oper} {o : Oper} {a : Act} {Q : Exit → Act → World → Prop} (hgd : o.guard = none) (s x : Operand)
    (ho : o.op = .call { callee := .builtin .append, args := #[s, x], argTypes := #[42, 42] })
    (base : Nat) (v : Value) (l : List UInt8) (hs : a.eval s = v) (hown : Own w base v l)
    (y : Value) (m : List UInt8) (hx : a.eval x = y) (hy : Sl w y m) (hlen : l.length + m.length ≤ 140737488355328) (hbase : base ≤ w.heap.size)
    (h : ∀ v' w', Own w' base v' (l ++ m) → Below base w w' → wpList Try.prog ops Q rest (a.put o.dst v') w') : wpList Try.prog ops Q (o :: rest) a w := by
  by_cases hm : m = []
  · subst hm
    obtain ⟨i0, hi, hz0, hz1, hz2⟩ := info_parts Try.info5
    obtain ⟨ao, cap, rfl, h1, h2, h4⟩ := hy
    cases ao with
    | none =>
      obtain rfl : cap = 0 := by
        by_cases hz : cap = 0
        · exact hz
        · obtain ⟨_, _, e, _⟩ := h4 hz; cases e
      refine wpList_append_own_none hgd s x 42 ho base 5 i0 1 Try.underlying42 hi v l.length (l.map bv) hs hown hx ?_
      exact h v w (by simpa using hown) (Below.refl _ _)
    | some ad =>
      refine wpList_append_own w hgd s x 42 ho base 5 i0 (.int .u8 0) 1 1 Try.underlying42 hi hz0 hz1 hz2 rfl (by decide) v l.length (l.map bv) hs hown ad 0 cap [] hx (by simp) (fun j u hj => by simp at hj) (fun u hu => by simp at hu) (by unfold maxLen; omega) (by omega) hbase ?_
      intro v' w' ho' hgr _
      refine h v' w' (by simpa [Own] using ho') ((Below.refl _ _).grown hgr hbase ?_)
      intro k hk
      rcases hown.2 with ⟨rfl, _⟩ | ⟨g, cap', cur, rfl, hb, _⟩
      · cases hk
      · simp only [Value.ownBlock, Option.some.injEq] at hk; omega
  · exact wpList_append_room hgd s x ho base v l hs (.inl hown) y m hx hy hm hlen hbase h
end Go.Proofs.Ytgdplmbchoogiaa

/-
  DERIVED. The plain mathematics of free blocks: runs, how they are cut. Nothing of the program.
-/
namespace Go.Proofs.Ytgdplmbchoogiaa

/-- Which blocks may be taken. -/
def may (U V : Nat → Bool) (n : Nat) : Bool := !U n && !V n

/-- How many blocks from n on may be taken, of k. -/
def runL (f : Nat → Bool) : Nat → Nat → Nat
  | 0, _ => 0
  | k + 1, n => if f n = true then runL f k (n + 1) + 1 else 0

theorem runL_le (f : Nat → Bool) : ∀ k n, runL f k n ≤ k
  | 0, _ => Nat.le_refl _
  | k + 1, n => by
    simp only [runL]
    split
    · have := runL_le f k (n + 1); omega
    · omega

/-- A block ahead of runs. -/
def consB (n : Nat) : List (Nat × Nat) → List (Nat × Nat)
  | [] => [(n, 1)]
  | (m, l) :: r => if m = n + 1 then (n, l + 1) :: r else (n, 1) :: (m, l) :: r

/-- The runs of k blocks from n on. -/
def runsF (f : Nat → Bool) : Nat → Nat → List (Nat × Nat)
  | 0, _ => []
  | k + 1, n => if f n = true then consB n (runsF f k (n + 1)) else runsF f k (n + 1)

theorem runsF_head (f : Nat → Bool) : ∀ k n, (∀ m l r, runsF f k n = (m, l) :: r → n ≤ m)
  | 0, _ => by intro m l r h; cases h
  | k + 1, n => by
    intro m l r h
    simp only [runsF] at h
    split at h
    · cases hq : runsF f k (n + 1) with
      | nil => rw [hq] at h; simp only [consB] at h; cases h; omega
      | cons x xs =>
        obtain ⟨m', l'⟩ := x
        rw [hq] at h
        simp only [consB] at h
        split at h <;> (cases h; omega)
    · have := runsF_head f k (n + 1) m l r h
      omega

theorem runsF_run (f : Nat → Bool) : ∀ k n, 0 < runL f k n → runsF f k n = (n, runL f k n) :: runsF f (k - (runL f k n + 1)) (n + runL f k n + 1)
  | 0, _ => by intro h; simp [runL] at h
  | k + 1, n => by
    intro h
    simp only [runL] at h ⊢
    split at h
    · rename_i hf
      simp only [runsF, hf, if_true]
      by_cases h0 : 0 < runL f k (n + 1)
      · rw [runsF_run f k (n + 1) h0]
        simp only [consB, if_true]
        congr 2
        · omega
        · omega
      · have hz : runL f k (n + 1) = 0 := by omega
        simp only [hz]
        cases k with
        | zero => simp [runsF, consB]
        | succ k =>
          simp only [runL] at hz
          split at hz
          · omega
          · rename_i hf2
            simp only [runsF, hf2]
            have e1 : n + (0 + 1) + 1 = n + 1 + 1 := by omega
            have e2 : k + 1 + 1 - (0 + 1 + 1) = k := by omega
            rw [e1, e2]
            cases hq : runsF f k (n + 1 + 1) with
            | nil => simp [consB]
            | cons x xs =>
              obtain ⟨m, l⟩ := x
              have := runsF_head f k (n + 1 + 1) m l xs hq
              have hne : ¬ m = n + 1 := by omega
              simp [consB, hne]
    · omega

theorem runsF_none (f : Nat → Bool) (k n : Nat) (h : runL f (k + 1) n = 0) : runsF f (k + 1) n = runsF f k (n + 1) := by
  simp only [runL] at h
  split at h
  · omega
  · rename_i hf
    simp [runsF, hf]

/-- The blocks of runs. -/
def blocks (xs : List (Nat × Nat)) : List Nat := xs.flatMap fun x => List.range' x.1 x.2

theorem blocks_consB (n : Nat) (xs : List (Nat × Nat)) (h : ∀ x ∈ xs, 1 ≤ x.2) : blocks (consB n xs) = n :: blocks xs := by
  cases xs with
  | nil => simp [consB, blocks]
  | cons x r =>
    obtain ⟨m, l⟩ := x
    simp only [consB]
    split
    · rename_i e
      subst e
      simp [blocks, List.range'_succ]
    · simp [blocks]

theorem runsF_pos (f : Nat → Bool) : ∀ k n, ∀ x ∈ runsF f k n, 1 ≤ x.2
  | 0, _ => by intro x h; cases h
  | k + 1, n => by
    intro x h
    have ih := runsF_pos f k (n + 1)
    simp only [runsF] at h
    split at h
    · cases hq : runsF f k (n + 1) with
      | nil => rw [hq] at h; simp only [consB, List.mem_singleton] at h; subst h; simp
      | cons y ys =>
        obtain ⟨m, l⟩ := y
        rw [hq] at h ih
        simp only [consB] at h
        split at h
        · rcases List.mem_cons.1 h with rfl | h
          · simp
          · exact ih x (List.mem_cons_of_mem _ h)
        · rcases List.mem_cons.1 h with rfl | h
          · simp
          · exact ih x h
    · exact ih x h

theorem blocks_runsF (f : Nat → Bool) : ∀ k n, blocks (runsF f k n) = (List.range' n k).filter f
  | 0, _ => rfl
  | k + 1, n => by
    simp only [runsF, List.range'_succ, List.filter_cons]
    split
    · rw [blocks_consB _ _ (runsF_pos f k (n + 1)), blocks_runsF f k (n + 1)]
    · exact blocks_runsF f k (n + 1)

theorem mem_blocks {xs : List (Nat × Nat)} {j : Nat} : j ∈ blocks xs ↔ ∃ x ∈ xs, x.1 ≤ j ∧ j < x.1 + x.2 := by
  simp [blocks, List.mem_flatMap, List.mem_range'_1]

theorem runsF_in (f : Nat → Bool) (k n : Nat) (x : Nat × Nat) (h : x ∈ runsF f k n) : n ≤ x.1 ∧ x.1 + x.2 ≤ n + k := by
  have hp := runsF_pos f k n x h
  have h1 : x.1 ∈ blocks (runsF f k n) := mem_blocks.2 ⟨x, h, by omega, by omega⟩
  have h2 : x.1 + x.2 - 1 ∈ blocks (runsF f k n) := mem_blocks.2 ⟨x, h, by omega, by omega⟩
  rw [blocks_runsF] at h1 h2
  have a1 := List.mem_range'_1.1 (List.mem_filter.1 h1).1
  have a2 := List.mem_range'_1.1 (List.mem_filter.1 h2).1
  omega

/-- How many blocks runs have. -/
def total (xs : List (Nat × Nat)) : Nat := (xs.map (·.2)).sum
theorem total_nil : total [] = 0 := rfl
theorem total_cons (x : Nat × Nat) (xs : List (Nat × Nat)) : total (x :: xs) = x.2 + total xs := by simp [total]
theorem total_append (xs ys : List (Nat × Nat)) : total (xs ++ ys) = total xs + total ys := by simp [total]
theorem total_blocks (xs : List (Nat × Nat)) : total xs = (blocks xs).length := by
  induction xs with
  | nil => rfl
  | cons x xs ih => rw [total_cons, ih]; simp [blocks]
theorem total_le_of_prefix {xs ys : List (Nat × Nat)} (h : xs <+: ys) : total xs ≤ total ys := by
  obtain ⟨r, rfl⟩ := h
  rw [total_append]; omega
theorem total_runsF (f : Nat → Bool) (k n : Nat) : total (runsF f k n) ≤ k := by
  rw [total_blocks, blocks_runsF]
  exact Nat.le_trans (List.length_filter_le _ _) (by simp)
theorem length_le_total {xs : List (Nat × Nat)} (h : ∀ x ∈ xs, 1 ≤ x.2) : xs.length ≤ total xs := by
  induction xs with
  | nil => simp
  | cons x xs ih =>
    have h1 := h x (List.mem_cons_self ..)
    have h2 := ih fun y hy => h y (List.mem_cons_of_mem _ hy)
    rw [total_cons]
    simp
    omega

/-- The first n blocks of runs. -/
def cut : Nat → List (Nat × Nat) → List (Nat × Nat)
  | _, [] => []
  | n, x :: xs => if n = 0 then [] else (x.1, min x.2 n) :: cut (n - min x.2 n) xs

theorem cut_zero (xs : List (Nat × Nat)) : cut 0 xs = [] := by cases xs <;> simp [cut]

theorem cut_full : ∀ (xs ys : List (Nat × Nat)) (n : Nat), n ≤ total xs → cut n (xs ++ ys) = cut n xs
  | [], ys, n, h => by
    have : n = 0 := by simp [total] at h; omega
    subst this
    simp [cut, cut_zero]
  | x :: xs, ys, n, h => by
    rw [total_cons] at h
    simp only [List.cons_append, cut]
    split
    · rfl
    · rw [cut_full xs ys (n - min x.2 n) (by omega)]

theorem cut_snoc : ∀ (xs : List (Nat × Nat)) (x : Nat × Nat) (n : Nat), total xs < n → cut n (xs ++ [x]) = cut n xs ++ [(x.1, min x.2 (n - total xs))]
  | [], x, n, h => by
    have : n ≠ 0 := by simp [total] at h; omega
    simp [cut, this, total]
  | y :: xs, x, n, h => by
    rw [total_cons] at h ⊢
    have h0 : n ≠ 0 := by omega
    have e : min y.2 n = y.2 := by omega
    simp only [List.cons_append, cut, h0, if_false, e]
    rw [cut_snoc xs x (n - y.2) (by omega), Nat.sub_sub]

theorem total_cut : ∀ (xs : List (Nat × Nat)) (n : Nat), n ≤ total xs → total (cut n xs) = n
  | [], n, h => by simp [total] at h; simp [cut, total, h]
  | x :: xs, n, h => by
    rw [total_cons] at h
    simp only [cut]
    split
    · rename_i h0; simp [total, h0]
    · rw [total_cons, total_cut xs _ (by omega)]
      simp only
      omega

theorem take_range' : ∀ (n a k : Nat), List.range' a (min k n) = (List.range' a k).take n
  | 0, a, k => by simp
  | n + 1, a, 0 => by simp
  | n + 1, a, k + 1 => by
    have e : min (k + 1) (n + 1) = min k n + 1 := by omega
    rw [e, List.range'_succ, List.range'_succ, List.take_succ_cons, take_range' n (a + 1) k]

theorem blocks_cut : ∀ (xs : List (Nat × Nat)) (n : Nat), blocks (cut n xs) = (blocks xs).take n
  | [], n => by simp [cut, blocks]
  | x :: xs, n => by
    simp only [cut]
    split
    · rename_i h0; subst h0; simp [blocks]
    · have ih := blocks_cut xs (n - min x.2 n)
      simp only [blocks, List.flatMap_cons] at ih ⊢
      rw [ih, List.take_append]
      congr 1
      · exact take_range' _ _ _
      · congr 1
        simp only [List.length_range']
        omega

theorem cut_pos : ∀ (xs : List (Nat × Nat)) (n : Nat), (∀ x ∈ xs, 1 ≤ x.2) → ∀ x ∈ cut n xs, 1 ≤ x.2
  | [], n, _, x, h => by simp [cut] at h
  | y :: xs, n, hp, x, h => by
    simp only [cut] at h
    split at h
    · cases h
    · rcases List.mem_cons.1 h with rfl | h
      · have := hp y (List.mem_cons_self ..)
        simp only
        omega
      · exact cut_pos xs _ (fun z hz => hp z (List.mem_cons_of_mem _ hz)) x h

theorem cut_in : ∀ (xs : List (Nat × Nat)) (n B : Nat), (∀ x ∈ xs, x.1 + x.2 ≤ B) → ∀ x ∈ cut n xs, x.1 + x.2 ≤ B
  | [], n, B, _, x, h => by simp [cut] at h
  | y :: xs, n, B, hp, x, h => by
    simp only [cut] at h
    split at h
    · cases h
    · rcases List.mem_cons.1 h with rfl | h
      · have := hp y (List.mem_cons_self ..)
        simp only
        omega
      · exact cut_in xs _ B (fun z hz => hp z (List.mem_cons_of_mem _ hz)) x h

/-- A run's blocks taken. -/
def mark (U : Nat → Bool) (x : Nat × Nat) : Nat → Bool := fun j => U j || (decide (x.1 ≤ j) && decide (j < x.1 + x.2))
def marks (U : Nat → Bool) (xs : List (Nat × Nat)) : Nat → Bool := xs.foldl mark U
theorem marks_nil (U : Nat → Bool) : marks U [] = U := rfl
theorem marks_snoc (U : Nat → Bool) (xs : List (Nat × Nat)) (x : Nat × Nat) : marks U (xs ++ [x]) = mark (marks U xs) x := by simp [marks]
theorem marks_eq (xs : List (Nat × Nat)) : ∀ (U : Nat → Bool) (j : Nat), marks U xs j = (U j || decide (j ∈ blocks xs)) := by
  induction xs with
  | nil => intro U j; simp [marks, blocks]
  | cons x xs ih =>
    intro U j
    have e : marks U (x :: xs) = marks (mark U x) xs := rfl
    rw [e, ih]
    have hb : j ∈ blocks (x :: xs) ↔ (x.1 ≤ j ∧ j < x.1 + x.2) ∨ j ∈ blocks xs := by
      rw [mem_blocks, mem_blocks]
      constructor
      · rintro ⟨y, hy, hh⟩
        rcases List.mem_cons.1 hy with rfl | hy
        · exact .inl hh
        · exact .inr ⟨y, hy, hh⟩
      · rintro (hh | ⟨y, hy, hh⟩)
        · exact ⟨x, List.mem_cons_self .., hh⟩
        · exact ⟨y, List.mem_cons_of_mem _ hy, hh⟩
    simp only [mark]
    by_cases h1 : x.1 ≤ j ∧ j < x.1 + x.2
    · have : j ∈ blocks (x :: xs) := hb.2 (.inl h1)
      simp [h1, this]
    · have : (decide (x.1 ≤ j) && decide (j < x.1 + x.2)) = false := by
        simp only [Bool.and_eq_false_iff, decide_eq_false_iff_not]; omega
      rw [this, Bool.or_false]
      congr 1
      apply decide_eq_decide.2
      rw [hb]
      exact ⟨.inr, fun h => h.resolve_left h1⟩

/-- A run within its bounds, whatever was given. -/
def cl (x : Nat × Nat) : Nat × Nat := if 1 ≤ x.2 ∧ x.1 + x.2 ≤ 512 then x else (0, 1)
theorem cl_in (x : Nat × Nat) : 1 ≤ (cl x).2 ∧ (cl x).1 + (cl x).2 ≤ 512 := by
  unfold cl
  split
  · assumption
  · decide
theorem cl_id {x : Nat × Nat} (h1 : 1 ≤ x.2) (h2 : x.1 + x.2 ≤ 512) : cl x = x := by simp [cl, h1, h2]
theorem cl_map {xs : List (Nat × Nat)} (h : ∀ x ∈ xs, 1 ≤ x.2 ∧ x.1 + x.2 ≤ 512) : xs.map cl = xs := by
  induction xs with
  | nil => rfl
  | cons x xs ih =>
    rw [List.map_cons, ih fun y hy => h y (List.mem_cons_of_mem _ hy), cl_id (h x (List.mem_cons_self ..)).1 (h x (List.mem_cons_self ..)).2]

/-- A run given back, where all its blocks are in use. -/
def dropGo : Nat → Nat → (Nat → Bool) → Option (Nat → Bool)
  | 0, _, U => some U
  | k + 1, n, U => if U n = true then dropGo k (n + 1) (fun j => if j = n then false else U j) else none
def dropR (B : Nat) (U : Nat → Bool) (x : Int × Int) : Option (Nat → Bool) :=
  if x.1 < 0 ∨ x.2 < 1 ∨ x.2 > B - x.1 then none else dropGo x.2.toNat x.1.toNat U
def giveL (B : Nat) : (Nat → Bool) → List (Int × Int) → Option (Nat → Bool)
  | U, [] => some U
  | U, x :: r => match dropR B U x with
    | none => none
    | some U' => giveL B U' r

/-- The runs that may be taken. -/
def runsOf (B : Nat) (U V : Nat → Bool) : List (Nat × Nat) := runsF (may U V) B 0
theorem runsOf_in {B : Nat} {U V : Nat → Bool} (hB : B ≤ 512) : ∀ x ∈ runsOf B U V, 1 ≤ x.2 ∧ x.1 + x.2 ≤ 512 := fun x h => by
  have h1 := runsF_pos _ _ _ x h
  have h2 := runsF_in _ _ _ x h
  omega
theorem runsOf_total (B : Nat) (U V : Nat → Bool) : total (runsOf B U V) ≤ B := total_runsF _ _ _

end Go.Proofs.Ytgdplmbchoogiaa

/-
  DERIVED. The map in memory: a number and two rows of 512 bools in one block.
-/
namespace Go.Proofs.Ytgdplmbchoogiaa
open Go.RowKit

def bs (U : Nat → Bool) : List Value := (List.range 512).map fun n => Value.bool (U n)
theorem bs_len (U : Nat → Bool) : (bs U).length = 512 := by simp [bs]
theorem bs_at (U : Nat → Bool) {n : Nat} (h : n < 512) : (bs U)[n]? = some (Value.bool (U n)) := by simp [bs, h]
theorem bs_one (U : Nat → Bool) : ∀ v ∈ bs U, v.oneCell' = true := by
  intro v hv
  obtain ⟨n, _, rfl⟩ := List.mem_map.1 hv
  rfl

/-- The cells of a map. -/
def mcells (B : Nat) (U V : Nat → Bool) : Array Value := (Value.int .i64 (B : Int) :: (bs U ++ bs V)).toArray
theorem mcells_size (B : Nat) (U V : Nat → Bool) : (mcells B U V).size = 1025 := by simp [mcells, bs_len]
theorem mcells_zero (B : Nat) (U V : Nat → Bool) : (mcells B U V)[0]? = some (Value.int .i64 (B : Int)) := by simp [mcells]
theorem mcells_used (B : Nat) (U V : Nat → Bool) {n : Nat} (h : n < 512) : (mcells B U V)[1 + n]? = some (Value.bool (U n)) := by
  have e : 1 + n = n + 1 := by omega
  rw [mcells, List.getElem?_toArray, e, List.getElem?_cons_succ, List.getElem?_append_left (by rw [bs_len]; exact h), bs_at U h]
theorem mcells_was (B : Nat) (U V : Nat → Bool) {n : Nat} (h : n < 512) : (mcells B U V)[513 + n]? = some (Value.bool (V n)) := by
  have e : 513 + n = (512 + n) + 1 := by omega
  rw [mcells, List.getElem?_toArray, e, List.getElem?_cons_succ, List.getElem?_append_right (by rw [bs_len]; omega), bs_len, show 512 + n - 512 = n by omega, bs_at V h]

structure MapAt (w : World) (b B : Nat) (U V : Nat → Bool) : Prop where
  blk : w.heap[b]? = some (.cells (mcells B U V) 52 (0, 0))
  le : B ≤ 512

theorem MapAt.lt {w : World} {b B : Nat} {U V : Nat → Bool} (h : MapAt w b B U V) : b < w.heap.size := lt_of_block h.blk
theorem MapAt.frozen {w : World} {b B : Nat} {U V : Nat → Bool} (h : MapAt w b B U V) (i : Nat) : w.frozen? ⟨b, i, none⟩ = false := by simp [World.frozen?, h.blk]
theorem MapAt.num {w : World} {b B : Nat} {U V : Nat → Bool} (h : MapAt w b B U V) : w.cell? ⟨b, 0, none⟩ = some (.int .i64 (B : Int)) := by
  rw [cell_of_row _ _ _ _ _ _ h.blk, mcells_zero]
theorem MapAt.used {w : World} {b B : Nat} {U V : Nat → Bool} (h : MapAt w b B U V) {n : Nat} (hn : n < 512) : w.cell? ⟨b, 1 + n, none⟩ = some (.bool (U n)) := by
  rw [cell_of_row _ _ _ _ _ _ h.blk, mcells_used _ _ _ hn]
theorem MapAt.was {w : World} {b B : Nat} {U V : Nat → Bool} (h : MapAt w b B U V) {n : Nat} (hn : n < 512) : w.cell? ⟨b, 513 + n, none⟩ = some (.bool (V n)) := by
  rw [cell_of_row _ _ _ _ _ _ h.blk, mcells_was _ _ _ hn]
theorem MapAt.rangeU {w : World} {b B : Nat} {U V : Nat → Bool} (h : MapAt w b B U V) : w.rangeAt b 1 (bs U) := fun j v hv => by
  have hj : j < 512 := by have := (List.getElem?_eq_some_iff.1 hv).1; rwa [bs_len] at this
  rw [bs_at U hj] at hv
  rw [h.used hj, hv]
theorem MapAt.rangeV {w : World} {b B : Nat} {U V : Nat → Bool} (h : MapAt w b B U V) : w.rangeAt b 513 (bs V) := fun j v hv => by
  have hj : j < 512 := by have := (List.getElem?_eq_some_iff.1 hv).1; rwa [bs_len] at this
  rw [bs_at V hj] at hv
  rw [h.was hj, hv]
theorem MapAt.thereU {w : World} {b B : Nat} {U V : Nat → Bool} (h : MapAt w b B U V) : w.there b 1 512 := fun j hj => ⟨by rw [h.used hj]; rfl, h.frozen _⟩
theorem MapAt.thereV {w : World} {b B : Nat} {U V : Nat → Bool} (h : MapAt w b B U V) : w.there b 513 512 := fun j hj => ⟨by rw [h.was hj]; rfl, h.frozen _⟩
theorem MapAt.of {w w' : World} {b B : Nat} {U V : Nat → Bool} (h : MapAt w b B U V) (he : w'.heap[b]? = w.heap[b]?) : MapAt w' b B U V := ⟨he.trans h.blk, h.le⟩
theorem MapAt.grown {w w' : World} {b B : Nat} {U V : Nat → Bool} {row : Option Nat} (h : MapAt w b B U V) (hg : w.grownBy w' row) (hne : some b ≠ row) : MapAt w' b B U V := h.of (hg.block b h.lt hne)
theorem MapAt.alloc {w : World} {b B : Nat} {U V : Nat → Bool} (h : MapAt w b B U V) (o : Obj) : MapAt (w.alloc o) b B U V := h.of (Below.heap_alloc w o b h.lt)
theorem MapAt.below {N : Nat} {w w' : World} {b B : Nat} {U V : Nat → Bool} (h : MapAt w b B U V) (hb : Below N w w') (hN : b < N) : MapAt w' b B U V := h.of (hb.block b hN)

/-- Cells laid into a block. -/
theorem heap_setCells (b : Nat) (t : TypeId) : ∀ (vs : List Value) (o : Nat) (w : World) (C : Array Value), w.heap[b]? = some (.cells C t (0, 0)) → o + vs.length ≤ C.size →
    ∃ C', (w.setCells b o vs).heap[b]? = some (.cells C' t (0, 0)) ∧ C'.size = C.size ∧ ∀ j, C'[j]? = if o ≤ j ∧ j < o + vs.length then vs[j - o]? else C[j]?
  | [], o, w, C, h, _ => ⟨C, h, rfl, fun j => by rw [if_neg (by simp; try omega)]⟩
  | v :: r, o, w, C, h, hl => by
    simp only [List.length_cons] at hl
    have h1 := heap_setCell_same w b o C t v h
    obtain ⟨C', h2, h3, h4⟩ := heap_setCells b t r (o + 1) (w.setCell ⟨b, o, none⟩ v) _ h1 (by simp; omega)
    refine ⟨C', h2, by rw [h3]; simp, fun j => ?_⟩
    rw [h4 j]
    simp only [List.length_cons]
    by_cases e1 : j = o
    · subst e1
      rw [if_neg (by omega), if_pos (by omega), Nat.sub_self, Array.getElem?_setIfInBounds_self]
      have : j < C.size := by omega
      simp [this]
    · by_cases e2 : o + 1 ≤ j ∧ j < o + 1 + r.length
      · rw [if_pos e2, if_pos (by omega), show j - o = (j - (o + 1)) + 1 by omega, List.getElem?_cons_succ]
      · rw [if_neg e2, if_neg (by omega), Array.getElem?_setIfInBounds_ne (by omega)]
theorem heap_setCells_other (b : Nat) : ∀ (vs : List Value) (o : Nat) (w : World) (q : Nat), q ≠ b → (w.setCells b o vs).heap[q]? = w.heap[q]?
  | [], _, _, _, _ => rfl
  | v :: r, o, w, q, h => by
    rw [World.setCells, heap_setCells_other b r (o + 1) _ q h]
    exact Below.heap_setCell w ⟨b, o, none⟩ v q h
theorem setCells_grown (b : Nat) : ∀ (vs : List Value) (o : Nat) (w : World), w.grownBy (w.setCells b o vs) (some b)
  | [], _, w => World.grownBy.refl w _
  | v :: r, o, w => by
    rw [World.setCells]
    refine World.grownBy.trans (b := w.setCell ⟨b, o, none⟩ v) ⟨rfl, rfl, rfl, by simp, fun k _ hk => Below.heap_setCell w ⟨b, o, none⟩ v k (fun e => hk (by rw [e]))⟩ (setCells_grown b r (o + 1) _)

theorem mcells_ext {B : Nat} {U V : Nat → Bool} {C : Array Value} (hs : C.size = 1025) (h0 : C[0]? = some (Value.int .i64 (B : Int))) (h1 : ∀ n, n < 512 → C[1 + n]? = some (Value.bool (U n))) (h2 : ∀ n, n < 512 → C[513 + n]? = some (Value.bool (V n))) : C = mcells B U V := by
  apply Array.ext_getElem?
  intro i
  by_cases e0 : i = 0
  · subst e0; rw [h0, mcells_zero]
  · by_cases e1 : i < 513
    · obtain ⟨n, rfl⟩ : ∃ n, i = 1 + n := ⟨i - 1, by omega⟩
      rw [h1 n (by omega), mcells_used _ _ _ (by omega)]
    · by_cases e2 : i < 1025
      · obtain ⟨n, rfl⟩ : ∃ n, i = 513 + n := ⟨i - 513, by omega⟩
        rw [h2 n (by omega), mcells_was _ _ _ (by omega)]
      · rw [Array.getElem?_eq_none (by omega), Array.getElem?_eq_none (by rw [mcells_size]; omega)]

theorem MapAt.setU {w : World} {b B : Nat} {U V : Nat → Bool} (h : MapAt w b B U V) (U' : Nat → Bool) : MapAt (w.setCells b 1 (bs U')) b B U' V := by
  obtain ⟨C', h2, h3, h4⟩ := heap_setCells b 52 (bs U') 1 w _ h.blk (by rw [bs_len, mcells_size]; omega)
  have e : C' = mcells B U' V := by
    refine mcells_ext (by rw [h3, mcells_size]) ?_ ?_ ?_
    · rw [h4, if_neg (by omega), mcells_zero]
    · intro n hn
      rw [h4, bs_len, if_pos (by omega), show 1 + n - 1 = n by omega, bs_at _ hn]
    · intro n hn
      rw [h4, bs_len, if_neg (by omega), mcells_was _ _ _ hn]
  exact ⟨by rw [h2, e], h.le⟩
theorem MapAt.setV {w : World} {b B : Nat} {U V : Nat → Bool} (h : MapAt w b B U V) (V' : Nat → Bool) : MapAt (w.setCells b 513 (bs V')) b B U V' := by
  obtain ⟨C', h2, h3, h4⟩ := heap_setCells b 52 (bs V') 513 w _ h.blk (by rw [bs_len, mcells_size]; omega)
  have e : C' = mcells B U V' := by
    refine mcells_ext (by rw [h3, mcells_size]) ?_ ?_ ?_
    · rw [h4, if_neg (by omega), mcells_zero]
    · intro n hn
      rw [h4, bs_len, if_neg (by omega), mcells_used _ _ _ hn]
    · intro n hn
      rw [h4, bs_len, if_pos (by omega), show 513 + n - 513 = n by omega, bs_at _ hn]
  exact ⟨by rw [h2, e], h.le⟩
theorem MapAt.set {w : World} {b B : Nat} {U V : Nat → Bool} (h : MapAt w b B U V) (k : Nat) (hk : k < 512) (x : Bool) : MapAt (w.setCell ⟨b, 1 + k, none⟩ (.bool x)) b B (fun j => if j = k then x else U j) V := by
  refine ⟨?_, h.le⟩
  rw [heap_setCell_same w b (1 + k) _ _ _ h.blk]
  congr 2
  refine mcells_ext (by simp [mcells_size]) ?_ ?_ ?_
  · rw [Array.getElem?_setIfInBounds_ne (by omega), mcells_zero]
  · intro n hn
    by_cases e : n = k
    · subst e
      rw [Array.getElem?_setIfInBounds_self]
      simp [mcells_size]
      omega
    · rw [Array.getElem?_setIfInBounds_ne (by omega), mcells_used _ _ _ hn, if_neg e]
  · intro n hn
    rw [Array.getElem?_setIfInBounds_ne (by omega), mcells_was _ _ _ hn]
theorem setCell_grown (w : World) (b k : Nat) (v : Value) : w.grownBy (w.setCell ⟨b, k, none⟩ v) (some b) := ⟨rfl, rfl, rfl, by simp, fun q _ hq => Below.heap_setCell w ⟨b, k, none⟩ v q (fun e => hq (by rw [e]))⟩

theorem grown_of_below {w w' : World} (h : Below w.heap.size w w') : w.grownBy w' none := ⟨h.os, h.tape, h.output, h.size, fun k hk _ => h.block k hk⟩
theorem below_of_grown {w w' : World} (h : w.grownBy w' none) : Below w.heap.size w w' := ⟨h.os, h.tape, h.output, h.size, fun k hk => h.block k hk (by simp)⟩

theorem infoMap : (Try.prog.info? 52).map (·.size) = some 1025 := by kernel_rfl
theorem info512 : (Try.prog.info? 50).map (·.size) = some 512 := by kernel_rfl
theorem zeroMap : (Try.prog.info? 52).map (fun i => (i.zero, i.size)) = some (some (.agg (mcells 0 (fun _ => false) (fun _ => false))), 1025) := by kernel_rfl
end Go.Proofs.Ytgdplmbchoogiaa

/-
  DERIVED. New, Blocks, Commit, Reset, runAt, use.
-/
namespace Go.Proofs.Ytgdplmbchoogiaa
open Go.RowKit
set_option linter.unusedVariables false

def none? : Nat → Bool := fun _ => false

theorem run_build_map (w : World) (B : Nat) : (Instr.build 52 #[(0, .int .i64 (B : Int))]).run Try.prog w = .ok (.agg (mcells B none? none?)) w := by
  refine run_build w 52 #[(0, .int .i64 (B : Int))] _ ?_
  kernel_rfl
theorem run_box_map (w : World) (B : Nat) (U V : Nat → Bool) : (Instr.box 52 (.agg (mcells B U V))).run Try.prog w = .ok (.pointer (some ⟨w.heap.size, 0, none⟩)) (w.alloc (.cells (mcells B U V) 52)) := by
  simp [Instr.box, newVar, newRow, Value.cells]
theorem run_alloc_map (w : World) : (Instr.alloc 52 true (.tuple #[])).run Try.prog w = .ok (.pointer (some ⟨w.heap.size, 0, none⟩)) (w.alloc (.cells (mcells 0 none? none?) 52)) := by kernel_rfl
theorem wpList_build_map {ops : Array Oper} {rest : List Oper} {o : Oper} {a : Act} {w : World} {Q : Exit → Act → World → Prop} (hgd : o.guard = none) (x : Operand) (B : Nat)
    (ho : o.op = .build 52 #[(0, x)]) (hx : a.eval x = .int .i64 (B : Int)) (h : wpList Try.prog ops Q rest (a.put o.dst (.agg (mcells B none? none?))) w) : wpList Try.prog ops Q (o :: rest) a w := by
  refine wpList_plain hgd fun K hK => ?_
  unfold Oper.wp execOp
  have e : (Instr.build 52 (#[(0, x)].map fun (i, x) => (i, a.eval x))).run Try.prog w = .ok (.agg (mcells B none? none?)) w := by
    rw [show (#[(0, x)].map fun (i, x) => (i, a.eval x)) = #[(0, .int .i64 (B : Int))] by simp [hx]]
    exact run_build_map w B
  simp only [ho, Sem.run_bind, Sem.run_pure, e, Result.andThen_ok]
  exact hK _ _ h
theorem wpList_box_map {ops : Array Oper} {rest : List Oper} {o : Oper} {a : Act} {w : World} {Q : Exit → Act → World → Prop} (hgd : o.guard = none) (x : Operand) (B : Nat) (U V : Nat → Bool)
    (ho : o.op = .box 52 x) (hx : a.eval x = .agg (mcells B U V)) (h : wpList Try.prog ops Q rest (a.put o.dst (.pointer (some ⟨w.heap.size, 0, none⟩))) (w.alloc (.cells (mcells B U V) 52))) : wpList Try.prog ops Q (o :: rest) a w := by
  refine wpList_plain hgd fun K hK => ?_
  unfold Oper.wp execOp
  simp only [ho, hx, Sem.run_bind, Sem.run_pure, run_box_map, Result.andThen_ok]
  exact hK _ _ h

theorem New_any (B : Nat) (w : World) (hB : B ≤ 512) :
    Calls Try.prog 6 #[.int .i64 (B : Int)] w fun e w' => e = .returned (.pointer (some ⟨w.heap.size, 0, none⟩)) ∧ MapAt w' w.heap.size B none? none? ∧ w.grownBy w' none := by
  have hB' : (B : Int) ≤ 512 := by omega
  go_enter Try.func6, Try.ntmps6
  go_wp2_with (first | (refine wpList_build_map rfl (.tmp 9) B rfl rfl ?_) | (refine wpList_box_map rfl (.tmp 10) B none? none? rfl rfl ?_))
  go_ret
  exact ⟨rfl, ⟨heap_alloc_new _ _, hB⟩, World.grownBy_alloc _ _ _⟩
theorem New_no (n : Int) (w : World) (hn : n < 0 ∨ 512 < n) (h1 : -9223372036854775808 ≤ n) (h2 : n ≤ 9223372036854775807) :
    Calls Try.prog 6 #[.int .i64 n] w fun e w' => e = .returned (.pointer none) ∧ w' = w := by
  rcases hn with hn | hn
  · go_enter Try.func6, Try.ntmps6
    go_wp2
    go_ret
    exact ⟨rfl, rfl⟩
  · have hn' : ¬ n < 0 := by omega
    go_enter Try.func6, Try.ntmps6
    go_wp2
    go_ret
    exact ⟨rfl, rfl⟩

theorem Blocks_any (w : World) (b B : Nat) (U V : Nat → Bool) (h : MapAt w b B U V) :
    Calls Try.prog 33 #[.pointer (some ⟨b, 0, none⟩)] w fun e w' => e = .returned (.int .i64 (B : Int)) ∧ w' = w := by
  have c0 := h.num
  go_enter Try.func33, Try.ntmps33
  go_wp2
  go_ret
  exact ⟨rfl, rfl⟩
theorem Blocks_nil (w : World) : Calls Try.prog 33 #[.pointer none] w fun e w' => e = .returned (.int .i64 0) ∧ w' = w := by
  go_enter Try.func33, Try.ntmps33
  go_wp2
  go_ret
  exact ⟨rfl, rfl⟩

set_option maxRecDepth 20000 in
theorem Commit_any (w : World) (b B : Nat) (U V : Nat → Bool) (h : MapAt w b B U V) :
    Calls Try.prog 15 #[.pointer (some ⟨b, 0, none⟩)] w fun e w' => (∃ v, e = .returned v) ∧ MapAt w' b B U U ∧ w.grownBy w' (some b) := by
  have HR := hide h.rangeU
  have HT : Hid (w.there b 513 (bs U).toArray.size) := hide (by simpa [bs_len] using h.thereV)
  have HS := hide (h.setV U)
  go_enter Try.func15, Try.ntmps15
  go_wp2_with (first | (refine wpList_load_mid rfl 50 (.tmp 7) rfl b 1 rfl (bs U) _ (unhide HR) Try.underlying50 rfl (by rw [bs_len]; exact info512) ?_) | (refine wpList_store_mid rfl 50 (.tmp 10) (.tmp 8) rfl b 513 (bs U).toArray rfl rfl (unhide HT) (by simpa [bs_len] using info512) (all_oneCell_toArray (bs_one U)) ?_))
  go_end0
  exact ⟨⟨_, rfl⟩, unhide HS, setCells_grown b _ _ _⟩
theorem Commit_nil (w : World) : Calls Try.prog 15 #[.pointer none] w fun e w' => (∃ v, e = .returned v) ∧ w' = w := by
  go_enter Try.func15, Try.ntmps15
  go_wp2
  go_end0
  exact ⟨⟨_, rfl⟩, rfl⟩

set_option maxRecDepth 20000 in
theorem Reset_any (w : World) (b B : Nat) (U V : Nat → Bool) (h : MapAt w b B U V) :
    Calls Try.prog 17 #[.pointer (some ⟨b, 0, none⟩)] w fun e w' => (∃ v, e = .returned v) ∧ MapAt w' b B V V ∧ w.grownBy w' (some b) := by
  have HR := hide h.rangeV
  have HT : Hid (w.there b 1 (bs V).toArray.size) := hide (by simpa [bs_len] using h.thereU)
  have HS := hide (h.setU V)
  go_enter Try.func17, Try.ntmps17
  go_wp2_with (first | (refine wpList_load_mid rfl 50 (.tmp 7) rfl b 513 rfl (bs V) _ (unhide HR) Try.underlying50 rfl (by rw [bs_len]; exact info512) ?_) | (refine wpList_store_mid rfl 50 (.tmp 10) (.tmp 8) rfl b 1 (bs V).toArray rfl rfl (unhide HT) (by simpa [bs_len] using info512) (all_oneCell_toArray (bs_one V)) ?_))
  go_end0
  exact ⟨⟨_, rfl⟩, unhide HS, setCells_grown b _ _ _⟩
theorem Reset_nil (w : World) : Calls Try.prog 17 #[.pointer none] w fun e w' => (∃ v, e = .returned v) ∧ w' = w := by
  go_enter Try.func17, Try.ntmps17
  go_wp2
  go_end0
  exact ⟨⟨_, rfl⟩, rfl⟩
end Go.Proofs.Ytgdplmbchoogiaa

/-
  DERIVED. runAt, use.
-/
namespace Go.Proofs.Ytgdplmbchoogiaa
open Go.RowKit
set_option linter.unusedVariables false

theorem runL_yes {f : Nat → Bool} {k n : Nat} (hk : 0 < k) (h : f n = true) : runL f k n = runL f (k - 1) (n + 1) + 1 := by
  cases k with
  | zero => omega
  | succ k => simp [runL, h]
theorem runL_no {f : Nat → Bool} {k n : Nat} (h : k = 0 ∨ f n = false) : runL f k n = 0 := by
  cases k with
  | zero => rfl
  | succ k => rcases h with h | h
              · omega
              · simp [runL, h]

theorem infoRun : (Try.prog.info? 36).map (·.size) = some 2 := by kernel_rfl
def rv (x : Nat × Nat) : Value := .agg #[.int .i64 (x.1 : Int), .int .i64 (x.2 : Int)]

set_option maxHeartbeats 1000000 in
set_option maxRecDepth 20000 in
theorem runAt_any (w : World) (b B n : Nat) (U V : Nat → Bool) (h : MapAt w b B U V) (hn : n ≤ B) :
    Calls Try.prog 41 #[.pointer (some ⟨b, 0, none⟩), .int .i64 (n : Int)] w fun e w' => e = .returned (rv (n, runL (may U V) (B - n) n)) ∧ w.grownBy w' none := by
  have hB := h.le
  go_enter Try.func41, Try.ntmps41
  go_wp2
  go_loopw [5] (fun i wr => ∃ j : Nat, i = .int .i64 (j : Int) ∧ n ≤ j ∧ j ≤ B ∧ Hid (runL (may U V) (B - n) n = (j - n) + runL (may U V) (B - j) j) ∧ wr = w.alloc (.cells #[.int .i64 0, .int .i64 0] 36)) (fun i _ => B - (intOf i).toNat)
  case atStart => exact ⟨n, rfl, by omega, by omega, hide (by simp), rfl⟩
  case round =>
    obtain ⟨j, rfl, hnj, hk, HL, rfl⟩ := hrel
    have h' := h.alloc (.cells #[.int .i64 0, .int .i64 0] 36)
    have c0 := h'.num
    have hj512 : (j : Int) ≤ 512 := by omega
    have hn512 : (n : Int) ≤ (j : Int) := by omega
    have hc : (w.alloc (.cells #[.int .i64 0, .int .i64 0] 36)).cell? ⟨w.heap.size, 0, none⟩ = some (.int .i64 0) := by rw [cell_of_row _ _ _ _ _ _ (heap_alloc_new _ _)]; rfl
    have hc1 : (w.alloc (.cells #[.int .i64 0, .int .i64 0] 36)).cell? ⟨w.heap.size, 1, none⟩ = some (.int .i64 0) := by rw [cell_of_row _ _ _ _ _ _ (heap_alloc_new _ _)]; rfl
    have HEnd : Hid (∀ (e : Ending) (w' : World), e = .returned (rv (n, j - n)) ∧ w.grownBy w' none → runL (may U V) (B - j) j = 0 → e = .returned (rv (n, runL (may U V) (B - n) n)) ∧ w.grownBy w' none) := hide (fun e w' h0 h1 => by rw [unhide HL, h1]; exact h0)
    by_cases hlt : j < B
    · have hlt' : (j : Int) < (B : Int) := by omega
      have cU := h'.used (n := j) (by omega)
      have cV := h'.was (n := j) (by omega)
      have hj5 : (j : Int) < 512 := by omega
      cases hU : U j with
      | true =>
        rw [hU] at cU
        clear HL h' h
        go_wp2
        refine bodyPost_ret (results_cell_row rfl _ _ w.heap.size 36 #[.int .i64 (n : Int), .int .i64 ((j : Int) - (n : Int))] (0, 0) _ rfl (heap_alloc_new _ _) Try.underlying36 rfl infoRun) rfl (unhide HEnd _ _ ⟨by rw [rv, Int.ofNat_sub hnj], World.grownBy_alloc _ _ _⟩ (runL_no (.inr (by simp [may, hU]))))
      | false =>
        rw [hU] at cU
        cases hV : V j with
        | true =>
          rw [hV] at cV
          clear HL h' h
          go_wp2
          refine bodyPost_ret (results_cell_row rfl _ _ w.heap.size 36 #[.int .i64 (n : Int), .int .i64 ((j : Int) - (n : Int))] (0, 0) _ rfl (heap_alloc_new _ _) Try.underlying36 rfl infoRun) rfl (unhide HEnd _ _ ⟨by rw [rv, Int.ofNat_sub hnj], World.grownBy_alloc _ _ _⟩ (runL_no (.inr (by simp [may, hV]))))
        | false =>
          rw [hV] at cV
          have HL2 : Hid (runL (may U V) (B - n) n = (j + 1 - n) + runL (may U V) (B - (j + 1)) (j + 1)) := hide (by
            rw [unhide HL, runL_yes (by omega) (by simp [may, hU, hV]), show B - j - 1 = B - (j + 1) by omega]
            omega)
          clear HL h' h
          go_wp2
          go_roundw
          case rel => exact ⟨j + 1, rfl, by omega, by omega, HL2, trivial⟩
          case measure => simp [intOf]; omega
    · have hlt' : ¬ (j : Int) < (B : Int) := by omega
      clear HL h' h
      go_wp2
      refine bodyPost_ret (results_cell_row rfl _ _ w.heap.size 36 #[.int .i64 (n : Int), .int .i64 ((j : Int) - (n : Int))] (0, 0) _ rfl (heap_alloc_new _ _) Try.underlying36 rfl infoRun) rfl (unhide HEnd _ _ ⟨by rw [rv, Int.ofNat_sub hnj], World.grownBy_alloc _ _ _⟩ (runL_no (.inl (by omega))))

theorem mark_nil (U : Nat → Bool) (x : Nat) : mark U (x, 0) = U := by
  funext j
  simp only [mark]
  have : (decide (x ≤ j) && decide (j < x + 0)) = false := by
    simp only [Bool.and_eq_false_iff, decide_eq_false_iff_not]; omega
  rw [this, Bool.or_false]
theorem mark_step (U : Nat → Bool) (x k : Nat) : (fun j => if j = x + k then true else mark U (x, k) j) = mark U (x, k + 1) := by
  funext j
  simp only [mark]
  by_cases e : j = x + k
  · subst e
    simp
  · rw [if_neg e]
    congr 1
    have : (decide (j < x + (k + 1))) = decide (j < x + k) := decide_eq_decide.2 (by omega)
    rw [this]

set_option maxHeartbeats 1000000 in
set_option maxRecDepth 20000 in
theorem use_any (w : World) (b B : Nat) (x : Nat × Nat) (U V : Nat → Bool) (h : MapAt w b B U V) (hx : x.1 + x.2 ≤ 512) :
    Calls Try.prog 25 #[.pointer (some ⟨b, 0, none⟩), rv x] w fun e w' => (∃ v, e = .returned v) ∧ MapAt w' b B (mark U x) V ∧ w.grownBy w' (some b) := by
  obtain ⟨x, l⟩ := x
  simp only at hx
  unfold rv
  simp only
  have hb := h.lt
  go_enter Try.func25, Try.ntmps25
  go_wp2
  go_loopw [4] (fun i wr => ∃ k : Nat, i = .int .i64 ((x + k : Nat) : Int) ∧ k ≤ l ∧ MapAt wr b B (mark U (x, k)) V ∧ w.grownBy wr (some b) ∧ wr.cell? ⟨w.heap.size, 0, none⟩ = some (.int .i64 (x : Int)) ∧ wr.cell? ⟨w.heap.size, 1, none⟩ = some (.int .i64 (l : Int))) (fun i _ => x + l - (intOf i).toNat)
  case atStart => exact ⟨0, rfl, by omega, by rw [mark_nil]; exact h.alloc _, World.grownBy_alloc _ _ _, by rw [cell_of_row _ _ _ _ _ _ (heap_alloc_new _ _)]; rfl, by rw [cell_of_row _ _ _ _ _ _ (heap_alloc_new _ _)]; rfl⟩
  case round =>
    obtain ⟨k, rfl, hk, hm, hg, c0, c1⟩ := hrel
    obtain ⟨j, hj⟩ : ∃ j, j = x + k := ⟨_, rfl⟩
    rw [← hj]
    have hxi : (x : Int) + (l : Int) ≤ 512 := by omega
    have hj0 : (j : Int) ≤ 512 := by omega
    by_cases hlt : k < l
    · have hlt' : (j : Int) < (x : Int) + (l : Int) := by omega
      have hj5 : (j : Int) < 512 := by omega
      have cU := hm.used (n := j) (by omega)
      have cf := hm.frozen (1 + j)
      have HM : Hid (MapAt (wr.setCell ⟨b, 1 + j, none⟩ (.bool true)) b B (mark U (x, k + 1)) V) := hide (by
        have := hm.set j (by omega) true
        rw [hj, mark_step] at this
        rw [hj]; exact this)
      have hne : b ≠ w.heap.size := by omega
      have HG : Hid (w.grownBy (wr.setCell ⟨b, 1 + j, none⟩ (.bool true)) (some b)) := hide (hg.trans (setCell_grown wr b (1 + j) _))
      have d0 : Hid ((wr.setCell ⟨b, 1 + j, none⟩ (.bool true)).cell? ⟨w.heap.size, 0, none⟩ = some (.int .i64 (x : Int))) := hide (by rw [World.cell?_setCell_other _ _ _ _ (fun e => hne (congrArg Addr.block e))]; exact c0)
      have d1 : Hid ((wr.setCell ⟨b, 1 + j, none⟩ (.bool true)).cell? ⟨w.heap.size, 1, none⟩ = some (.int .i64 (l : Int))) := hide (by rw [World.cell?_setCell_other _ _ _ _ (fun e => hne (congrArg Addr.block e))]; exact c1)
      have HJ := hide hj
      clear hj hm hg h
      go_wp2
      go_roundw
      case rel => exact ⟨k + 1, by rw [unhide HJ]; rfl, by omega, unhide HM, unhide HG, unhide d0, unhide d1⟩
      case measure => simp [intOf]; omega
    · have hlt' : ¬ (j : Int) < (x : Int) + (l : Int) := by omega
      obtain rfl : k = l := by omega
      have HM := hide hm
      have HG := hide hg
      clear hj hm hg h
      go_wp2
      go_end0
      exact ⟨⟨_, rfl⟩, unhide HM, unhide HG⟩
end Go.Proofs.Ytgdplmbchoogiaa

/-
  DERIVED. drop: a run given back.
-/
namespace Go.Proofs.Ytgdplmbchoogiaa
open Go.RowKit
set_option linter.unusedVariables false

def ri (x : Int × Int) : Value := .agg #[.int .i64 x.1, .int .i64 x.2]

theorem grown_drewN {w w' : World} {row : Option Nat} (h : w.grownBy w' row) (n : Nat) : w.grownBy (w'.drewN n) row := ⟨h.os, h.tape, h.output, h.size, h.block⟩
theorem MapAt.drewN {w : World} {b B : Nat} {U V : Nat → Bool} (h : MapAt w b B U V) (n : Nat) : MapAt (w.drewN n) b B U V := ⟨h.blk, h.le⟩

def DropPost (w : World) (b B : Nat) (U V : Nat → Bool) (x : Int × Int) (e : Ending) (w' : World) : Prop :=
  e = .returned (.bool (dropR B U x).isSome) ∧ (∃ U', MapAt w' b B U' V ∧ ∀ U1, dropR B U x = some U1 → U' = U1) ∧ w.grownBy w' (some b)

set_option maxHeartbeats 2000000 in
set_option maxRecDepth 20000 in
theorem drop_any (w : World) (b B : Nat) (x : Int × Int) (U V : Nat → Bool) (h : MapAt w b B U V) (hx1 : -9223372036854775808 ≤ x.1) (hx2 : x.1 ≤ 9223372036854775807) (hl1 : -9223372036854775808 ≤ x.2) (hl2 : x.2 ≤ 9223372036854775807) :
    Calls Try.prog 29 #[.pointer (some ⟨b, 0, none⟩), ri x] w (DropPost w b B U V x) := by
  obtain ⟨x, l⟩ := x
  simp only at hx1 hx2 hl1 hl2
  unfold ri
  simp only
  have hB := h.le
  have hb := h.lt
  have hne : b ≠ w.heap.size := by omega
  have h' := h.alloc (.cells #[.int .i64 x, .int .i64 l] 36)
  have c0 := h'.num
  have hBi : (B : Int) ≤ 512 := by omega
  have hNo : Hid (x < 0 ∨ l < 1 ∨ l > B - x → ∀ w', w.grownBy w' (some b) → MapAt w' b B U V → DropPost w b B U V (x, l) (.returned (.bool false)) w') := hide (fun hq w' hg hm => by
    have e : dropR B U (x, l) = none := by simp only [dropR]; rw [if_pos hq]
    exact ⟨by rw [e]; rfl, ⟨U, hm, fun U1 h1 => by rw [e] at h1; cases h1⟩, hg⟩)
  have HM := hide h'
  have HG : Hid (w.grownBy (w.alloc (.cells #[.int .i64 x, .int .i64 l] 36)) (some b)) := hide (World.grownBy_alloc _ _ _)
  clear h'
  by_cases h1 : x < 0
  · clear h
    have h1' : decide (x < 0) = true := decide_eq_true h1
    go_enter Try.func29, Try.ntmps29
    go_wp2_with fail
    go_quiet (fail)
    go_wp2
    go_ret
    exact unhide hNo (.inl h1) _ (grown_drewN (unhide HG) _) ((unhide HM).drewN _)
  · have h1' : decide (x < 0) = false := decide_eq_false h1
    by_cases h2 : l < 1
    · clear h
      have h2' : decide (l < 1) = true := decide_eq_true h2
      go_enter Try.func29, Try.ntmps29
      go_wp2_with fail
      go_quiet (fail)
      go_wp2
      go_ret
      exact unhide hNo (.inr (.inl h2)) _ (grown_drewN (unhide HG) _) ((unhide HM).drewN _)
    · have h2' : decide (l < 1) = false := decide_eq_false h2
      by_cases h3 : l > B - x
      · clear h
        have h3' : decide ((B : Int) - x < l) = true := decide_eq_true h3
        go_enter Try.func29, Try.ntmps29
        go_wp2_with fail
        go_quiet (fail)
        go_wp2
        go_ret
        exact unhide hNo (.inr (.inr h3)) _ (grown_drewN (unhide HG) _) ((unhide HM).drewN _)
      · have h3' : decide ((B : Int) - x < l) = false := decide_eq_false h3
        have hE : Hid (dropR B U (x, l) = dropGo l.toNat x.toNat U) := hide (by simp only [dropR]; rw [if_neg (by omega)])
        clear hNo
        go_enter Try.func29, Try.ntmps29
        go_wp2_with fail
        go_quiet (fail)
        go_wp2
        go_loopw [5] (fun i wr => ∃ (k : Nat) (Uk : Nat → Bool), i = .int .i64 (x + (k : Int)) ∧ (k : Int) ≤ l ∧ MapAt wr b B Uk V ∧ Hid (dropR B U (x, l) = dropGo (l.toNat - k) (x.toNat + k) Uk) ∧ w.grownBy wr (some b) ∧ wr.cell? ⟨w.heap.size, 0, none⟩ = some (.int .i64 x) ∧ wr.cell? ⟨w.heap.size, 1, none⟩ = some (.int .i64 l)) (fun i _ => (x + l).toNat - (intOf i).toNat)
        case atStart => exact ⟨0, U, by simp, by omega, (unhide HM).drewN _, hide (by rw [unhide hE]; simp), grown_drewN (unhide HG) _, (cell_of_row _ _ 0 _ _ (0, 0) (heap_alloc_new w (.cells #[.int .i64 x, .int .i64 l] 36))).trans rfl, (cell_of_row _ _ 1 _ _ (0, 0) (heap_alloc_new w (.cells #[.int .i64 x, .int .i64 l] 36))).trans rfl⟩
        case round =>
          obtain ⟨k, Uk, rfl, hk, hm, HE, hg, d0, d1⟩ := hrel
          obtain ⟨j, hj⟩ : ∃ j : Nat, (j : Int) = x + k := ⟨(x + k).toNat, by omega⟩
          rw [← hj]
          have hj0 : (j : Int) ≤ 512 := by omega
          have hs512 : x + l ≤ 512 := by omega
          by_cases hlt : (k : Int) < l
          · have hlt' : (j : Int) < x + l := by omega
            have hj5 : (j : Int) < 512 := by omega
            have cU := hm.used (n := j) (by omega)
            have cf := hm.frozen (1 + j)
            have ej : x.toNat + k = j := by omega
            have ek : l.toNat - k = (l.toNat - (k + 1)) + 1 := by omega
            cases hU : Uk j with
            | false =>
              rw [hU] at cU
              have HN : Hid (dropR B U (x, l) = none) := hide (by rw [unhide HE, ek, ej]; simp [dropGo, hU])
              have HM2 := hide hm
              have HG2 := hide hg
              clear hj hm hg h ej ek HE hE
              go_wp2
              go_ret
              exact ⟨by rw [unhide HN]; rfl, ⟨Uk, unhide HM2, fun U1 h1 => by rw [unhide HN] at h1; cases h1⟩, unhide HG2⟩
            | true =>
              rw [hU] at cU
              have HE2 : Hid (dropR B U (x, l) = dropGo (l.toNat - (k + 1)) (x.toNat + (k + 1)) (fun q => if q = j then false else Uk q)) := hide (by
                rw [unhide HE, ek, ej, dropGo, if_pos hU]
                rw [show j + 1 = x.toNat + (k + 1) by omega])
              have HM2 := hide (hm.set j (by omega) false)
              have HG2 : Hid (w.grownBy (wr.setCell ⟨b, 1 + j, none⟩ (.bool false)) (some b)) := hide (hg.trans (setCell_grown wr b (1 + j) _))
              have e0 : Hid ((wr.setCell ⟨b, 1 + j, none⟩ (.bool false)).cell? ⟨w.heap.size, 0, none⟩ = some (.int .i64 x)) := hide (by rw [World.cell?_setCell_other _ _ _ _ (fun e => hne (congrArg Addr.block e))]; exact d0)
              have e1 : Hid ((wr.setCell ⟨b, 1 + j, none⟩ (.bool false)).cell? ⟨w.heap.size, 1, none⟩ = some (.int .i64 l)) := hide (by rw [World.cell?_setCell_other _ _ _ _ (fun e => hne (congrArg Addr.block e))]; exact d1)
              have HJ := hide hj
              clear hj hm hg h ej ek HE hE
              go_wp2
              go_roundw
              case rel => exact ⟨k + 1, _, by have := unhide HJ; congr 1; omega, by omega, unhide HM2, HE2, unhide HG2, unhide e0, unhide e1⟩
              case measure => simp [intOf]; omega
          · have hlt' : ¬ (j : Int) < x + l := by omega
            have HN : Hid (dropR B U (x, l) = some Uk) := hide (by rw [unhide HE, show l.toNat - k = 0 by omega]; rfl)
            have HM2 := hide hm
            have HG2 := hide hg
            clear hj hm hg h HE hE
            go_wp2
            go_ret
            exact ⟨by rw [unhide HN]; rfl, ⟨Uk, unhide HM2, fun U1 h1 => by rw [unhide HN] at h1; cases h1; rfl⟩, unhide HG2⟩
end Go.Proofs.Ytgdplmbchoogiaa

/-
  DERIVED. Give: runs given back.
-/
namespace Go.Proofs.Ytgdplmbchoogiaa
open Go.RowKit
set_option linter.unusedVariables false

def fits (x : Int × Int) : Prop := -9223372036854775808 ≤ x.1 ∧ x.1 ≤ 9223372036854775807 ∧ -9223372036854775808 ≤ x.2 ∧ x.2 ≤ 9223372036854775807

/-- A slice of runs that reads as these. -/
def Rn (w : World) (v : Value) (l : List (Int × Int)) : Prop :=
  ∃ ao cap, v = .slice ao l.length cap ∧ l.length ≤ cap ∧ cap ≤ 9223372036854775807 ∧ (∀ x ∈ l, fits x) ∧
    (l.length ≠ 0 → ∃ b off, ao = some ⟨b, off, none⟩ ∧ b < w.heap.size ∧ ∀ i, (h : i < l.length) → w.cell? ⟨b, off + i * 2, none⟩ = some (.int .i64 l[i].1) ∧ w.cell? ⟨b, off + i * 2 + 1, none⟩ = some (.int .i64 l[i].2))

theorem Rn.kept {w w' : World} {v : Value} {l : List (Int × Int)} (h : Rn w v l) (hg : w.grownBy w' none) : Rn w' v l := by
  obtain ⟨ao, cap, e, h1, h2, h3, h4⟩ := h
  refine ⟨ao, cap, e, h1, h2, h3, fun hl => ?_⟩
  obtain ⟨b, off, e2, hb, hc⟩ := h4 hl
  exact ⟨b, off, e2, by have := hg.size; omega, fun i hi => ⟨hg.cell (hc i hi).1 (by simp), hg.cell (hc i hi).2 (by simp)⟩⟩

def GivePost (w : World) (b B : Nat) (U V : Nat → Bool) (l : List (Int × Int)) (e : Ending) (w' : World) : Prop :=
  ((∃ U', giveL B U l = some U' ∧ e = .returned (.int .i64 0) ∧ MapAt w' b B U' V) ∨ (giveL B U l = none ∧ e = .returned (.int .i64 51) ∧ MapAt w' b B U V)) ∧ w.grownBy w' (some b)

theorem wpList_alloc_map {ops : Array Oper} {rest : List Oper} {o : Oper} {a : Act} {w : World} {Q : Exit → Act → World → Prop} (hgd : o.guard = none)
    (ho : o.op = .alloc 52) (h : wpList Try.prog ops Q rest (a.put o.dst (.pointer (some ⟨w.heap.size, 0, none⟩))) (w.alloc (.cells (mcells 0 none? none?) 52))) : wpList Try.prog ops Q (o :: rest) a w := by
  refine wpList_plain hgd fun K hK => ?_
  unfold Oper.wp execOp
  simp only [ho, Sem.run_bind, Sem.run_pure, run_alloc_map, Result.andThen_ok]
  exact hK _ _ h

theorem mcells_one (B : Nat) (U V : Nat → Bool) : (mcells B U V).all (·.oneCell') = true := by
  refine all_oneCell_toArray fun v hv => ?_
  rcases List.mem_cons.1 hv with rfl | hv
  · rfl
  · rcases List.mem_append.1 hv with hv | hv
    · exact bs_one U v hv
    · exact bs_one V v hv

/-- The copy that is laid. -/
theorem copy_laid (w : World) (B : Nat) (U V : Nat → Bool) (hB : B ≤ 512) : MapAt ((w.alloc (.cells (mcells 0 none? none?) 52)).setRow w.heap.size (mcells B U V)) w.heap.size B U V ∧ w.grownBy ((w.alloc (.cells (mcells 0 none? none?) 52)).setRow w.heap.size (mcells B U V)) none := by
  refine ⟨⟨setRow_heap _ _ _ _ _ _ (heap_alloc_new _ _), hB⟩, ⟨rfl, rfl, rfl, by simp, fun k hk _ => ?_⟩⟩
  rw [setRow_other _ _ _ _ (by omega)]
  exact Below.heap_alloc _ _ _ hk

theorem giveL_step {B : Nat} {U : Nat → Bool} {l : List (Int × Int)} {k : Nat} (hk : k < l.length) : giveL B U (l.drop k) = (match dropR B U l[k] with | none => none | some U' => giveL B U' (l.drop (k + 1))) := by
  rw [List.drop_eq_getElem_cons hk]
  rfl

set_option maxHeartbeats 2000000 in
set_option maxRecDepth 20000 in
theorem Give_any (w : World) (b B : Nat) (v : Value) (l : List (Int × Int)) (U V : Nat → Bool) (h : MapAt w b B U V) (hv : Rn w v l) :
    Calls Try.prog 13 #[.pointer (some ⟨b, 0, none⟩), v] w (GivePost w b B U V l) := by
  have hb := h.lt
  have hne : b ≠ w.heap.size := by omega
  obtain ⟨HM, HG⟩ : Hid (MapAt ((w.alloc (.cells (mcells 0 none? none?) 52)).setRow w.heap.size (mcells B U V)) w.heap.size B U V) ∧ Hid (w.grownBy ((w.alloc (.cells (mcells 0 none? none?) 52)).setRow w.heap.size (mcells B U V)) none) := ⟨hide (copy_laid w B U V h.le).1, hide (copy_laid w B U V h.le).2⟩
  have HBk := hide h.blk
  have HN : Hid ((w.alloc (.cells (mcells 0 none? none?) 52)).heap[w.heap.size]? = some (.cells (mcells 0 none? none?) 52)) := hide (heap_alloc_new _ _)
  have HV := hide hv
  have HMb := hide h
  obtain ⟨ao, cap, rfl, hv1, hv2, hv3, hv4⟩ := hv
  have hlen : (l.length : Int) ≤ 9223372036854775807 := by omega
  clear hv4 h
  obtain ⟨n, hn⟩ : ∃ n, n = l.length := ⟨_, rfl⟩
  rw [← hn] at hv1 hlen HV ⊢
  have HNl := hide hn
  clear hn
  go_enter Try.func13, Try.ntmps13
  go_wp2_with (first | (refine wpList_load_row rfl 52 (.tmp 11) rfl b rfl 52 (mcells B U V) (0, 0) _ (unhide HBk) Try.underlying52 rfl (by rw [mcells_size]; exact infoMap) ?_) | (refine wpList_alloc_map rfl rfl ?_) | (refine wpList_store_row rfl 52 (.tmp 5) (.tmp 12) rfl w.heap.size (mcells B U V) rfl rfl 52 (mcells 0 none? none?) (unhide HN) (by rw [mcells_size]; exact infoMap) (by rw [mcells_size, mcells_size]) (mcells_one B U V) ?_))
  go_loopw [15] (fun i wr => ∃ (k : Nat) (Uk : Nat → Bool), i = .int .i64 (k : Int) ∧ k ≤ n ∧ MapAt wr w.heap.size B Uk V ∧ Hid (giveL B U l = giveL B Uk (l.drop k)) ∧ w.grownBy wr none) (fun i _ => n - (intOf i).toNat)
  case atStart => exact ⟨0, U, rfl, by omega, unhide HM, hide (by simp), unhide HG⟩
  case round =>
    obtain ⟨k, Uk, rfl, hk, hm, HE, hg⟩ := hrel
    by_cases hlt : k < n
    · have hlt' : (k : Int) < (n : Int) := by omega
      have hkl : k < l.length := by rw [← unhide HNl]; exact hlt
      obtain ⟨pb, off, hao, hpb, hc⟩ : ∃ pb off, ao = some ⟨pb, off, none⟩ ∧ pb < wr.heap.size ∧ ∀ i, (h : i < l.length) → wr.cell? ⟨pb, off + i * 2, none⟩ = some (.int .i64 l[i].1) ∧ wr.cell? ⟨pb, off + i * 2 + 1, none⟩ = some (.int .i64 l[i].2) := by
        obtain ⟨ao', cap', e, _, _, _, h4⟩ := (unhide HV).kept hg
        cases e
        exact h4 (by omega)
      subst hao
      obtain ⟨c0, c1⟩ := hc k hkl
      have hfit := hv3 l[k] (List.getElem_mem hkl)
      have HST := hide (giveL_step (B := B) (U := Uk) hkl)
      obtain ⟨x, hx⟩ : ∃ x, x = l[k] := ⟨_, rfl⟩
      rw [← hx] at c0 c1 hfit HST
      have HX := hide hx
      clear hc hx
      obtain ⟨x1, x2⟩ := x
      obtain ⟨f1, f2, f3, f4⟩ := hfit
      simp only at c0 c1 f1 f2 f3 f4
      have HM2 := hide (hm.alloc (.cells #[.int .i64 x1, .int .i64 x2] 36))
      have HG2 : Hid (w.grownBy (wr.alloc (.cells #[.int .i64 x1, .int .i64 x2] 36)) none) := hide (hg.trans (World.grownBy_alloc _ _ _))
      clear hm hg
      go_wp2_with fail
      refine (drop_any (wr.alloc (.cells #[.int .i64 x1, .int .i64 x2] 36)) w.heap.size B (x1, x2) Uk V (unhide HM2) f1 f2 f3 f4).mono ?_
      rintro e w2 ⟨rfl, ⟨U2, hm2, hU2⟩, hg2⟩
      have HM3 := hide hm2
      have HG3 : Hid (w.grownBy w2 none) := hide ((unhide HG2).andThen hg2 (fun j e => by cases e; exact .inl (Nat.le_refl _)))
      clear hm2 hg2 HM2 HG2 HM HG HBk HN
      cases hd : dropR B Uk (x1, x2) with
      | none =>
        have HR : Hid (giveL B U l = none) := hide (by rw [unhide HE, unhide HST, hd])
        clear hU2 HE HST hd
        simp only [Option.isSome_none]
        go_wp2
        go_ret
        exact ⟨.inr ⟨unhide HR, rfl, (unhide HMb).grown (unhide HG3) (by simp)⟩, (unhide HG3).but _⟩
      | some U3 =>
        have HR : Hid (giveL B U l = giveL B U2 (l.drop (k + 1))) := hide (by rw [unhide HE, unhide HST, hd, hU2 U3 hd])
        clear hU2 HE HST hd
        simp only [Option.isSome_some]
        go_wp2
        go_roundw
        case rel => exact ⟨k + 1, U2, rfl, by omega, unhide HM3, HR, unhide HG3⟩
        case measure => simp [intOf]; omega
    · have hlt' : ¬ (k : Int) < (n : Int) := by omega
      have HR : Hid (giveL B U l = some Uk) := hide (by rw [unhide HE, List.drop_eq_nil_of_le (by have := unhide HNl; omega)]; rfl)
      have hmb := (unhide HMb).grown hg (by simp)
      have HRg := hide hm.rangeU
      have HT : Hid (wr.there b 1 (bs Uk).toArray.size) := hide (by simpa [bs_len] using hmb.thereU)
      have HF := hide (hmb.setU Uk)
      have HG2 : Hid (w.grownBy (wr.setCells b 1 (bs Uk)) (some b)) := hide ((hg.but _).trans (setCells_grown b _ _ _))
      clear HM HG HBk HN HV HMb hm hg hmb HE hv3
      go_wp2_with (first | (refine wpList_load_mid rfl 50 (.tmp 24) rfl w.heap.size 1 rfl (bs Uk) _ (unhide HRg) Try.underlying50 rfl (by rw [bs_len]; exact info512) ?_) | (refine wpList_store_mid rfl 50 (.tmp 27) (.tmp 25) rfl b 1 (bs Uk).toArray rfl rfl (unhide HT) (by simpa [bs_len] using info512) (all_oneCell_toArray (bs_one Uk)) ?_))
      go_ret
      exact ⟨.inl ⟨Uk, unhide HR, rfl, unhide HF⟩, unhide HG2⟩
theorem Give_nil (w : World) (v : Value) : Calls Try.prog 13 #[.pointer none, v] w fun e w' => e = .returned (.int .i64 1) ∧ w' = w := by
  go_enter Try.func13, Try.ntmps13
  go_wp2
  go_ret
  exact ⟨rfl, rfl⟩
end Go.Proofs.Ytgdplmbchoogiaa

/-
  DERIVED. All, and the function that it gives: what a range over it goes through.
-/
namespace Go.Proofs.Ytgdplmbchoogiaa
open Go.RowKit Go.Shelf
set_option linter.unusedVariables false
attribute [local go_sem] Oper.semAt_some

theorem All_any (w : World) (p : Option Addr) :
    Calls Try.prog 24 #[.pointer p] w fun e w' => e = .returned (.func (.func 40) #[] #[.pointer (some ⟨w.heap.size, 0, none⟩)]) ∧ w' = w.alloc (.cells #[.pointer p] 24) := by
  go_enter Try.func24, Try.ntmps24
  go_wp2
  go_ret
  exact ⟨rfl, rfl⟩

/-! ### Steps of a fenced walk over many cells -/
section
variable {F : Fence} {n : Nat} {ops : Array Oper} {rest : List Oper} {o : Oper} {a : Act} {w : World} {Q : Exit → Act → World → Prop}
theorem wpListIn_load_map (hgd : o.guard = none) (x : Operand) (ho : o.op = .load 52 x) (b B : Nat) (U V : Nat → Bool) (hx : a.eval x = .pointer (some ⟨b, 0, none⟩)) (hm : MapAt w b B U V)
    (h : wpListIn F n Try.prog ops Q rest (a.put o.dst (.agg (mcells B U V))) w) : wpListIn F n Try.prog ops Q (o :: rest) a w := by
  refine wpListIn_plain hgd fun K hK => ?_
  unfold Oper.wpIn
  refine ⟨?_, ?_⟩
  · simp [Oper.about, ho]
  · rw [Oper.semAt_plain F _ _ (by rw [ho]; intro c hc; cases hc)]
    unfold execOp
    simp only [ho, hx, Instr.loadAt, Instr.sureAddr, Sem.run_bind, Sem.run_pure, Result.andThen_ok, run_loadVar_row w b 52 52 (mcells B U V) (0, 0) _ hm.blk Try.underlying52 rfl (by rw [mcells_size]; exact infoMap)]
    exact hK _ _ h
theorem wpListIn_alloc_map (hgd : o.guard = none) (ho : o.op = .alloc 52) (h : wpListIn F n Try.prog ops Q rest (a.put o.dst (.pointer (some ⟨w.heap.size, 0, none⟩))) (w.alloc (.cells (mcells 0 none? none?) 52))) : wpListIn F n Try.prog ops Q (o :: rest) a w := by
  refine wpListIn_plain hgd fun K hK => ?_
  unfold Oper.wpIn
  refine ⟨?_, ?_⟩
  · simp [Oper.about, ho]
  · rw [Oper.semAt_plain F _ _ (by rw [ho]; intro c hc; cases hc)]
    unfold execOp
    simp only [ho, Sem.run_bind, Sem.run_pure, run_alloc_map, Result.andThen_ok]
    exact hK _ _ h
theorem wpListIn_store_map (hgd : o.guard = none) (x y : Operand) (ho : o.op = .store 52 x y) (g B : Nat) (U V : Nat → Bool) (old : Array Value) (hx : a.eval x = .pointer (some ⟨g, 0, none⟩)) (hy : a.eval y = .agg (mcells B U V)) (hg : w.heap[g]? = some (.cells old 52 (0, 0))) (hs : old.size = 1025)
    (h : wpListIn F n Try.prog ops Q rest (a.put o.dst undef) (w.setRow g (mcells B U V))) : wpListIn F n Try.prog ops Q (o :: rest) a w := by
  refine wpListIn_plain hgd fun K hK => ?_
  unfold Oper.wpIn
  refine ⟨?_, ?_⟩
  · simp [Oper.about, ho]
  · rw [Oper.semAt_plain F _ _ (by rw [ho]; intro c hc; cases hc)]
    unfold execOp
    simp only [ho, hx, hy, Instr.storeAt, Instr.sureAddr, Sem.run_bind, Sem.run_pure, Result.andThen_ok, run_storeVar_row w g 52 52 old (mcells B U V) hg (by rw [mcells_size]; exact infoMap) (by rw [mcells_size, hs]) (mcells_one B U V)]
    exact hK _ _ h
end

/-! ### What a round keeps -/
/-- The row of the slice that a variable holds. -/
def arr (tb : Nat) (W : World) (j : Nat) : Prop := ∃ len cap, W.cell? ⟨tb, 0, none⟩ = some (.slice (some ⟨j, 0, none⟩) len cap)
structure Kp (w0 tb : Nat) (W W' : World) : Prop where
  size : W.heap.size ≤ W'.heap.size
  keep : ∀ j C t fr, w0 ≤ j → W.heap[j]? = some (.cells C t fr) → ¬ arr tb W j → W'.heap[j]? = W.heap[j]?
  arrs : ∀ j, arr tb W' j → arr tb W j ∨ (W.heap.size ≤ j ∧ j < W'.heap.size)
theorem Kp.refl (w0 tb : Nat) (W : World) : Kp w0 tb W W := ⟨Nat.le_refl _, fun _ _ _ _ _ _ _ => rfl, fun _ h => .inl h⟩
theorem Kp.trans {w0 tb : Nat} {A B C : World} (h : Kp w0 tb A B) (k : Kp w0 tb B C) : Kp w0 tb A C := by
  refine ⟨Nat.le_trans h.size k.size, fun j D t fr hj hc ha => ?_, fun j ha => ?_⟩
  · have h1 := h.keep j D t fr hj hc ha
    refine (k.keep j D t fr hj (h1.trans hc) fun hb => ?_).trans h1
    rcases h.arrs j hb with h2 | h2
    · exact ha h2
    · have := lt_of_block hc; omega
  · have s1 := h.size
    have s2 := k.size
    rcases k.arrs j ha with h1 | h1
    · rcases h.arrs j h1 with h2 | h2
      · exact .inl h2
      · exact .inr ⟨h2.1, by omega⟩
    · exact .inr ⟨by omega, h1.2⟩
theorem arr_of_cell {tb : Nat} {W W' : World} {j : Nat} (h : W'.cell? ⟨tb, 0, none⟩ = W.cell? ⟨tb, 0, none⟩) : arr tb W' j ↔ arr tb W j := by simp only [arr, h]
theorem Kp.of_grown {w0 tb : Nat} {W W' : World} (h : W.grownBy W' none) (htb : tb < W.heap.size) : Kp w0 tb W W' :=
  ⟨h.size, fun j _ _ _ _ hc _ => h.block j (lt_of_block hc) (by simp), fun j ha => .inl ((arr_of_cell (World.cell?_of_block (h.block tb htb (by simp)))).1 ha)⟩
theorem Kp.book {w0 tb : Nat} {w : World} (htb : tb < w.heap.size) (W : World) (l : Nat) (o o' : Obj) (hl : w.heap.size ≤ l) (h : W.heap[l]? = some o) (hc : o.isCells = false) (hw : o.isWalk = false) : Kp w0 tb W (W.putObj l o') := by
  have hg := grownBy_putObj' W l o'
  refine ⟨hg.size, fun j C t fr _ hj _ => hg.block j (lt_of_block hj) (fun e => ?_), fun j ha => .inl ((arr_of_cell (World.cell?_of_block ?_)).1 ha)⟩
  · cases e
    rw [hj] at h
    cases h
    cases hc
  · exact World.putObj_heap_other (show tb ≠ l by omega)

theorem runsF_pre {f : Nat → Bool} {B n : Nat} {xs pre : List (Nat × Nat)} (h : xs = pre ++ runsF f (B - n) n) (hn : n < B) :
    (0 < runL f (B - n) n → xs = (pre ++ [(n, runL f (B - n) n)]) ++ runsF f (B - (n + runL f (B - n) n + 1)) (n + runL f (B - n) n + 1)) ∧ (runL f (B - n) n = 0 → xs = pre ++ runsF f (B - (n + 1)) (n + 1)) := by
  constructor
  · intro h0
    rw [h, runsF_run f (B - n) n h0, List.append_assoc, show B - n - (runL f (B - n) n + 1) = B - (n + runL f (B - n) n + 1) by omega]
    rfl
  · intro h0
    have e : B - n = (B - (n + 1)) + 1 := by omega
    rw [h]
    rw [e] at h0 ⊢
    rw [runsF_none f _ n h0]

set_option maxHeartbeats 2000000 in
set_option maxRecDepth 100000 in
theorem AllIt_in (n l b B Bx tb w0 : Nat) (U V : Nat → Bool) (J Jx : List (Nat × Nat) → World → Prop) (W : World)
    (hY : ∀ pre x W1, J pre W1 → pre.length < (runsOf B U V).length → YieldAt Fence.wide (n - 1) Try.prog l #[rv (cl x)] W1 fun e W' =>
      (e = .returned (.bool true) ∧ J (pre ++ [x]) W' ∧ Kp w0 tb W1 W') ∨ (e = .returned (.bool false) ∧ Jx (pre ++ [x]) W'))
    (hJ : ∀ s A A', J s A → A.grownBy A' none → J s A')
    (hBx : W.cell? ⟨Bx, 0, none⟩ = some (.pointer (some ⟨b, 0, none⟩))) (hm : MapAt W b B U V) (htb : tb < w0) (hw0 : w0 ≤ W.heap.size) (harr : ∀ j, ¬ arr tb W j) (h0 : J [] W) :
    CallsIn Fence.wide n Try.prog 40 #[.func (.yield l) #[] #[], .pointer (some ⟨Bx, 0, none⟩)] W fun e W' => (∃ v, e = .returned v) ∧
      ((∃ ys, ys = runsOf B U V ∧ J ys W') ∨ (∃ pre, pre <+: runsOf B U V ∧ Jx pre W')) := by
  have hB := hm.le
  refine callsIn_of_wp Try.func40 rfl trivial ?_ rfl
  simp only [Try.ntmps40, List.size_toArray, List.length_cons, List.length_nil, Nat.reduceAdd, Nat.reduceSub, Array.replicate_succ, Array.replicate_zero, List.push_toArray, List.append_toArray, List.nil_append, List.cons_append]
  have HM := hide hm
  have HC := hide (copy_laid W B U V hm.le)
  have HN : Hid ((W.alloc (.cells (mcells 0 none? none?) 52)).heap[W.heap.size]? = some (.cells (mcells 0 none? none?) 52)) := hide (heap_alloc_new _ _)
  have HA : Hid (∀ j, ¬ arr tb ((W.alloc (.cells (mcells 0 none? none?) 52)).setRow W.heap.size (mcells B U V)) j) := hide (fun j h => harr j ((arr_of_cell (World.cell?_of_block ((unhide HC).2.block tb (by omega) (by simp)))).1 h))
  have HJ0 := hide (hJ [] _ _ h0 (unhide HC).2)
  have HY := hide hY
  have HJ := hide hJ
  clear hm h0 hY hJ harr
  gi_wp2_with (first | (refine wpListIn_load_map rfl (.tmp 9) rfl b B U V rfl (unhide HM) ?_) | (refine wpListIn_alloc_map rfl rfl ?_) | (refine wpListIn_store_map rfl (.tmp 3) (.tmp 10) rfl W.heap.size B U V _ rfl rfl (unhide HN) (mcells_size _ _ _) ?_))
  gi_loopw [4] (fun i wr => ∃ (m : Nat) (pre : List (Nat × Nat)), i = .int .i64 (m : Int) ∧ m ≤ B + 1 ∧ Hid (runsOf B U V = pre ++ runsF (may U V) (B - m) m) ∧ Hid (J pre wr) ∧ MapAt wr W.heap.size B U V ∧ Hid (∀ j, arr tb wr j → j < wr.heap.size ∧ j ≠ W.heap.size)) (fun i _ => B + 1 - (intOf i).toNat)
  case atStart => exact ⟨0, [], rfl, by omega, hide rfl, HJ0, (unhide HC).1, hide (fun j h => absurd h (unhide HA j))⟩
  case round =>
    obtain ⟨m, pre, rfl, hmB, HX, HJs, hmT, HAr⟩ := hrel
    have c0 := hmT.num
    clear HC HN HA HJ0 HM hBx
    by_cases hlt : m < B
    · have hlt' : (m : Int) < (B : Int) := by omega
      have hm5 : (m : Int) ≤ 512 := by omega
      have HP := hide (runsF_pre (unhide HX) hlt)
      obtain ⟨L, hL⟩ : ∃ L, L = runL (may U V) (B - m) m := ⟨_, rfl⟩
      rw [← hL] at HP
      have hLle : L ≤ B - m := by rw [hL]; exact runL_le _ _ _
      have HT := hide hmT
      have HL := hide hL
      clear hmT hL HX
      gi_wp2_with fail
      refine ⟨trivial, (fun h => by cases h), (callsIn_wide.2 (runAt_any wr W.heap.size B m U V (unhide HT) (by omega))).mono ?_⟩
      rintro e w2 ⟨rfl, hg2⟩
      rw [← unhide HL]
      unfold rv
      simp only
      have hgz : wr.grownBy (w2.alloc (.cells #[.int .i64 (m : Int), .int .i64 (L : Int)] 36)) none := hg2.trans (World.grownBy_alloc _ _ _)
      have HT2 := hide ((unhide HT).grown hgz (by simp))
      have HJ2 := hide (unhide HJ pre _ _ (unhide HJs) hgz)
      have HAr2 : Hid (∀ j, arr tb (w2.alloc (.cells #[.int .i64 (m : Int), .int .i64 (L : Int)] 36)) j → j < w2.heap.size ∧ j ≠ W.heap.size) := hide (fun j h => by
        have hlt2 : tb < wr.heap.size := by have := (unhide HT).lt; omega
        have := unhide HAr j ((arr_of_cell (World.cell?_of_block (hgz.block tb hlt2 (by simp)))).1 h)
        have := hg2.size
        omega)
      have hTlt : W.heap.size < w2.heap.size := by have := (unhide HT).lt; have := hg2.size; omega
      have HRb : Hid ((w2.alloc (.cells #[.int .i64 (m : Int), .int .i64 (L : Int)] 36)).heap[w2.heap.size]? = some (.cells #[.int .i64 (m : Int), .int .i64 (L : Int)] 36)) := hide (heap_alloc_new _ _)
      clear hg2 hgz HJs HAr HT HL c0
      by_cases hL0 : 0 < L
      · have hL0' : (0 : Int) < (L : Int) := by omega
        have HX2 := hide ((unhide HP).1 hL0)
        obtain ⟨fn, tmps, assign, body, hy, hR⟩ := unhide HY pre (m, L) _ (unhide HJ2) (by rw [unhide HX2]; simp)
        rw [cl_id (x := (m, L)) (by simp only; omega) (by simp only; omega)] at hy
        unfold rv at hy
        simp only at hy
        clear HP HY
        gi_wp2
        refine ⟨(fun h => by cases h), hR.mono ?_⟩
        rintro e W3 (⟨rfl, hJ3, hk3⟩ | ⟨rfl, hJx3⟩)
        · have hRt : ¬ arr tb (w2.alloc (.cells #[.int .i64 (m : Int), .int .i64 (L : Int)] 36)) w2.heap.size := fun h => by have := unhide HAr2 _ h; omega
          have hTt : ¬ arr tb (w2.alloc (.cells #[.int .i64 (m : Int), .int .i64 (L : Int)] 36)) W.heap.size := fun h => by have := unhide HAr2 _ h; omega
          have hr3 := (hk3.keep w2.heap.size _ _ _ (by omega) (unhide HRb) hRt).trans (unhide HRb)
          have d1 : W3.cell? ⟨w2.heap.size, 1, none⟩ = some (.int .i64 (L : Int)) := by rw [cell_of_row _ _ _ _ _ _ hr3]; rfl
          have HT3 : Hid (MapAt W3 W.heap.size B U V) := hide ((unhide HT2).of (hk3.keep W.heap.size _ _ _ (by omega) (unhide HT2).blk hTt))
          have HAr3 : Hid (∀ j, arr tb W3 j → j < W3.heap.size ∧ j ≠ W.heap.size) := hide (fun j h => by
            have hs := hk3.size
            simp at hs
            rcases hk3.arrs j h with h1 | h1
            · have := unhide HAr2 j h1
              omega
            · simp at h1
              omega)
          have HJ3 := hide hJ3
          clear hJ3 hk3 hr3 hR hy HAr2 HT2 HJ2 HRb
          gi_wp2
          go_roundw
          case rel => exact ⟨m + L + 1, pre ++ [(m, L)], by congr 1, by omega, HX2, HJ3, unhide HT3, HAr3⟩
          case measure => simp [intOf]; omega
        · have HX3 := hide hJx3
          clear hR hy HAr2 HT2 HJ2 HRb hJx3
          gi_wp2
          refine bodyPost_ret (results_none rfl _ _ _) rfl ?_
          exact ⟨⟨_, rfl⟩, .inr ⟨pre ++ [(m, L)], ⟨_, (unhide HX2).symm⟩, unhide HX3⟩⟩
      · have hL0' : ¬ (0 : Int) < (L : Int) := by omega
        obtain rfl : L = 0 := by omega
        have HX2 := hide ((unhide HP).2 rfl)
        clear HP HY
        gi_wp2
        refine ⟨fun _ h => (by cases h), ?_⟩
        gi_wp2
        go_roundw
        case rel => exact ⟨m + 1, pre, rfl, by omega, HX2, HJ2, unhide HT2, hide (fun j h => by have := unhide HAr2 j h; simp; omega)⟩
        case measure => simp [intOf]; omega
    · have hlt' : ¬ (m : Int) < (B : Int) := by omega
      have HX2 : Hid (runsOf B U V = pre) := hide (by rw [unhide HX, show B - m = 0 by omega]; simp [runsF])
      clear HX HAr hmT
      gi_wp2
      go_end0
      exact ⟨⟨_, rfl⟩, .inl (by rw [unhide HX2]; exact unhide HJs)⟩

theorem AllIt_stops (n b B Bx tb w0 : Nat) (U V : Nat → Bool) (w : World) (hBx : w.cell? ⟨Bx, 0, none⟩ = some (.pointer (some ⟨b, 0, none⟩))) (hBl : Bx < w.heap.size) (hm : MapAt w b B U V) (htb : tb < w0) (hw0 : w0 ≤ w.heap.size) (harr : ∀ j, ¬ arr tb w j) :
    SeqStopsK Fence.wide n Try.prog 40 #[.pointer (some ⟨Bx, 0, none⟩)] (fun x : Nat × Nat => #[rv (cl x)]) (Kp w0 tb) (fun ys => ys = runsOf B U V) (fun pre => pre <+: runsOf B U V) (runsOf B U V).length w := fun l J Jx W hW hJ _ hY h0 =>
  AllIt_in n l b B Bx tb w0 U V J Jx W hY (fun s A A' h hg => hJ s A A' none h hg (fun r e => by cases e)) ((hW.cell (p := ⟨Bx, 0, none⟩) hBl).trans hBx) (hm.below hW hm.lt) htb (by have := hW.size; omega) (fun j h => harr j ((arr_of_cell (hW.cell (p := ⟨tb, 0, none⟩) (show tb < w.heap.size by omega))).1 h)) h0

set_option maxHeartbeats 1000000 in
theorem AllIt_nil (n Bx : Nat) (Kp : World → World → Prop) (w : World) (hBx : w.cell? ⟨Bx, 0, none⟩ = some (.pointer none)) (hBl : Bx < w.heap.size) :
    SeqStopsK Fence.wide n Try.prog 40 #[.pointer (some ⟨Bx, 0, none⟩)] (fun x : Nat × Nat => #[rv (cl x)]) Kp (fun ys => ys = []) (fun pre => pre <+: []) 0 w := fun l J Jx W hW _ _ _ h0 => by
  have hc : W.cell? ⟨Bx, 0, none⟩ = some (.pointer none) := (hW.cell (p := ⟨Bx, 0, none⟩) hBl).trans hBx
  have HJ := hide h0
  clear h0
  refine callsIn_of_wp Try.func40 rfl trivial ?_ rfl
  simp only [Try.ntmps40, List.size_toArray, List.length_cons, List.length_nil, Nat.reduceAdd, Nat.reduceSub, Array.replicate_succ, Array.replicate_zero, List.push_toArray, List.append_toArray, List.nil_append, List.cons_append]
  gi_wp2
  refine bodyPost_ret (results_none rfl _ _ _) rfl ?_
  exact ⟨⟨_, rfl⟩, .inl (unhide HJ)⟩
end Go.Proofs.Ytgdplmbchoogiaa

/-
  DERIVED. A range over a function whose body writes its own loop variable (which lies in a box): what a round keeps is said from the call of yield to its return, not within the body alone.
-/
namespace Go.Proofs.Ytgdplmbchoogiaa
open Go.RowKit Go.Shelf
set_option linter.unusedVariables false

/-- How a round may be left: W0 is where yield was called, W where the body began. -/
def roundLeft {α : Type} (B : Nat) (Kr : World → World → Prop) (I : List α → World → Prop) (Ix : Code → List α → World → Prop) (xs : List α) (W0 W : World) : Exit → Act → World → Prop
  | .normal, _, X => (KeepsFrom B W X ∧ Kr W0 X) ∧ I xs X
  | .ret, _, X => KeepsFrom B W X ∧ Ix .ret xs X
  | .exit i, _, X => KeepsFrom B W X ∧ Ix (.exit i) xs X
  | .goto t, _, X => KeepsFrom B W X ∧ Ix (.goto t) xs X
  | .panic _, _, _ => False
  | .outgrown, _, _ => False

section
variable {n : Nat} {α : Type} {g : Operand} {ps : Array Tmp} {assign body : Code} {Q : Exit → Act → World → Prop} {a : Act} {w : World}

theorem range_boxed {gf : Nat} {lb : Array Value} (hg : a.eval g = .func (.func gf) #[] lb) (eg : ∀ args w, (callFunc gf args).run Try.prog w = .ok (.enter gf args) w)
    {encs : α → Array Value} {Kr : World → World → Prop} {S Sp : List α → Prop} {N : Nat} (hseq : SeqStopsK Fence.wide (n - 1) Try.prog gf lb encs Kr S Sp N w) (hps : ∀ x, (encs x).size = ps.size)
    (I : List α → World → Prop) (Ix : Code → List α → World → Prop) (Ax : α → World → Act → World → Prop)
    (hI : OwnFrom w.heap.size I) (hIx : ∀ c, OwnFrom w.heap.size (Ix c)) (hAx : ∀ x W0 a', OwnFrom w.heap.size (fun (_ : Unit) W => Ax x W0 a' W))
    (hKr : ∀ (W0 W : World) (l : Nat) (o o' : Obj), w.heap.size ≤ l → W.heap[l]? = some o → o.isCells = false → Kr W0 W → Kr W0 (W.putObj l o'))
    (h0 : I [] w)
    (hassign : ∀ (l : Nat) (pre : List α) (x : α) (W : World) (K : Act → World → Prop), I pre W → (∀ a' X, KeepsFrom w.heap.size W X → I pre X → Ax x W a' X → K a' X) →
      assign.wpIn (Fence.wide.inRound l) (n - 1 - 1) Try.prog (Exit.then K (fun _ _ _ => False)) { tmps := (ps.zip (encs x)).foldl (fun t (p, v) => t.setIfInBounds p v) a.tmps, defers := [] } W)
    (hbody : ∀ (l : Nat) (pre : List α) (x : α) (W0 : World) (a' : Act) (W : World), I pre W → Ax x W0 a' W → pre.length < N → body.wpIn (Fence.wide.inRound l) (n - 1 - 1) Try.prog (roundLeft w.heap.size Kr I Ix (pre ++ [x]) W0 W) a' W)
    (hdone : ∀ (D : Nat) (xs : List α) (W : World), w.heap.size ≤ D → S xs → I xs W → W.heap[D]? = some (.deferred (some [])) → Q .normal { a with defers := { target := .collected D, args := #[] } :: a.defers } W)
    (hstop : ∀ (D : Nat) (c : Code) (pre : List α) (W : World), w.heap.size ≤ D → Sp pre → Ix c pre W → W.heap[D]? = some (.deferred (some [])) → c.wpIn Fence.wide n Try.prog Q { a with defers := { target := .collected D, args := #[] } :: a.defers } W) :
    (Code.rangeFunc g ps assign body).wpIn Fence.wide n Try.prog Q a w := by
  refine wpIn_rangeFunc fun fn hfn => ?_
  -- the loop's record, by its state and the jump that waits
  let R : LoopState → Option Code → Loop := fun st j => { state := st, pending := j, fn := fn, tmps := a.tmps, params := ps, assign := assign, body := body, defers := w.heap.size }
  let D := w.heap.size
  let l := w.heap.size + 1
  obtain ⟨X, hX⟩ : ∃ X, X = (w.alloc (.deferred (some []))).alloc (.loop (R .ready none)) := ⟨_, rfl⟩
  have xl : X.heap[l]? = some (.loop (R .ready none)) := by
    rw [hX]
    have := World.alloc_heap_new (w.alloc (.deferred (some []))) (.loop (R .ready none))
    rwa [World.size_alloc] at this
  have xd : X.heap[D]? = some (.deferred (some [])) := by
    rw [hX]
    exact (Below.heap_alloc _ _ _ (by simp [D])).trans (World.alloc_heap_new w _)
  have xi : I [] X := by rw [hX]; exact hI.alloc _ (hI.alloc _ h0)
  have xb : Below w.heap.size w X := by rw [hX]; exact ((Below.refl _ w).alloc (Nat.le_refl _) _).alloc (by simp) _
  have xs : X.heap.size = w.heap.size + 2 := by rw [hX]; simp
  -- the two blocks of the loop's own stand where what is no cells stands
  have other : ∀ {A A' : World} {row : Option Nat}, A.grownBy A' row → (∀ r, row = some r → X.heap.size ≤ r ∧ ∃ o : Obj, A.heap[r]? = some o ∧ o.isWalk = true) → ∀ {k : Nat} {o : Obj}, k < X.heap.size → A.heap[k]? = some o → A'.heap[k]? = some o :=
    @fun A A' row hgr hr k o hk ho => (hgr.block k (Array.getElem?_eq_some_iff.1 ho).1 (fun e => by have := (hr k e.symm).1; omega)).trans ho
  have walks : ∀ {A : World} {row : Option Nat}, (∀ r, row = some r → X.heap.size ≤ r ∧ ∃ o : Obj, A.heap[r]? = some o ∧ o.isWalk = true) → ∀ r, row = some r → w.heap.size ≤ r ∧ ∃ o : Obj, A.heap[r]? = some o ∧ o.isCells = false :=
    fun hr r e => by
      obtain ⟨h1, o, h2, h3⟩ := hr r e
      exact ⟨by omega, o, h2, Obj.not_cells_of_walk h3⟩
  refine ⟨l, [{ target := .collected D, args := #[] }], X, { target := .fn (.func gf) lb, args := #[.func (.yield l) #[] #[]] }, X, gf, #[.func (.yield l) #[] #[]] ++ lb, X, ?_, ?_, fun _ _ => trivial, ?_, (fun h => by cases h), ?_⟩
  · rw [hX]
    exact run_enterLoop_outer fn a.tmps ps assign body
  · simp only [resolve, hg]
    simp [go_sem]
  · simp [invoke, go_sem, eg]
  · have hround : ∀ (pre : List α) (x : α) (W : World), (I pre W ∧ W.heap[l]? = some (.loop (R .ready none)) ∧ W.heap[D]? = some (.deferred (some []))) → pre.length < N →
        YieldAt Fence.wide (n - 1 - 1) Try.prog l (encs x) W fun e Z =>
          (e = .returned (.bool true) ∧ (I (pre ++ [x]) Z ∧ Z.heap[l]? = some (.loop (R .ready none)) ∧ Z.heap[D]? = some (.deferred (some []))) ∧ Kr W Z) ∨
          (e = .returned (.bool false) ∧ ∃ c, Ix c (pre ++ [x]) Z ∧ Z.heap[l]? = some (.loop (R .done (some c))) ∧ Z.heap[D]? = some (.deferred (some []))) := by
      rintro pre x W ⟨hi, hl, hd⟩ hlen
      refine ⟨fn, _, assign, body, run_yield (P := Try.prog) (args := encs x) hl (hps x), roundIn_of_wpIn hfn (hassign l pre x W _ hi fun a' Y ky iy ay => ?_)⟩
      have yl := ky.same l _ (by simp [l]) hl rfl
      have yd := ky.same D _ (Nat.le_refl _) hd rfl
      have hlt : l < Y.heap.size := (Array.getElem?_eq_some_iff.1 yl).1
      refine ⟨_, run_beginRound yl rfl, ?_⟩
      obtain ⟨Z, hZ⟩ : ∃ Z, Z = Y.putObj l (.loop { R .ready none with state := .busy }) := ⟨_, rfl⟩
      have zl : Z.heap[l]? = some (.loop { R .ready none with state := .busy }) := by rw [hZ]; exact World.putObj_heap_same hlt
      have zd : Z.heap[D]? = some (.deferred (some [])) := by rw [hZ]; exact (World.putObj_heap_other (show D ≠ l by simp [D, l])).trans yd
      have zi : I pre Z := by rw [hZ]; exact hI.putObj _ iy (by simp [l]) yl rfl
      have za : Ax x W a' Z := by rw [hZ]; exact (hAx x W a').putObj (s := ()) _ ay (by simp [l]) yl rfl
      rw [← hZ]
      refine wpIn_mono (hbody l pre x W a' Z zi za hlen) fun e a3 T hT => ?_
      -- a round that goes on, and one that does not
      have goes : KeepsFrom w.heap.size Z T → ∀ j, (Instr.endRound l j).run Try.prog T = .ok (.bool j.isNone) (T.putObj l (.loop (R (if j.isNone then .ready else .done) j))) ∧ T.heap[l]? = some (.loop { R .ready none with state := .busy }) ∧
          (T.putObj l (.loop (R (if j.isNone then .ready else .done) j))).heap[l]? = some (.loop (R (if j.isNone then .ready else .done) j)) ∧ (T.putObj l (.loop (R (if j.isNone then .ready else .done) j))).heap[D]? = some (.deferred (some [])) := fun kt j => by
        have tl := kt.same l _ (by simp [l]) zl rfl
        have td := kt.same D _ (Nat.le_refl _) zd rfl
        exact ⟨run_endRound (P := Try.prog) j tl, tl, World.putObj_heap_same (Array.getElem?_eq_some_iff.1 tl).1, (World.putObj_heap_other (show D ≠ l by simp [D, l])).trans td⟩
      have leaves : ∀ c, KeepsFrom w.heap.size Z T → Ix c (pre ++ [x]) T → ∃ v Z', (Instr.endRound l (some c)).run Try.prog T = .ok v Z' ∧ ((Ending.returned v = .returned (.bool true) ∧ (I (pre ++ [x]) Z' ∧ Z'.heap[l]? = some (.loop (R .ready none)) ∧ Z'.heap[D]? = some (.deferred (some []))) ∧ Kr W Z') ∨
          (Ending.returned v = .returned (.bool false) ∧ ∃ c, Ix c (pre ++ [x]) Z' ∧ Z'.heap[l]? = some (.loop (R .done (some c))) ∧ Z'.heap[D]? = some (.deferred (some [])))) := fun c kt ix => by
        obtain ⟨r1, r2, r3, r4⟩ := goes kt (some c)
        exact ⟨_, _, r1, .inr ⟨rfl, c, (hIx c).putObj _ ix (by simp [l]) r2 rfl, r3, r4⟩⟩
      cases e with
      | normal =>
        obtain ⟨⟨kt, kr⟩, it⟩ := hT
        obtain ⟨r1, r2, r3, r4⟩ := goes kt none
        exact ⟨_, _, r1, .inl ⟨rfl, ⟨hI.putObj _ it (by simp [l]) r2 rfl, r3, r4⟩, hKr W T l _ _ (by simp [l]) r2 rfl kr⟩⟩
      | ret => exact leaves _ hT.1 hT.2
      | exit i => exact leaves _ hT.1 hT.2
      | goto t => exact leaves _ hT.1 hT.2
      | panic c => exact hT.elim
      | outgrown => exact hT.elim
    refine (hseq l (fun pre W => I pre W ∧ W.heap[l]? = some (.loop (R .ready none)) ∧ W.heap[D]? = some (.deferred (some []))) (fun pre W => ∃ c, Ix c pre W ∧ W.heap[l]? = some (.loop (R .done (some c))) ∧ W.heap[D]? = some (.deferred (some []))) X xb ?_ ?_ hround ⟨xi, xl, xd⟩).mono ?_
    · rintro s A A' row ⟨h1, h2, h3⟩ hgr hr
      exact ⟨hI s A A' row h1 hgr (walks hr), other hgr hr (by rw [xs]; simp [l]) h2, other hgr hr (by rw [xs]; simp [D]) h3⟩
    · rintro s A A' row ⟨c, h1, h2, h3⟩ hgr hr
      exact ⟨c, hIx c s A A' row h1 hgr (walks hr), other hgr hr (by rw [xs]; simp [l]) h2, other hgr hr (by rw [xs]; simp [D]) h3⟩
    · rintro e Z ⟨⟨v, rfl⟩, (⟨ys, hS, h1, h2, h3⟩ | ⟨pre, hS, c, h1, h2, h3⟩)⟩
      · exact ⟨none, _, run_endLoop (P := Try.prog) h2 (by simp [R]), hdone D ys _ (Nat.le_refl _) hS (hI.putObj _ h1 (by simp [l]) h2 rfl) ((World.putObj_heap_other (show D ≠ l by simp [D, l])).trans h3)⟩
      · exact ⟨some c, _, run_endLoop (P := Try.prog) h2 (by simp [R]), hstop D c pre _ (Nat.le_refl _) hS ((hIx c).putObj _ h1 (by simp [l]) h2 rfl) ((World.putObj_heap_other (show D ≠ l by simp [D, l])).trans h3)⟩
end
end Go.Proofs.Ytgdplmbchoogiaa

/-
  DERIVED. Free: how many blocks may be taken.
-/
namespace Go.Proofs.Ytgdplmbchoogiaa
open Go.RowKit Go.Shelf
set_option linter.unusedVariables false
attribute [local go_sem] Oper.semAt_some

theorem total_cl_le (pre : List (Nat × Nat)) : total (pre.map cl) ≤ 512 * pre.length := by
  induction pre with
  | nil => simp [total]
  | cons x xs ih => rw [List.map_cons, total_cons]; have := cl_in x; simp; omega
theorem runs_len (B : Nat) (U V : Nat → Bool) (hB : B ≤ 512) : (runsOf B U V).length ≤ 512 :=
  Nat.le_trans (length_le_total (fun x hx => (runsOf_in hB x hx).1)) (Nat.le_trans (runsOf_total B U V) hB)

/-- A run's box. -/
def RBox (W : World) (Bx : Nat) (x : Nat × Nat) : Prop := W.heap[Bx]? = some (.cells #[.int .i64 (x.1 : Int), .int .i64 (x.2 : Int)] 36 (0, 0))
theorem RBox.lt {W : World} {Bx : Nat} {x : Nat × Nat} (h : RBox W Bx x) : Bx < W.heap.size := lt_of_block h
theorem RBox.c0 {W : World} {Bx : Nat} {x : Nat × Nat} (h : RBox W Bx x) : W.cell? ⟨Bx, 0, none⟩ = some (.int .i64 (x.1 : Int)) := by rw [cell_of_row _ _ _ _ _ _ h]; rfl
theorem RBox.c1 {W : World} {Bx : Nat} {x : Nat × Nat} (h : RBox W Bx x) : W.cell? ⟨Bx, 1, none⟩ = some (.int .i64 (x.2 : Int)) := by rw [cell_of_row _ _ _ _ _ _ h]; rfl
theorem RBox.frozen {W : World} {Bx : Nat} {x : Nat × Nat} (h : RBox W Bx x) (i : Nat) : W.frozen? ⟨Bx, i, none⟩ = false := by simp [World.frozen?, show W.heap[Bx]? = _ from h]
theorem RBox.own (B Bx : Nat) (x : Nat × Nat) : OwnFrom B (fun (_ : Unit) W => RBox W Bx x) := fun _ X Y row hs hg hr => (hg.block Bx hs.lt (fun e => by
  obtain ⟨_, o, ho, hc⟩ := hr Bx e.symm
  rw [show X.heap[Bx]? = _ from hs] at ho
  cases ho
  cases hc)).trans hs

theorem no_arr_int {tb : Nat} {W : World} {j : Nat} {n : Int} (h : W.cell? ⟨tb, 0, none⟩ = some (.int .i64 n)) : ¬ arr tb W j := by
  rintro ⟨len, cap, e⟩
  rw [h] at e
  cases e
/-- A number stored in a box ahead of the loop. -/
theorem Kp.setInt {w0 tb : Nat} {W : World} (htb : tb < w0) (c : Nat) (hc : c < w0) (v : Value) (ha : ∀ j, ¬ arr tb (W.setCell ⟨c, 0, none⟩ v) j) : Kp w0 tb W (W.setCell ⟨c, 0, none⟩ v) :=
  ⟨by simp, fun j _ _ _ hj _ _ => Below.heap_setCell W ⟨c, 0, none⟩ v j (show j ≠ c by omega), fun j h => absurd h (ha j)⟩

set_option maxRecDepth 100000 in
set_option maxHeartbeats 2000000 in
theorem Free_any (w : World) (b B : Nat) (U V : Nat → Bool) (h : MapAt w b B U V) :
    Calls Try.prog 22 #[.pointer (some ⟨b, 0, none⟩)] w fun e w' => e = .returned (.int .i64 (total (runsOf B U V) : Int)) ∧ w.grownBy w' none := by
  refine (callsIn_wide (n := 3)).1 ?_
  refine callsIn_of_wp_marks Try.func22 rfl trivial ?_ rfl
  simp only [Try.ntmps22, List.size_toArray, List.length_cons, List.length_nil, Nat.reduceAdd, Nat.reduceSub, Array.replicate_succ, Array.replicate_zero, List.push_toArray, List.append_toArray, List.nil_append, List.cons_append]
  have HM := hide h
  have hB := h.le
  clear h
  gi_wp2_with fail
  refine ⟨trivial, (callsIn_wide.2 (All_any _ _)).mono ?_⟩
  rintro e w' ⟨rfl, rfl⟩
  gi_wp2
  have bO := Boxed.new w 3 (.int .i64 0)
  have bN := Boxed.new (w.alloc (.cells #[.int .i64 0] 3)) 24 (.pointer (some ⟨b, 0, none⟩))
  rw [World.size_alloc] at bN
  obtain ⟨Wl, hWl⟩ : ∃ Wl, Wl = (w.alloc (.cells #[.int .i64 0] 3)).alloc (.cells #[.pointer (some ⟨b, 0, none⟩)] 24) := ⟨_, rfl⟩
  have hB0 : Below w.heap.size w Wl := by rw [hWl]; exact ((Below.refl _ w).alloc (Nat.le_refl _) _).alloc (by simp) _
  have hsz : Wl.heap.size = w.heap.size + 2 := by rw [hWl]; simp
  have bO' : Boxed Wl w.heap.size 3 (.int .i64 0) := by rw [hWl]; exact bO.alloc _
  have hm' : MapAt Wl b B U V := (unhide HM).below hB0 (unhide HM).lt
  rw [← hWl] at bN ⊢
  clear hWl bO
  refine wpIn_rangeFunc_ownH rfl (by omega) (gf := 40) (lb := #[.pointer (some ⟨w.heap.size + 1, 0, none⟩)]) rfl trivial (enters_of Try.func40 (by kernel_rfl) rfl)
    (AllIt_stops 2 b B (w.heap.size + 1) w.heap.size (w.heap.size + 1) U V Wl bN.cell bN.lt hm' (by omega) (by omega) (fun j => no_arr_int bO'.cell)) Kp.trans (Kp.book (by omega)) (Below.refl _ _) (fun _ => rfl)
    (fun pre W => Boxed W w.heap.size 3 (.int .i64 (total (pre.map cl) : Int)) ∧ Below w.heap.size w W)
    (fun _ _ _ => False)
    (OwnFrom.and (Own.from (boxed_own w.heap.size 3 (fun pre : List (Nat × Nat) => .int .i64 (total (pre.map cl) : Int))) _) (ownFrom_below (Nat.le_refl _) (by omega)))
    (fun _ _ _ _ _ hs _ _ => hs)
    ⟨bO', hB0⟩
    (fun x a' W => ∃ Bx, RBox W Bx (cl x) ∧ a' = { tmps := #[.pointer (some ⟨b, 0, none⟩), undef, .int .i64 0, .pointer (some ⟨w.heap.size, 0, none⟩), .pointer (some ⟨Bx, 0, none⟩), .pointer (some ⟨b, 0, none⟩), .func (.func 40) #[] #[.pointer (some ⟨w.heap.size + 1, 0, none⟩)], rv (cl x), undef, undef, undef, undef, undef], defers := [] })
    (fun x a' s A A' row hs hg hr => by
      obtain ⟨Bx, h2, h3⟩ := hs
      exact ⟨Bx, RBox.own _ Bx _ () A A' row h2 hg hr, h3⟩)
    ?assign ?body ?done ?stop
  case assign =>
    rintro l pre x W K ⟨hb1, hb2⟩ hK
    have HK := hide hK
    have hx := cl_in x
    obtain ⟨y, hy⟩ : ∃ y, y = cl x := ⟨_, rfl⟩
    rw [← hy] at hx HK ⊢
    obtain ⟨y1, y2⟩ := y
    unfold rv at HK ⊢
    simp only at hx HK ⊢
    clear hy hK
    gi_wp2
    exact unhide HK _ _ ((KeepsOthers.alloc _ _).from _) (Kp.of_grown (World.grownBy_alloc _ _ _) hb1.lt) ⟨hb1.alloc _, hb2.alloc hb2.size _⟩ ⟨W.heap.size, heap_alloc_new _ _, rfl⟩
  case body =>
    rintro l pre x a' W hl hr ⟨hb1, hb2⟩ ⟨Bx, hbx, rfl⟩ hlt
    have hlen := runs_len B U V hB
    have htot := total_cl_le pre
    have hx := cl_in x
    have HT : Hid (total ((pre ++ [x]).map cl) = total (pre.map cl) + (cl x).2) := hide (by rw [List.map_append, total_append]; simp [total])
    obtain ⟨y, hy⟩ : ∃ y, y = cl x := ⟨_, rfl⟩
    rw [← hy] at hx hbx HT ⊢
    clear hy
    obtain ⟨t, ht⟩ : ∃ t, t = total (pre.map cl) := ⟨_, rfl⟩
    rw [← ht] at hb1 HT htot
    clear ht
    have c := hb1.cell
    have c1 := hbx.c1
    have cf := hb1.frozen
    have h1 : (t : Int) ≤ 262144 := by omega
    have h2 : (y.2 : Int) ≤ 512 := by omega
    have hy0 : (0 : Int) ≤ y.2 := by omega
    gi_wp2
    refine ⟨(KeepsOthers.setCell _ _ _).from _, Kp.setInt (by omega) w.heap.size (by omega) _ (fun j => no_arr_int (hb1.set _).cell), ?_, hb2.setCell (p := ⟨w.heap.size, 0, none⟩) (Nat.le_refl _) _⟩
    rw [unhide HT]
    push_cast
    exact hb1.set _
  case done =>
    rintro D ys W hD rfl ⟨hb1, hb2⟩ hK
    rw [cl_map (runsOf_in hB)] at hb1
    have c := hb1.cell
    gi_wp2
    refine ⟨by simp, .inl ⟨_, _, rfl, run_takeDeferred hK, ?_⟩⟩
    exact ⟨_, results_tmp rfl _ _ _, rfl, grown_of_below (hb2.trans (belowK_b (w := w) (Nat.le_refl _) W D _ _ (by omega) hK rfl rfl))⟩
  case stop =>
    rintro D c pre W _ _ h _
    exact h.elim
end Go.Proofs.Ytgdplmbchoogiaa

/-
  DERIVED. A run appended to a slice of runs, inside a round: where the new slice lies.
-/
namespace Go.Proofs.Ytgdplmbchoogiaa
open Go.RowKit Go.Shelf
set_option linter.unusedVariables false

theorem Try.infoRun3 : (Try.prog.info? 36).map (fun i => (i.zero, i.size, i.bytes)) = some (some (.agg #[.int .i64 0, .int .i64 0]), 2, 16) := by kernel_rfl

/-- The cells of runs. -/
def rcells (xs : List (Nat × Nat)) : List Value := xs.flatMap fun x => [.int .i64 (x.1 : Int), .int .i64 (x.2 : Int)]
theorem rcells_snoc (xs : List (Nat × Nat)) (x : Nat × Nat) : rcells (xs ++ [x]) = rcells xs ++ [.int .i64 (x.1 : Int), .int .i64 (x.2 : Int)] := by simp [rcells]

/-- A slice of runs of one's own. -/
def ROwn (w : World) (base : Nat) (v : Value) (xs : List (Nat × Nat)) : Prop := w.ownsRow base 36 2 v xs.length (rcells xs)

theorem run_append_run (w : World) (base : Nat) (ty : TypeId) (v : Value) (xs : List (Nat × Nat)) (hown : ROwn w base v xs) (hb : base ≤ w.heap.size) (hl : xs.length ≤ 512) (ad : Addr) (c : Nat) (x : Nat × Nat)
    (hc : ∀ j u, ([.int .i64 (x.1 : Int), .int .i64 (x.2 : Int)] : List Value)[j]? = some u → w.cell? (ad.add j) = some u) :
    ∃ v' w', (Builtin.append_ #[28, 28] ty #[v, .slice (some ad) 1 c]).run Try.prog w = .ok v' w' ∧ ROwn w' base v' (xs ++ [x]) ∧ w.grownBy w' v.ownBlock ∧ (v'.ownBlock = v.ownBlock ∨ ∃ g, v'.ownBlock = some g ∧ w.heap.size ≤ g) := by
  obtain ⟨i0, hi, hz0, hz1, hz2⟩ := info_parts Try.infoRun3
  have h1c : ∀ u ∈ ([.int .i64 (x.1 : Int), .int .i64 (x.2 : Int)] : List Value), u.oneCell' = true := by
    intro u hu
    rcases List.mem_cons.1 hu with rfl | hu
    · rfl
    · rcases List.mem_cons.1 hu with rfl | hu
      · rfl
      · cases hu
  have fin : ∀ {w' : World} {v' : Value} {b2 : Nat}, base ≤ b2 → w'.ownsRow b2 36 2 v' (xs.length + 1) (rcells xs ++ [.int .i64 (x.1 : Int), .int .i64 (x.2 : Int)]) → ROwn w' base v' (xs ++ [x]) := fun {w' v' b2} hb2 h => by
    unfold ROwn
    rw [rcells_snoc, List.length_append]
    obtain ⟨h1, h2⟩ := h
    refine ⟨h1, ?_⟩
    rcases h2 with h2 | ⟨g, cap, cur, a1, a2, a3⟩
    · exact .inl h2
    · exact .inr ⟨g, cap, cur, a1, by omega, a3⟩
  have hown0 := hown
  have hm : xs.length + 1 ≤ maxLen := by unfold maxLen; omega
  rcases hown.2 with ⟨rfl, h0⟩ | ⟨g, cap, cur, rfl, hbg, hg, hn, hcm, hsz, ht⟩
  · have hx0 : xs = [] := List.eq_nil_of_length_eq_zero h0
    subst hx0
    obtain ⟨v', w', hr, r1, r2, _⟩ := run_append_own (P := Try.prog) w w.heap.size 28 ty 36 i0 (.agg #[.int .i64 0, .int .i64 0]) 2 16 Try.underlying28 hi hz0 hz1 hz2 rfl (by decide) (.slice none 0 0) 0 [] (World.ownsRow_nil w _ _ _) ad 1 c _ rfl hc h1c (by unfold maxLen; omega) (by omega) (Nat.le_refl _)
    refine ⟨v', w', hr, fin hb (by simpa [rcells] using r1), r2, .inr ?_⟩
    obtain ⟨g, cap, rfl⟩ := ownsRow_succ (k := 0) (by simpa using r1)
    refine ⟨g, rfl, ?_⟩
    rcases r1.2 with ⟨e, _⟩ | ⟨g', cap', cur, e, hb', _⟩
    · cases e
    · cases e; exact hb'
  · by_cases hfit : xs.length + 1 ≤ cap
    · obtain ⟨w', hr, r1, r2⟩ := run_append_fits (P := Try.prog) w base 28 ty 36 i0 2 Try.underlying28 hi hz1 g xs.length cap (rcells xs) hown0 ad 1 c _ rfl hc h1c hfit
      exact ⟨_, w', hr, fin (Nat.le_refl _) r1, r2, .inl rfl⟩
    · have hlo : (rcells xs).length = xs.length * 2 := hown.1
      obtain ⟨v', w', hr, r1, r2⟩ := run_append_arg_grows (P := Try.prog) w 28 ty 36 i0 (.agg #[.int .i64 0, .int .i64 0]) 2 16 Try.underlying28 hi hz0 hz1 hz2 rfl (by decide) ⟨g, 0, none⟩ xs.length cap (rcells xs) hlo (fun j u hj => by
        have hjl : j < (rcells xs).length := (List.getElem?_eq_some_iff.1 hj).1
        rw [addr_add, cell_of_row _ _ _ _ _ _ hg]
        have e : (cur.toList.take (xs.length * 2))[j]? = (rcells xs)[j]? := by rw [ht]
        rw [List.getElem?_take_of_lt (by omega)] at e
        rw [Nat.zero_add, ← hj, ← e]
        simp) ad 1 c _ rfl hc (by omega) hm (by omega)
      refine ⟨v', w', hr, fin hb (by simpa using r1), r2.but _, .inr ?_⟩
      obtain ⟨g', cap', rfl⟩ := ownsRow_succ (k := xs.length) (by simpa using r1)
      refine ⟨g', rfl, ?_⟩
      rcases r1.2 with ⟨e, _⟩ | ⟨g'', cap'', cur', e, hb', _⟩
      · cases e
      · cases e; exact hb'

theorem wpListIn_append_run {F : Fence} {n : Nat} {ops : Array Oper} {rest : List Oper} {o : Oper} {a : Act} {w : World} {Q : Exit → Act → World → Prop} (hgd : o.guard = none) (s x : Operand)
    (hop : o.op = Op.call { callee := Callee.builtin Builtin.append, args := #[s, x], argTypes := #[28, 28] }) (base : Nat) (v : Value) (xs : List (Nat × Nat)) (hs : a.eval s = v) (hown : ROwn w base v xs) (hb : base ≤ w.heap.size) (hl : xs.length ≤ 512) (ad : Addr) (c : Nat) (y : Nat × Nat)
    (hx : a.eval x = .slice (some ad) 1 c) (hc : ∀ j u, ([.int .i64 (y.1 : Int), .int .i64 (y.2 : Int)] : List Value)[j]? = some u → w.cell? (ad.add j) = some u)
    (hK : ∀ v' w', ROwn w' base v' (xs ++ [y]) → w.grownBy w' v.ownBlock → (v'.ownBlock = v.ownBlock ∨ ∃ g, v'.ownBlock = some g ∧ w.heap.size ≤ g) → wpListIn F n Try.prog ops Q rest (a.put o.dst v') w') :
    wpListIn F n Try.prog ops Q (o :: rest) a w := by
  refine wpListIn_plain hgd fun K hK' => ?_
  obtain ⟨v', w', hrun, r1, r2, r3⟩ := run_append_run w base o.type v xs hown hb hl ad c y hc
  unfold Oper.wpIn
  refine ⟨?_, ?_⟩
  · simp [Oper.about, hop, resolve, Target.leads, Sem.run_pure]
  · rw [Oper.semAt_plain F _ _ (by rw [hop]; intro c hc'; cases hc')]
    simp [execOp, hop, resolve, invoke, builtin, hs, hx, hrun, Result.andThen]
    exact hK' _ _ (hK v' w' r1 r2 r3)

/-! ### Where Take stands in its loop -/
/-- b: the map; mb, nb, tb: the boxes of m, n, taken; w: where Take began. -/
structure TSt (w : World) (b B n mb nb tb : Nat) (U V : Nat → Bool) (xs : List (Nat × Nat)) (W : World) : Prop where
  map : MapAt W b B (marks U (cut n xs)) V
  num : Boxed W nb 3 (.int .i64 ((n - total xs : Nat) : Int))
  ptr : Boxed W mb 24 (.pointer (some ⟨b, 0, none⟩))
  got : ∃ v, Boxed W tb 28 v ∧ ROwn W w.heap.size v (cut n xs)
  grown : w.grownBy W (some b)
  size : tb < W.heap.size

theorem ROwn.kept {W W' : World} {base : Nat} {v : Value} {xs : List (Nat × Nat)} {row : Option Nat} (h : ROwn W base v xs) (hg : W.grownBy W' row) (hne : ∀ q, v.ownBlock = some q → some q ≠ row) : ROwn W' base v xs := by
  obtain ⟨h1, h2⟩ := h
  refine ⟨h1, ?_⟩
  rcases h2 with h2 | ⟨g, cap, cur, rfl, hb, hgb, r⟩
  · exact .inl h2
  · exact .inr ⟨g, cap, cur, rfl, hb, (hg.block g (lt_of_block hgb) (hne g rfl)).trans hgb, r⟩
theorem ROwn.row {W : World} {base : Nat} {v : Value} {xs : List (Nat × Nat)} (h : ROwn W base v xs) {q : Nat} (hq : v.ownBlock = some q) : base ≤ q ∧ ∃ cur, W.heap[q]? = some (.cells cur 36 (0, 0)) := by
  rcases h.2 with ⟨rfl, _⟩ | ⟨g, cap, cur, rfl, hb, hg, r⟩
  · cases hq
  · cases hq; exact ⟨hb, cur, hg⟩
/-- Another block, by its type. -/
theorem ROwn.ne {W : World} {base : Nat} {v : Value} {xs : List (Nat × Nat)} (h : ROwn W base v xs) {q j : Nat} {C : Array Value} {t : TypeId} {fr : Nat × Nat} (hq : v.ownBlock = some q) (hj : W.heap[j]? = some (.cells C t fr)) (ht : t ≠ 36) : q ≠ j := by
  rintro rfl
  obtain ⟨_, cur, hc⟩ := h.row hq
  rw [hc] at hj
  cases hj
  exact ht rfl

theorem TSt.own (w : World) (b B n mb nb tb : Nat) (U V : Nat → Bool) (N : Nat) (hN : w.heap.size ≤ N) : OwnFrom N (fun pre : List (Nat × Nat) => TSt w b B n mb nb tb U V (pre.map cl)) := fun s X Y row h hg hr => by
  have cells : ∀ {j : Nat} {C : Array Value} {t : TypeId} {fr : Nat × Nat}, X.heap[j]? = some (.cells C t fr) → Y.heap[j]? = X.heap[j]? := @fun j C t fr hj => hg.block j (lt_of_block hj) (fun e => by
    obtain ⟨_, o, ho, hc⟩ := hr j e.symm
    rw [hj] at ho
    cases ho
    cases hc)
  obtain ⟨v, hv1, hv2⟩ := h.got
  refine ⟨h.map.of (cells h.map.blk), (cells h.num).trans h.num, (cells h.ptr).trans h.ptr, ⟨v, (cells hv1).trans hv1, hv2.kept hg fun q hq e => ?_⟩, h.grown.andThen hg (fun j e => .inl (by have := (hr j e).1; omega)), Nat.lt_of_lt_of_le h.size hg.size⟩
  obtain ⟨_, cur, hc⟩ := hv2.row hq
  obtain ⟨_, o, ho, hcc⟩ := hr q e.symm
  rw [hc] at ho
  cases ho
  cases hcc
end Go.Proofs.Ytgdplmbchoogiaa
