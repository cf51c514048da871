/-
  DERIVED. The plain mathematics: numbers in groups of seven bits, the checksum. Nothing of the program.
-/
import Derived.Test.YtkgepklmhdjjnaaGreatDoorProg
import Derived.WalkKit
import Derived.ProofKit
import Derived.ArgAppend
import Derived.Laws.AppendOwnNone
import Derived.Laws.BytesString
import Derived.Laws.IdiomStrings
import Derived.Laws.BytesArg
import Derived.WalkLawsBesides
import Derived.KernelRfl
import Derived.Lib.ItoaNum
import Derived.Lib.AtoiAll
import Derived.Lib.Join
import Derived.Deep.RegionWith
import Derived.Shelf.Small.Strs
import Derived.Shelf.LaysM
import Derived.Shelf.Strconv.Itoa3
import Derived.Shelf.Strconv.Clone
import Derived.Shelf.LaysC
import Derived.Shelf.Strconv.AtoiAll
import Derived.Shelf.Strings.Search2
import Derived.Deep.RegionLaw
import Derived.Laws.MakeOwn
import Derived.Deep.Cut
import Derived.Deep.CutRange
import Derived.Laws.Cover1
import Derived.Sort.Walk0
namespace Go.Proofs.YtkgepklmhdjjnaaGreatDoor

/-! ### A number in groups of seven bits -/

def layF : Nat → Nat → List UInt8
  | 0, n => [UInt8.ofNat n]
  | f + 1, n => if n < 128 then [UInt8.ofNat n] else UInt8.ofNat (128 + n % 128) :: layF f (n / 128)

/-- The bytes of a number: P1.1. -/
def lay (n : Nat) : List UInt8 := layF 9 n

theorem layF_enough : ∀ (f g n : Nat), n < 128 ^ (f + 1) → n < 128 ^ (g + 1) → layF f n = layF g n
  | 0, 0, n, _, _ => rfl
  | 0, g + 1, n, h, _ => by simp only [layF]; rw [if_pos (by omega)]
  | f + 1, 0, n, _, h => by simp only [layF]; rw [if_pos (by omega)]
  | f + 1, g + 1, n, hf, hg => by
    simp only [layF]
    by_cases h : n < 128
    · rw [if_pos h, if_pos h]
    · rw [if_neg h, if_neg h, layF_enough f g (n / 128) (by rw [Nat.pow_succ] at hf; omega) (by rw [Nat.pow_succ] at hg; omega)]

theorem lay_small {n : Nat} (h : n < 128) : lay n = [UInt8.ofNat n] := by simp [lay, layF, h]
theorem lay_big {n : Nat} (h : 128 ≤ n) (h2 : n < 18446744073709551616) : lay n = UInt8.ofNat (128 + n % 128) :: lay (n / 128) := by
  show layF 9 n = _ :: layF 9 (n / 128)
  rw [layF_enough 9 8 (n / 128) (by omega) (by omega)]
  simp only [layF]
  rw [if_neg (by omega)]

theorem layF_len : ∀ (f n : Nat), 1 ≤ (layF f n).length ∧ (layF f n).length ≤ f + 1
  | 0, n => by simp [layF]
  | f + 1, n => by
    simp only [layF]
    split
    · simp
    · have := layF_len f (n / 128); simp; omega
theorem lay_len (n : Nat) : 1 ≤ (lay n).length ∧ (lay n).length ≤ 10 := layF_len 9 n
/-- What Uint reads, from its i-th byte on: the number, how many bytes, the error: P1.1. -/
def rdGo : Nat → Nat → List UInt8 → Nat × Nat × Nat
  | i, _, [] => if i < 10 then (0, 0, 10) else (0, 0, 11)
  | i, acc, c :: r =>
    if 10 ≤ i then (0, 0, 11)
    else if 128 ≤ c.toNat then rdGo (i + 1) (acc + c.toNat % 128 * 2 ^ (7 * i)) r
    else if (0 < i ∧ c.toNat = 0) ∨ (i = 9 ∧ 1 < c.toNat) then (0, 0, 11)
    else (acc + c.toNat * 2 ^ (7 * i), i + 1, 0)
def rd (l : List UInt8) : Nat × Nat × Nat := rdGo 0 0 l

/-- The number that an integer is laid as: P1.2. -/
def zig (n : Int) : Nat := if n < 0 then (-2 * n - 1).toNat else (2 * n).toNat


/-! ### The checksum -/
/-- One step on a register. -/
def stp (r : Nat) : Nat := if r % 2 = 1 then (r / 2) ^^^ 2197175160 else r / 2
def stp8 (r : Nat) : Nat := stp (stp (stp (stp (stp (stp (stp (stp r)))))))
def rAt : Nat → Nat
  | 0 => 2197175160
  | j + 1 => stp (rAt j)
def tabA : Nat → List Nat
  | 0 => List.replicate 256 0
  | j + 1 => (tabA j).set (128 / 2 ^ j) (rAt j)
def lowb (i : Nat) : Nat := i &&& (256 - i)
def tabB : Nat → List Nat
  | 0 => tabA 8
  | k + 1 => (tabB k).set (k + 1) ((tabB k).getD (lowb (k + 1)) 0 ^^^ (tabB k).getD ((k + 1) ^^^ lowb (k + 1)) 0)
def crcTab : List Nat := tabB 255
theorem crcTab_eq : crcTab = (List.range 256).map stp8 := by decide +kernel
def crcR (r : Nat) (l : List UInt8) : Nat := l.foldl (fun r c => (r / 256) ^^^ crcTab.getD ((r % 256) ^^^ c.toNat) 0) r
/-- CRC-32C: P1.4. -/
def crc (l : List UInt8) : Nat := crcR 4294967295 l ^^^ 4294967295

theorem tabA_len : ∀ j, (tabA j).length = 256
  | 0 => List.length_replicate
  | j + 1 => by simp [tabA, tabA_len j]
theorem tabB_len : ∀ j, (tabB j).length = 256
  | 0 => tabA_len 8
  | j + 1 => by simp [tabB, tabB_len j]

theorem xor_lt32 {a b : Nat} (ha : a < 4294967296) (hb : b < 4294967296) : a ^^^ b < 4294967296 := Nat.xor_lt_two_pow (n := 32) ha hb
theorem stp_lt {r : Nat} (h : r < 4294967296) : stp r < 4294967296 := by
  unfold stp; split
  · exact xor_lt32 (by omega) (by omega)
  · omega
theorem rAt_lt : ∀ j, rAt j < 4294967296
  | 0 => by decide
  | j + 1 => stp_lt (rAt_lt j)
theorem set_lt {l : List Nat} {i x : Nat} (h : ∀ k, l.getD k 0 < 4294967296) (hx : x < 4294967296) : ∀ k, (l.set i x).getD k 0 < 4294967296 := by
  intro k
  have hk := h k
  simp only [List.getD_eq_getElem?_getD, List.getElem?_set] at hk ⊢
  split
  · split
    · simpa using hx
    · simp
  · exact hk
theorem tabA_lt : ∀ j k, (tabA j).getD k 0 < 4294967296
  | 0 => by
    intro k
    show (List.replicate 256 0).getD k 0 < _
    rw [List.getD_eq_getElem?_getD, List.getElem?_replicate]
    split <;> simp
  | j + 1 => set_lt (tabA_lt j) (rAt_lt j)
theorem tabB_lt : ∀ j k, (tabB j).getD k 0 < 4294967296
  | 0 => tabA_lt 8
  | j + 1 => set_lt (tabB_lt j) (xor_lt32 (tabB_lt j _) (tabB_lt j _))
theorem crcTab_lt (k : Nat) : crcTab.getD k 0 < 4294967296 := tabB_lt 255 k
theorem crcR_lt : ∀ (l : List UInt8) (r : Nat), r < 4294967296 → crcR r l < 4294967296
  | [], r, h => h
  | c :: l, r, h => crcR_lt l _ (xor_lt32 (by omega) (crcTab_lt _))
theorem crc_lt (l : List UInt8) : crc l < 4294967296 := xor_lt32 (crcR_lt l _ (by decide)) (by decide)
theorem crc_123 : crc [49, 50, 51, 52, 53, 54, 55, 56, 57] = 3808858755 := by decide +kernel

/-! ### Four bytes, texts, frames -/
def le4 (n : Nat) : List UInt8 := [UInt8.ofNat n, UInt8.ofNat (n / 256), UInt8.ofNat (n / 65536), UInt8.ofNat (n / 16777216)]
def rd4 : List UInt8 → Nat
  | a :: b :: c :: d :: _ => a.toNat + 256 * b.toNat + 65536 * c.toNat + 16777216 * d.toNat
  | _ => 0
/-- The error of a piece: a number, and so many bytes. -/
def pcE (l : List UInt8) (most : Int) : Nat :=
  if (rd l).2.2 ≠ 0 then (rd l).2.2 else if most < 0 ∨ most < (rd l).1 then 12 else if l.length - (rd l).2.1 < (rd l).1 then 10 else 0
def pcK (l : List UInt8) (most : Int) : Nat := if pcE l most = 0 then (rd l).2.1 + (rd l).1 else 0
def pcD (l : List UInt8) (most : Int) : List UInt8 := if pcE l most = 0 then (l.drop (rd l).2.1).take (rd l).1 else []

theorem rdGo_facts : ∀ (l : List UInt8) (i acc : Nat), i ≤ 10 → acc < 2 ^ (7 * i) →
    (rdGo i acc l).1 < 18446744073709551616 ∧ ((rdGo i acc l).2.2 = 0 ∨ (rdGo i acc l).2.2 = 10 ∨ (rdGo i acc l).2.2 = 11) ∧ ((rdGo i acc l).2.2 ≠ 0 → (rdGo i acc l).1 = 0 ∧ (rdGo i acc l).2.1 = 0) ∧ ((rdGo i acc l).2.2 = 0 → i + 1 ≤ (rdGo i acc l).2.1 ∧ (rdGo i acc l).2.1 ≤ i + l.length ∧ (rdGo i acc l).2.1 ≤ 10)
  | [], i, acc, hi, ha => by
    rw [rdGo]; split <;> simp
  | c :: r, i, acc, hi, ha => by
    have hc := c.toNat_lt
    rw [rdGo]
    split
    · simp
    · split
      · have hm : c.toNat % 128 < 128 := Nat.mod_lt _ (by decide)
        have e : 2 ^ (7 * (i + 1)) = 128 * 2 ^ (7 * i) := by rw [Nat.mul_add, Nat.pow_add]; omega
        have h2 : c.toNat % 128 * 2 ^ (7 * i) ≤ 127 * 2 ^ (7 * i) := Nat.mul_le_mul_right _ (by omega)
        obtain ⟨a, b, d, f⟩ := rdGo_facts r (i + 1) (acc + c.toNat % 128 * 2 ^ (7 * i)) (by omega) (by omega)
        refine ⟨a, b, d, fun h => ?_⟩
        have := f h
        simp only [List.length_cons]
        omega
      · split
        · simp
        · rename_i h1 h2 h3
          have hp : 2 ^ (7 * i) ≤ 2 ^ 63 := Nat.pow_le_pow_right (by decide) (by omega)
          have hb : acc + c.toNat * 2 ^ (7 * i) < 18446744073709551616 := by
            by_cases h9 : i = 9
            · have : c.toNat * 2 ^ (7 * i) ≤ 1 * 2 ^ 63 := Nat.mul_le_mul (by omega) hp
              omega
            · have hp : 2 ^ (7 * i) ≤ 2 ^ 56 := Nat.pow_le_pow_right (by decide) (by omega)
              have : c.toNat * 2 ^ (7 * i) ≤ 127 * 2 ^ 56 := Nat.mul_le_mul (by omega) hp
              omega
          refine ⟨hb, by simp, by simp, fun _ => ?_⟩
          simp only [List.length_cons]
          omega
theorem rd_facts (l : List UInt8) : (rd l).1 < 18446744073709551616 ∧ ((rd l).2.2 = 0 ∨ (rd l).2.2 = 10 ∨ (rd l).2.2 = 11) ∧ ((rd l).2.2 ≠ 0 → (rd l).1 = 0 ∧ (rd l).2.1 = 0) ∧ ((rd l).2.2 = 0 → 1 ≤ (rd l).2.1 ∧ (rd l).2.1 ≤ l.length ∧ (rd l).2.1 ≤ 10) := by
  have := rdGo_facts l 0 0 (by omega) (by decide)
  simpa [rd] using this

/-- What Frame reads: the error; how many bytes; the kind; the data: P1.5. -/
def frE (l : List UInt8) : Nat :=
  if l.length < 5 then 10 else if pcE (l.drop 5) 2000 ≠ 0 then pcE (l.drop 5) 2000
  else if rd4 l ≠ crc ((l.drop 4).take (1 + pcK (l.drop 5) 2000)) then 11 else 0
def frK (l : List UInt8) : Nat := if frE l = 0 then 5 + pcK (l.drop 5) 2000 else 0
def frKind (l : List UInt8) : UInt8 := if frE l = 0 then l.getD 4 0 else 0
def frD (l : List UInt8) : List UInt8 := if frE l = 0 then pcD (l.drop 5) 2000 else []
/-- A frame's bytes: P1.5. -/
def frBody (kind : UInt8) (d : List UInt8) : List UInt8 := kind :: lay d.length ++ d
def frLay (kind : UInt8) (d : List UInt8) : List UInt8 := le4 (crc (frBody kind d)) ++ frBody kind d

/-- The integer that a number stands for: P1.2. -/
def unz (n : Nat) : Int := if n % 2 = 1 then -(n / 2 : Nat) - 1 else (n / 2 : Nat)
def rdI (l : List UInt8) : Int := if (rd l).2.2 = 0 then unz (rd l).1 else 0
end Go.Proofs.YtkgepklmhdjjnaaGreatDoor

/-
  DERIVED. Words shared by all walks of this seat: bytes as cells, slices that are read, slices that are grown.
-/
namespace Go.Proofs.YtkgepklmhdjjnaaGreatDoor
open Go.RowKit

theorem hide {p : Prop} (h : p) : Hid p := h
theorem unhide {p : Prop} (h : Hid p) : p := h.out

/-- A byte as a cell. -/
abbrev bv (c : UInt8) : Value := .int .u8 (c.toNat : Int)

/-- A slice value that reads as these bytes. (Where it has no room nothing is known of its address.) -/
def Sl (w : World) (v : Value) (l : List UInt8) : Prop :=
  ∃ ao cap, v = .slice ao l.length cap ∧ l.length ≤ cap ∧ cap ≤ maxLen ∧
    (cap ≠ 0 → ∃ b off, ao = some ⟨b, off, none⟩ ∧ b < w.heap.size ∧ ∀ i, (h : i < l.length) → w.cell? ⟨b, off + i, none⟩ = some (bv l[i]))

theorem Tryz.info5 : (Tryz.prog.info? 5).map (fun i => (i.zero, i.size, i.bytes)) = some (some (.int .u8 0), 1, 1) := by kernel_rfl

/-- A slice that a call made for itself. -/
def Own (w : World) (base : Nat) (v : Value) (l : List UInt8) : Prop := w.ownsRow base 5 1 v l.length (l.map bv)

/-- A slice to which can be appended without a write to what was there below 'base'. -/
def Room (w : World) (base : Nat) (v : Value) (l : List UInt8) : Prop :=
  Own w base v l ∨ (Sl w v l ∧ ∃ ao, v = .slice ao l.length l.length)

theorem bv_one (l : List UInt8) : ∀ u ∈ l.map bv, u.oneCell' = true := by
  intro u hu; obtain ⟨c, _, rfl⟩ := List.mem_map.1 hu; rfl

theorem Own.mono {w : World} {base b2 : Nat} {v : Value} {l : List UInt8} (h : Own w base v l) (hb : b2 ≤ base) : Own w b2 v l := by
  obtain ⟨h1, h2⟩ := h
  refine ⟨h1, ?_⟩
  rcases h2 with h | ⟨g, cap, cur, a, b, c⟩
  · exact .inl h
  · exact .inr ⟨g, cap, cur, a, by omega, c⟩

theorem Own.sl {w : World} {base : Nat} {v : Value} {l : List UInt8} (h : Own w base v l) : Sl w v l := by
  obtain ⟨h1, h2⟩ := h
  rcases h2 with ⟨rfl, h⟩ | ⟨g, cap, cur, rfl, hb, hg, hn, hm, hs, ht⟩
  · exact ⟨none, 0, by rw [h], by omega, by unfold maxLen; omega, fun h => absurd rfl h⟩
  · refine ⟨some ⟨g, 0, none⟩, cap, rfl, hn, hm, fun _ => ⟨g, 0, rfl, lt_of_block hg, fun i hi => ?_⟩⟩
    have e : (cur.toList.take (l.length * 1))[i]? = (l.map bv)[i]? := by rw [ht]
    rw [List.getElem?_take_of_lt (by omega)] at e
    simp only [World.cell?, hg]
    simpa [hi] using e

theorem Own.below {B base : Nat} {w w' : World} {v : Value} {l : List UInt8} (h : Own w base v l) (hb : Below B w w') (hB : w.heap.size ≤ B) : Own w' base v l := by
  obtain ⟨h1, h2⟩ := h
  refine ⟨h1, ?_⟩
  rcases h2 with h | ⟨g, cap, cur, a, b, c, r⟩
  · exact .inl h
  · exact .inr ⟨g, cap, cur, a, b, (hb.block g (by have := lt_of_block c; omega)).trans c, r⟩

theorem Sl.below {B : Nat} {w w' : World} {v : Value} {l : List UInt8} (h : Sl w v l) (hb : Below B w w') (hB : w.heap.size ≤ B) : Sl w' v l := by
  obtain ⟨ao, cap, rfl, h1, h2, h4⟩ := h
  refine ⟨ao, cap, rfl, h1, h2, fun hc => ?_⟩
  obtain ⟨b, off, e, a, c⟩ := h4 hc
  exact ⟨b, off, e, by have := hb.size; omega, fun i hi => (hb.cell (p := ⟨b, off + i, none⟩) (by show b < B; omega)).trans (c i hi)⟩

theorem addr_add (b o j : Nat) : (⟨b, o, none⟩ : Addr).add j = ⟨b, o + j, none⟩ := by
  by_cases h : j = 0
  · subst h; simp [Addr.add]
  · simp [Addr.add, h]

/-- THE ONE LAW ON append THAT THE WALKS USE: to a slice with room, bytes that lie somewhere, one at least. -/
theorem wpList_append_room {w : World} {ops : Array Oper} {rest : List Oper} {o : Oper} {a : Act} {Q : Exit → Act → World → Prop} (hgd : o.guard = none) (s x : Operand)
    (ho : o.op = .call { callee := .builtin .append, args := #[s, x], argTypes := #[78, 78] })
    (base : Nat) (v : Value) (l : List UInt8) (hs : a.eval s = v) (hroom : Room w base v l)
    (y : Value) (m : List UInt8) (hx : a.eval x = y) (hy : Sl w y m) (hm : m ≠ []) (hlen : l.length + m.length ≤ 140737488355328) (hbase : base ≤ w.heap.size)
    (h : ∀ v' w', Own w' base v' (l ++ m) → Below base w w' → wpList Tryz.prog ops Q rest (a.put o.dst v') w') : wpList Tryz.prog ops Q (o :: rest) a w := by
  obtain ⟨i0, hi, hz0, hz1, hz2⟩ := info_parts Tryz.info5
  have hmp : 0 < m.length := List.length_pos_iff.2 hm
  obtain ⟨ao, cap, rfl, h1, h2, h4⟩ := hy
  obtain ⟨bk, off, rfl, hlt, hc⟩ := h4 (by omega)
  have hnews : ∀ j u, (m.map bv)[j]? = some u → w.cell? ((⟨bk, off, none⟩ : Addr).add j) = some u := by
    intro j u hj
    rw [List.getElem?_map] at hj
    by_cases hjl : j < m.length
    · rw [List.getElem?_eq_getElem hjl] at hj
      simp only [Option.map_some, Option.some.injEq] at hj
      subst hj
      rw [addr_add]; exact hc j hjl
    · rw [List.getElem?_eq_none (by omega)] at hj; cases hj
  rcases hroom with hown | ⟨hsl, ao2, hv⟩
  · refine wpList_append_own w hgd s x 78 ho base 5 i0 (.int .u8 0) 1 1 Tryz.underlying78 hi hz0 hz1 hz2 rfl (by decide) v l.length (l.map bv) hs hown ⟨bk, off, none⟩ m.length cap (m.map bv) hx (by simp) hnews (bv_one m) (by unfold maxLen; omega) (by omega) hbase ?_
    intro v' w' ho' hgr _
    refine h v' w' (by simpa [Own] using ho') ((Below.refl _ _).grown hgr hbase ?_)
    intro k hk
    rcases hown.2 with ⟨rfl, _⟩ | ⟨g, cap', cur, rfl, hb, _⟩
    · cases hk
    · simp only [Value.ownBlock, Option.some.injEq] at hk; omega
  · subst hv
    obtain ⟨ao3, cap3, hv3, _, _, h4'⟩ := hsl
    cases hv3
    refine wpList_append_grows w hgd s x 78 ho 5 i0 (.int .u8 0) 1 1 Tryz.underlying78 hi hz0 hz1 hz2 rfl (by decide) ao2 l.length l.length (l.map bv) hs ?_ (by simp) ?_ ⟨bk, off, none⟩ m.length cap (m.map bv) hx (by simp) hnews (bv_one m) (by omega) (by unfold maxLen; omega) (by omega) ?_
    · intro hn
      by_cases hz : l.length = 0
      · exact ⟨hz, hz⟩
      · obtain ⟨b, o, e, _⟩ := h4' hz
        rw [hn] at e; cases e
    · intro b hb j u hj
      rw [List.getElem?_map] at hj
      by_cases hjl : j < l.length
      · obtain ⟨bb, bo, e, a2, a3⟩ := h4' (by omega)
        rw [hb] at e
        cases e
        rw [List.getElem?_eq_getElem hjl] at hj
        simp only [Option.map_some, Option.some.injEq] at hj
        subst hj
        rw [addr_add]; exact a3 j hjl
      · rw [List.getElem?_eq_none (by omega)] at hj; cases hj
    · intro v' w' ho' hgr
      have ho2 : Own w' w.heap.size v' (l ++ m) := by simpa [Own] using ho'
      exact h v' w' (ho2.mono hbase) ((Below.refl _ _).grown hgr hbase (fun k hk => by cases hk))

theorem Sl.cases {w : World} {v : Value} {l : List UInt8} (h : Sl w v l) : (l = [] ∧ ∃ ao, v = .slice ao 0 0) ∨ ∃ b off cap, v = .slice (some ⟨b, off, none⟩) l.length cap ∧ l.length ≤ cap ∧ cap ≤ 9223372036854775807 ∧ b < w.heap.size ∧ ∀ i, (h : i < l.length) → w.cell? ⟨b, off + i, none⟩ = some (bv l[i]) := by
  obtain ⟨ao, cap, rfl, h1, h2, h4⟩ := h
  unfold maxLen at h2
  by_cases hz : cap = 0
  · subst hz
    obtain rfl : l = [] := List.eq_nil_of_length_eq_zero (by omega)
    exact .inl ⟨rfl, ao, rfl⟩
  · obtain ⟨b, off, rfl, a, c⟩ := h4 hz
    exact .inr ⟨b, off, cap, rfl, h1, by omega, a, c⟩

theorem Sl.alloc {w : World} {v : Value} {l : List UInt8} (h : Sl w v l) (o : Obj) : Sl (w.alloc o) v l :=
  h.below ((Below.refl w.heap.size w).alloc (Nat.le_refl _) o) (Nat.le_refl _)

theorem Sl.drew {w : World} {v : Value} {l : List UInt8} (h : Sl w v l) : Sl w.drew v l := h.below ((Below.refl w.heap.size w).drew) (Nat.le_refl _)
theorem after_drew {B : Nat} {w w' : World} (h : Below B w.drew w') : Below B w w' := ((Below.refl B w).drew).trans h

theorem Room.alloc {w : World} {base : Nat} {v : Value} {l : List UInt8} (h : Room w base v l) (o : Obj) : Room (w.alloc o) base v l := by
  rcases h with h | ⟨h, e⟩
  · exact .inl (World.ownsRow.alloc h o)
  · exact .inr ⟨h.alloc o, e⟩

/-- A new block of bytes. -/
theorem Sl.new (w : World) (l : List UInt8) (hl : l.length ≤ maxLen) (fz : Nat × Nat) : Sl (w.alloc (.cells (l.map bv).toArray 5 fz)) (.slice (some ⟨w.heap.size, 0, none⟩) l.length l.length) l := by
  refine ⟨_, _, rfl, Nat.le_refl _, hl, fun _ => ⟨w.heap.size, 0, rfl, by simp, fun i hi => ?_⟩⟩
  have : (w.alloc (.cells (l.map bv).toArray 5 fz)).heap[w.heap.size]? = some (.cells (l.map bv).toArray 5 fz) := by
    show (w.heap.push _)[w.heap.size]? = _
    simp
  simp only [World.cell?, this]
  simp [hi]

/-! ### Bits of a byte -/
theorem byte_all (p : Nat → Bool) (h : (List.range 256).all p = true) : ∀ k, k < 256 → p k = true := fun k hk => List.all_eq_true.1 h k (List.mem_range.2 hk)
theorem or128 (m : Int) (h : 0 ≤ m) : bits BinOp.or IntKind.u8 (m % 256) 128 = ((UInt8.ofNat (128 + m.toNat % 128)).toNat : Int) := by
  obtain ⟨k, rfl⟩ := Int.eq_ofNat_of_zero_le h
  have hk : k % 256 < 256 := Nat.mod_lt _ (by decide)
  have := byte_all (fun k => bits BinOp.or IntKind.u8 (k : Int) 128 == ((128 + k % 128 : Nat) : Int)) (by decide +kernel) (k % 256) hk
  have e : ((k : Int) % 256) = ((k % 256 : Nat) : Int) := by omega
  rw [e, beq_iff_eq.1 this, Int.toNat_natCast]
  simp only [UInt8.toNat_ofNat']
  omega
theorem byte_of (m : Int) (h : 0 ≤ m) (h2 : m < 128) : m % 256 = ((UInt8.ofNat m.toNat).toNat : Int) := by
  simp only [UInt8.toNat_ofNat']
  omega

theorem not_i64 (n : Int) (h0 : -9223372036854775808 ≤ n) (h1 : n ≤ 9223372036854775807) : bits BinOp.xor IntKind.i64 (-1) n = -n - 1 := by
  have e1 : BitVec.ofInt 64 (-1) = BitVec.allOnes 64 := by decide
  show IntKind.i64.wrap ((BitVec.ofInt 64 (-1) ^^^ BitVec.ofInt 64 n).toNat : Int) = _
  rw [e1, BitVec.allOnes_xor, BitVec.toNat_not, BitVec.toNat_ofInt, IntKind.wrap_i64]
  omega


/-- An append to a slice of one's own, of whatever bytes: none, too. -/
theorem wpList_append_mine {w : World} {ops : Array Oper} {rest : List Oper} {o : Oper} {a : Act} {Q : Exit → Act → World → Prop} (hgd : o.guard = none) (s x : Operand)
    (ho : o.op = .call { callee := .builtin .append, args := #[s, x], argTypes := #[78, 78] })
    (base : Nat) (v : Value) (l : List UInt8) (hs : a.eval s = v) (hown : Own w base v l)
    (y : Value) (m : List UInt8) (hx : a.eval x = y) (hy : Sl w y m) (hlen : l.length + m.length ≤ 140737488355328) (hbase : base ≤ w.heap.size)
    (h : ∀ v' w', Own w' base v' (l ++ m) → Below base w w' → wpList Tryz.prog ops Q rest (a.put o.dst v') w') : wpList Tryz.prog ops Q (o :: rest) a w := by
  by_cases hm : m = []
  · subst hm
    obtain ⟨i0, hi, hz0, hz1, hz2⟩ := info_parts Tryz.info5
    obtain ⟨ao, cap, rfl, h1, h2, h4⟩ := hy
    cases ao with
    | none =>
      obtain rfl : cap = 0 := by
        by_cases hz : cap = 0
        · exact hz
        · obtain ⟨_, _, e, _⟩ := h4 hz; cases e
      refine wpList_append_own_none hgd s x 78 ho base 5 i0 1 Tryz.underlying78 hi v l.length (l.map bv) hs hown hx ?_
      exact h v w (by simpa using hown) (Below.refl _ _)
    | some ad =>
      refine wpList_append_own w hgd s x 78 ho base 5 i0 (.int .u8 0) 1 1 Tryz.underlying78 hi hz0 hz1 hz2 rfl (by decide) v l.length (l.map bv) hs hown ad 0 cap [] hx (by simp) (fun j u hj => by simp at hj) (fun u hu => by simp at hu) (by unfold maxLen; omega) (by omega) hbase ?_
      intro v' w' ho' hgr _
      refine h v' w' (by simpa [Own] using ho') ((Below.refl _ _).grown hgr hbase ?_)
      intro k hk
      rcases hown.2 with ⟨rfl, _⟩ | ⟨g, cap', cur, rfl, hb, _⟩
      · cases hk
      · simp only [Value.ownBlock, Option.some.injEq] at hk; omega
  · exact wpList_append_room hgd s x ho base v l hs (.inl hown) y m hx hy hm hlen hbase h
end Go.Proofs.YtkgepklmhdjjnaaGreatDoor

/-
  DERIVED. Plain words of layer 12: bytes, names, escapes.
-/
namespace Go.Proofs.YtkgepklmhdjjnaaGreatDoor

def smallB (c : UInt8) : Bool := decide ((97 : Int) ≤ c.toNat) && decide ((c.toNat : Int) ≤ 122)
def capB (c : UInt8) : Bool := decide ((65 : Int) ≤ c.toNat) && decide ((c.toNat : Int) ≤ 90)
def digitB (c : UInt8) : Bool := decide ((48 : Int) ≤ c.toNat) && decide ((c.toNat : Int) ≤ 57)
def markB (c : UInt8) : Bool := decide (c.toNat = 45) || decide (c.toNat = 46) || decide (c.toNat = 95) || decide (c.toNat = 126)
/-- A byte that stands as it is. -/
def plainB (c : UInt8) : Bool := smallB c || capB c || digitB c || markB c
/-- A byte of a name. -/
def nchB (c : UInt8) : Bool := smallB c || digitB c || decide (c.toNat = 95)
/-- A name may be so. -/
def nameB (s : List UInt8) : Bool := s.head?.any smallB && decide (s.length ≤ 32) && s.all nchB

/-- A hexadecimal digit, in capitals. -/
def hexD (v : Nat) : UInt8 := if v < 10 then UInt8.ofNat (48 + v) else UInt8.ofNat (55 + v)
/-- What a hexadecimal digit stands for. -/
def hexV (c : UInt8) : Option Nat :=
  if digitB c then some (c.toNat - 48)
  else if 65 ≤ c.toNat ∧ c.toNat ≤ 70 then some (c.toNat - 55)
  else if 97 ≤ c.toNat ∧ c.toNat ≤ 102 then some (c.toNat - 87)
  else none

def escB (c : UInt8) : List UInt8 := if plainB c then [c] else [37, hexD (c.toNat / 16), hexD (c.toNat % 16)]
/-- A text escaped. -/
def esc (s : List UInt8) : List UInt8 := s.flatMap escB

/-- What an escaped text stands for. -/
def unesc : List UInt8 → Option (List UInt8)
  | [] => some []
  | c :: r =>
    if c.toNat = 37 then
      match r with
      | a :: b :: t => (match hexV a, hexV b with
        | some x, some y => (unesc t).map (UInt8.ofNat (16 * x + y) :: ·)
        | _, _ => none)
      | _ => none
    else if plainB c then (unesc r).map (c :: ·) else none

theorem all_bytes (p : UInt8 → Prop) (h : ∀ n, n < 256 → p (UInt8.ofNat n)) (c : UInt8) : p c := by
  have := h c.toNat c.toNat_lt
  rwa [UInt8.ofNat_toNat] at this

set_option maxRecDepth 100000 in
theorem escB_facts : ∀ n, n < 256 → (plainB (UInt8.ofNat n) = true → (UInt8.ofNat n).toNat ≠ 37) ∧ (plainB (UInt8.ofNat n) = false → hexV (hexD ((UInt8.ofNat n).toNat / 16)) = some ((UInt8.ofNat n).toNat / 16) ∧ hexV (hexD ((UInt8.ofNat n).toNat % 16)) = some ((UInt8.ofNat n).toNat % 16)) := by decide

theorem plain_ne {c : UInt8} (h : plainB c = true) : c.toNat ≠ 37 :=
  all_bytes (fun c => plainB c = true → c.toNat ≠ 37) (fun n hn => (escB_facts n hn).1) c h
theorem hexV_hi {c : UInt8} (h : plainB c = false) : hexV (hexD (c.toNat / 16)) = some (c.toNat / 16) :=
  all_bytes (fun c => plainB c = false → hexV (hexD (c.toNat / 16)) = some (c.toNat / 16)) (fun n hn h => ((escB_facts n hn).2 h).1) c h
theorem hexV_lo {c : UInt8} (h : plainB c = false) : hexV (hexD (c.toNat % 16)) = some (c.toNat % 16) :=
  all_bytes (fun c => plainB c = false → hexV (hexD (c.toNat % 16)) = some (c.toNat % 16)) (fun n hn h => ((escB_facts n hn).2 h).2) c h

theorem esc_cons (c : UInt8) (r : List UInt8) : esc (c :: r) = escB c ++ esc r := by simp [esc]

theorem unesc_plain {c : UInt8} (h : plainB c = true) (r : List UInt8) : unesc (c :: r) = (unesc r).map (c :: ·) := by
  rcases r with _ | ⟨a, _ | ⟨b, t⟩⟩
  · simp [unesc, plain_ne h, h]
  · simp [unesc, plain_ne h, h]
  · rw [unesc, if_neg (plain_ne h), if_pos h]

theorem unesc_hex {a b : UInt8} {x y : Nat} (ha : hexV a = some x) (hb : hexV b = some y) (t : List UInt8) : unesc (37 :: a :: b :: t) = (unesc t).map (UInt8.ofNat (16 * x + y) :: ·) := by
  rw [unesc, if_pos (by decide)]
  simp only [ha, hb]

/-- What is escaped is read again. -/
theorem unesc_esc (s : List UInt8) : unesc (esc s) = some s := by
  induction s with
  | nil => rfl
  | cons c r ih =>
    rw [esc_cons]
    cases h : plainB c with
    | true =>
      rw [show escB c = [c] by simp [escB, h]]
      rw [List.cons_append, List.nil_append, unesc_plain h, ih]; rfl
    | false =>
      rw [show escB c = [37, hexD (c.toNat / 16), hexD (c.toNat % 16)] by simp [escB, h]]
      simp only [List.cons_append, List.nil_append]
      rw [unesc_hex (hexV_hi h) (hexV_lo h), ih]
      have : 16 * (c.toNat / 16) + c.toNat % 16 = c.toNat := by omega
      rw [this]; simp

theorem esc_inj {s t : List UInt8} (h : esc s = esc t) : s = t := by
  have := unesc_esc s
  rw [h, unesc_esc t] at this
  exact (Option.some.inj this).symm

theorem esc_length (s : List UInt8) : (esc s).length ≤ 3 * s.length := by
  induction s with
  | nil => simp [esc]
  | cons c r ih =>
    rw [esc_cons]
    have : (escB c).length ≤ 3 := by unfold escB; split <;> simp
    simp; omega

/-- Bytes that come of an escape. -/
def outB (c : UInt8) : Bool := !(decide (c.toNat ≤ 32) || decide (126 < c.toNat) || decide (c.toNat = 38) || decide (c.toNat = 61) || decide (c.toNat = 47) || decide (c.toNat = 124))

set_option maxRecDepth 100000 in
theorem out_facts : ∀ n, n < 256 → (escB (UInt8.ofNat n)).all outB = true := by decide

theorem esc_out (s : List UInt8) : ∀ c ∈ esc s, outB c = true := by
  intro c hc
  obtain ⟨d, _, hd⟩ := List.mem_flatMap.1 hc
  have := all_bytes (fun d => (escB d).all outB = true) out_facts d
  exact List.all_eq_true.1 this c hd
end Go.Proofs.YtkgepklmhdjjnaaGreatDoor

/-
  DERIVED. Walks of small, digit, hex: bytes.
-/
namespace Go.Proofs.YtkgepklmhdjjnaaGreatDoor
open Go.RowKit
set_option linter.unusedVariables false

abbrev u8v (c : UInt8) : Value := bv c

set_option maxHeartbeats 1000000 in
theorem small_any (c : UInt8) (w : World) :
    Calls Tryz.prog 48 #[u8v c] w fun e w' => e = .returned (.bool (smallB c)) ∧ w = w' := by
  have hc := c.toNat_lt
  unfold smallB
  by_cases h1 : (97 : Int) ≤ c.toNat
  · rw [decide_eq_true h1, Bool.true_and]
    go_enter Tryz.func48, Tryz.ntmps48
    go_wp2
    go_ret
    exact ⟨rfl, rfl⟩
  · rw [decide_eq_false h1]
    go_enter Tryz.func48, Tryz.ntmps48
    go_wp2
    go_ret
    exact ⟨rfl, rfl⟩

set_option maxHeartbeats 1000000 in
theorem digit_any (c : UInt8) (w : World) :
    Calls Tryz.prog 49 #[u8v c] w fun e w' => e = .returned (.bool (digitB c)) ∧ w = w' := by
  have hc := c.toNat_lt
  unfold digitB
  by_cases h1 : (48 : Int) ≤ c.toNat
  · rw [decide_eq_true h1, Bool.true_and]
    go_enter Tryz.func49, Tryz.ntmps49
    go_wp2
    go_ret
    exact ⟨rfl, rfl⟩
  · rw [decide_eq_false h1]
    go_enter Tryz.func49, Tryz.ntmps49
    go_wp2
    go_ret
    exact ⟨rfl, rfl⟩

theorem digitB_iff {c : UInt8} : digitB c = true ↔ 48 ≤ c.toNat ∧ c.toNat ≤ 57 := by
  simp [digitB]; omega

set_option maxHeartbeats 2000000 in
/-- A hexadecimal digit. -/
theorem hex_ok (c : UInt8) (x : Nat) (h : hexV c = some x) (w : World) :
    Calls Tryz.prog 44 #[u8v c] w fun e w' => e = .returned (.tuple #[.int .u8 (x : Int), .bool true]) ∧ w = w' := by
  have hc := c.toNat_lt
  by_cases hd : digitB c = true
  · have hx : x = c.toNat - 48 := by unfold hexV at h; rw [if_pos hd] at h; exact (Option.some.inj h).symm
    have h48 := (digitB_iff.1 hd)
    have HD := hide hd
    have hw : IntKind.u8.wrap ((c.toNat : Int) - 48) = x := by rw [hx]; simp [IntKind.wrap, IntKind.signed, IntKind.bits]; omega
    clear h hd hx h48
    go_enter Tryz.func44, Tryz.ntmps44
    go_wp2_with (go_at_call 49; refine (digit_any c _).mono ?_; rintro e w' ⟨rfl, rfl⟩; rw [unhide HD])
    go_ret2
    exact ⟨by simp, rfl⟩
  · have hd' : digitB c = false := by simpa using hd
    unfold hexV at h
    rw [if_neg hd] at h
    have HD := hide hd'
    clear hd hd'
    by_cases h1 : 65 ≤ c.toNat ∧ c.toNat ≤ 70
    · rw [if_pos h1] at h
      have hx : x = c.toNat - 55 := (Option.some.inj h).symm
      have a1 : (65 : Int) ≤ c.toNat := by omega
      have a2 : (c.toNat : Int) ≤ 70 := by omega
      have HX : Hid ((c.toNat : Int) - 65 + 10 = x) := hide (by omega)
      clear h h1 hx
      go_enter Tryz.func44, Tryz.ntmps44
      go_wp2_with (go_at_call 49; refine (digit_any c _).mono ?_; rintro e w' ⟨rfl, rfl⟩; rw [unhide HD])
      go_ret2
      exact ⟨by simp [unhide HX], rfl⟩
    · rw [if_neg h1] at h
      by_cases h2 : 97 ≤ c.toNat ∧ c.toNat ≤ 102
      · rw [if_pos h2] at h
        have hx : x = c.toNat - 87 := (Option.some.inj h).symm
        have a0 : ¬ (c.toNat : Int) ≤ 70 := by omega
        have a00 : (65 : Int) ≤ c.toNat := by omega
        have a1 : (97 : Int) ≤ c.toNat := by omega
        have a2 : (c.toNat : Int) ≤ 102 := by omega
        have HX : Hid ((c.toNat : Int) - 97 + 10 = x) := hide (by omega)
        clear h h1 h2 hx
        go_enter Tryz.func44, Tryz.ntmps44
        go_wp2_with (go_at_call 49; refine (digit_any c _).mono ?_; rintro e w' ⟨rfl, rfl⟩; rw [unhide HD])
        go_ret2
        exact ⟨by simp [unhide HX], rfl⟩
      · rw [if_neg h2] at h; cases h

set_option maxHeartbeats 2000000 in
/-- None. -/
theorem hex_no (c : UInt8) (h : hexV c = none) (w : World) :
    Calls Tryz.prog 44 #[u8v c] w fun e w' => e = .returned (.tuple #[.int .u8 0, .bool false]) ∧ w = w' := by
  have hc := c.toNat_lt
  by_cases hd : digitB c = true
  · unfold hexV at h; rw [if_pos hd] at h; cases h
  · have hd' : digitB c = false := by simpa using hd
    unfold hexV at h
    rw [if_neg hd] at h
    have HD := hide hd'
    clear hd hd'
    by_cases h1 : 65 ≤ c.toNat ∧ c.toNat ≤ 70
    · rw [if_pos h1] at h; cases h
    · by_cases h2 : 97 ≤ c.toNat ∧ c.toNat ≤ 102
      · rw [if_neg h1, if_pos h2] at h; cases h
      · clear h
        have h3 : ¬ (65 : Int) ≤ c.toNat ∨ ((65 : Int) ≤ c.toNat ∧ ¬ (c.toNat : Int) ≤ 70) := by omega
        have h4 : ¬ (97 : Int) ≤ c.toNat ∨ ((97 : Int) ≤ c.toNat ∧ ¬ (c.toNat : Int) ≤ 102) := by omega
        clear h1 h2
        rcases h3 with h3 | ⟨h3, h3'⟩ <;> rcases h4 with h4 | ⟨h4, h4'⟩
        all_goals first | (exfalso; omega) | skip
        all_goals
          go_enter Tryz.func44, Tryz.ntmps44
          go_wp2_with (go_at_call 49; refine (digit_any c _).mono ?_; rintro e w' ⟨rfl, rfl⟩; rw [unhide HD])
          go_ret2
          exact ⟨rfl, rfl⟩
end Go.Proofs.YtkgepklmhdjjnaaGreatDoor

/-
  DERIVED. The walk of Name.
-/
namespace Go.Proofs.YtkgepklmhdjjnaaGreatDoor
open Go.RowKit
set_option linter.unusedVariables false

abbrev sv (s : List UInt8) : Value := .string ⟨s.toArray⟩

/-- A string's byte. -/
theorem byte_at {s : List UInt8} {k : Nat} {c : UInt8} (h : s[k]? = some c) : ∀ hb : k < (⟨s.toArray⟩ : ByteArray).size, (⟨s.toArray⟩ : ByteArray)[k]'hb = c := by
  intro hb
  obtain ⟨h1, h2⟩ := List.getElem?_eq_some_iff.1 h
  rw [← h2]; rfl

theorem nch_small {c : UInt8} (h : smallB c = true) : nchB c = true := by simp [nchB, h]
theorem nch_digit {c : UInt8} (h : digitB c = true) : nchB c = true := by simp [nchB, h]
theorem nch_mark {c : UInt8} (h : c.toNat = 95) : nchB c = true := by simp [nchB, h]
theorem nch_no {c : UInt8} (h1 : smallB c = false) (h2 : digitB c = false) (h3 : c.toNat ≠ 95) : nchB c = false := by simp [nchB, h1, h2, h3]

theorem all_take_succ {s : List UInt8} {k : Nat} {c : UInt8} {p : UInt8 → Bool} (h : s[k]? = some c) (hp : p c = true) (ha : (s.take k).all p = true) : (s.take (k + 1)).all p = true := by
  rw [List.take_add_one, h]; simp [List.all_append, ha, hp]

theorem all_false {s : List UInt8} {k : Nat} {c : UInt8} {p : UInt8 → Bool} (h : s[k]? = some c) (hp : p c = false) : s.all p = false := by
  rw [List.all_eq_false]; exact ⟨c, List.mem_of_getElem? h, by simp [hp]⟩

set_option maxHeartbeats 2000000 in
theorem Name_any (s : List UInt8) (w : World) (hs : s.length ≤ 9223372036854775807) :
    Calls Tryz.prog 17 #[sv s] w fun e w' => e = .returned (.bool (nameB s)) ∧ w = w' := by
  rcases s with _ | ⟨c, r⟩
  · go_enter Tryz.func17, Tryz.ntmps17
    go_wp2_with fail
    go_ret
    exact ⟨rfl, rfl⟩
  · obtain ⟨s, hse⟩ : ∃ s, s = c :: r := ⟨_, rfl⟩
    have hh : nameB s = (smallB c && decide (s.length ≤ 32) && s.all nchB) := by subst hse; rfl
    have H0 := hide (byte_at (s := s) (k := 0) (c := c) (by rw [hse]; rfl))
    rw [← hse] at hs ⊢
    have hne : (s == []) = false := by rw [hse]; rfl
    have hpos : 0 < s.length := by rw [hse]; simp
    clear hse
    rw [hh]
    have HH := hide hh
    clear hh
    by_cases h32 : s.length ≤ 32
    · cases hsm : smallB c with
      | false =>
        have HS := hide hsm
        clear hsm
        go_enter Tryz.func17, Tryz.ntmps17
        go_wp2_with (go_at_call 48; rw [unhide H0]; refine (small_any c _).mono ?_; rintro e w' ⟨rfl, rfl⟩; rw [unhide HS])
        go_ret
        exact ⟨rfl, rfl⟩
      | true =>
        have HS := hide hsm
        rw [decide_eq_true h32, Bool.true_and, Bool.true_and]
        clear hsm
        obtain ⟨N, hN⟩ : ∃ N, N = s.length := ⟨_, rfl⟩
        have HN := hide hN
        go_enter Tryz.func17, Tryz.ntmps17
        go_wp2_with (go_at_call 48; rw [unhide H0]; refine (small_any c _).mono ?_; rintro e w' ⟨rfl, rfl⟩; rw [unhide HS])
        go_loopw [3, 19] (fun _ i wr => ∃ k : Nat, k ≤ s.length ∧ i = .int .i64 k ∧ Hid ((s.take k).all nchB = true) ∧ Hid (wr = w)) (fun _ i _ => s.length - (intOf i).toNat)
        case atStart => exact ⟨0, by omega, rfl, hide rfl, hide rfl⟩
        case round =>
          obtain ⟨k, hk, rfl, HA, HW⟩ := hrel
          by_cases hlt : k < s.length
          · obtain ⟨d, hd⟩ : ∃ d, s[k]? = some d := ⟨_, List.getElem?_eq_getElem hlt⟩
            have HD := hide hd
            have hB := byte_at hd
            clear hd
            cases h1 : smallB d with
            | true =>
              have H1 := hide h1
              have HA' := hide (all_take_succ (unhide HD) (nch_small h1) (unhide HA))
              clear h1
              go_wp2_with (go_at_call 48; refine (small_any d _).mono ?_; rintro e w' ⟨rfl, rfl⟩; rw [unhide H1])
              go_roundw
              case rel => exact ⟨k + 1, by omega, by go_num, HA', HW⟩
              case measure => simp [intOf]; omega
            | false =>
              have H1 := hide h1
              cases h2 : digitB d with
              | true =>
                have H2 := hide h2
                have HA' := hide (all_take_succ (unhide HD) (nch_digit h2) (unhide HA))
                clear h1 h2
                go_wp2_with (first | (go_at_call 48; refine (small_any d _).mono ?_; rintro e w' ⟨rfl, rfl⟩; rw [unhide H1]) | (go_at_call 49; refine (digit_any d _).mono ?_; rintro e w' ⟨rfl, rfl⟩; rw [unhide H2]))
                go_roundw
                case rel => exact ⟨k + 1, by omega, by go_num, HA', HW⟩
                case measure => simp [intOf]; omega
              | false =>
                have H2 := hide h2
                by_cases h3 : d.toNat = 95
                · have HA' := hide (all_take_succ (unhide HD) (nch_mark h3) (unhide HA))
                  have hq : ((d.toNat : Int) != 95) = false := by simp; omega
                  clear h1 h2 h3
                  go_wp2_with (first | (go_at_call 48; refine (small_any d _).mono ?_; rintro e w' ⟨rfl, rfl⟩; rw [unhide H1]) | (go_at_call 49; refine (digit_any d _).mono ?_; rintro e w' ⟨rfl, rfl⟩; rw [unhide H2]))
                  go_roundw
                  case rel => exact ⟨k + 1, by omega, by go_num, HA', HW⟩
                  case measure => simp [intOf]; omega
                · have HF := hide (all_false (unhide HD) (nch_no h1 h2 h3))
                  have hq : ((d.toNat : Int) != 95) = true := by simp; omega
                  clear h1 h2 h3
                  go_wp2_with (first | (go_at_call 48; refine (small_any d _).mono ?_; rintro e w' ⟨rfl, rfl⟩; rw [unhide H1]) | (go_at_call 49; refine (digit_any d _).mono ?_; rintro e w' ⟨rfl, rfl⟩; rw [unhide H2]))
                  go_ret
                  rw [unhide HF]
                  exact ⟨rfl, (unhide HW).symm⟩
          · have HF : Hid (s.all nchB = true) := hide (by have := unhide HA; rwa [List.take_of_length_le (by omega)] at this)
            go_wp2_with fail
            go_ret
            rw [unhide HF]
            exact ⟨rfl, (unhide HW).symm⟩
    · rw [decide_eq_false h32, Bool.and_false, Bool.false_and]
      have h32' : decide ((s.length : Int) > 32) = true := decide_eq_true (by omega)
      go_enter Tryz.func17, Tryz.ntmps17
      go_wp2_with fail
      go_ret
      exact ⟨rfl, rfl⟩
end Go.Proofs.YtkgepklmhdjjnaaGreatDoor

/-
  DERIVED. The numbers of this dump for functions of Go's library, written out by the guide's own tool.
-/
namespace Go.Proofs.YtkgepklmhdjjnaaGreatDoor
open Go.Shelf
def Tryz.lays213_ren : Go.Shelf.Ren := ⟨fun | 213 => 222 | 265 => 231 | n => n, fun | 9 => 9 | 3 => 3 | n => n, fun | n => n⟩
theorem Tryz.lays213 : Go.Proofs.Lays.n213 Tryz.prog Tryz.lays213_ren := {
  mixed := by kernel_rfl
  f213 := Tryz.func222.trans (congrArg some (by kernel_rfl))
  f265 := Tryz.func231.trans (congrArg some (by kernel_rfl))
  t3 := Tryz.underlying3
  a3 := Tryz.isAgg3
  z3 := Tryz.sizeOf3
  v3 := Tryz.zeroValue3
  t9 := Tryz.underlying9
  a9 := Tryz.isAgg9
  z9 := Tryz.sizeOf9
  v9 := Tryz.zeroValue9 }
open Go.RowKit in
/-- internal/bytealg.CompareString (what strings.Compare calls): IT RETURNS 'Lib.compareBytes a b'; the world is as it was. (LAID: no walk: one application.) -/
theorem Tryz.bytealg_CompareString (a b : ByteArray) (w : World) :
    Calls Tryz.prog 222 #[.string a, .string b] w fun e w' => e = .returned (.int .i64 (Lib.compareBytes a.data.toList b.data.toList)) ∧ w' = w := Any.bytealg_CompareString Tryz.lays213 a b w
def Tryz.lays106_ren : Go.Shelf.Ren := ⟨fun | 106 => 199 | 213 => 222 | 265 => 231 | n => n, fun | 9 => 9 | 3 => 3 | n => n, fun | n => n⟩
theorem Tryz.lays106 : Go.Proofs.Lays.n106 Tryz.prog Tryz.lays106_ren := {
  mixed := by kernel_rfl
  f106 := Tryz.func199.trans (congrArg some (by kernel_rfl))
  f213 := Tryz.func222.trans (congrArg some (by kernel_rfl))
  f265 := Tryz.func231.trans (congrArg some (by kernel_rfl))
  t3 := Tryz.underlying3
  a3 := Tryz.isAgg3
  z3 := Tryz.sizeOf3
  v3 := Tryz.zeroValue3
  t9 := Tryz.underlying9
  a9 := Tryz.isAgg9
  z9 := Tryz.sizeOf9
  v9 := Tryz.zeroValue9 }
open Go.RowKit in
/-- strings.Compare: "Compare returns an integer comparing two strings lexicographically. The result will be 0 if a == b, -1 if a < b, and +1 if a > b.": IT RETURNS 'Lib.compareBytes a b'; the world is as it was. (LAID: no walk: one application.) -/
theorem Tryz.strings_Compare (a b : ByteArray) (w : World) :
    Calls Tryz.prog 199 #[.string a, .string b] w fun e w' => e = .returned (.int .i64 (Lib.compareBytes a.data.toList b.data.toList)) ∧ w' = w := Any.strings_Compare Tryz.lays106 a b w
def Tryz.lays137_ren : Go.Shelf.Ren := ⟨fun | 137 => 90 | 217 => 148 | 266 => 194 | n => n, fun | 9 => 9 | 5 => 5 | 3 => 3 | n => n, fun | n => n⟩
theorem Tryz.lays137 : Go.Proofs.Lays.n137 Tryz.prog Tryz.lays137_ren := {
  mixed := by kernel_rfl
  f137 := Tryz.func90.trans (congrArg some (by kernel_rfl))
  f217 := Tryz.func148.trans (congrArg some (by kernel_rfl))
  f266 := Tryz.func194.trans (congrArg some (by kernel_rfl))
  t3 := Tryz.underlying3
  a3 := Tryz.isAgg3
  z3 := Tryz.sizeOf3
  v3 := Tryz.zeroValue3
  t5 := Tryz.underlying5
  a5 := Tryz.isAgg5
  z5 := Tryz.sizeOf5
  v5 := Tryz.zeroValue5
  t9 := Tryz.underlying9
  a9 := Tryz.isAgg9
  z9 := Tryz.sizeOf9
  v9 := Tryz.zeroValue9 }
open Go.RowKit in
/-- strings.IndexByte: "IndexByte returns the index of the first instance of c in s, or -1 if c is not present in s.": IT RETURNS 'Lib.indexByte s c'; the world is as it was. (LAID: no walk: one application.) -/
theorem Tryz.strings_IndexByte (s : ByteArray) (c : Int) (w : World) :
    Calls Tryz.prog 90 #[.string s, .int .u8 c] w fun e w' => e = .returned (.int .i64 (Lib.indexByte s.data.toList c.toNat.toUInt8)) ∧ w' = w := Any.strings_IndexByte Tryz.lays137 s c w
def Tryz.laysM246_ren : Go.Shelf.Ren := ⟨fun | 246 => 197 | 283 => 217 | 284 => 218 | 285 => 219 | 286 => 220 | 129 => 193 | 317 => 227 | 318 => 228 | 319 => 229 | 320 => 230 | 337 => 234 | 338 => 235 | n => n, fun | 2 => 2 | 3 => 3 | 9 => 9 | 4 => 4 | 171 => 251 | 0 => 0 | 53 => 232 | 37 => 78 | 5 => 5 | 173 => 253 | 212 => 265 | 51 => 230 | 20 => 20 | 213 => 266 | 46 => 81 | 232 => 271 | 233 => 272 | n => n, fun | 17 => 3 | 18 => 4 | 19 => 5 | n => n⟩
theorem Tryz.laysM246 : Go.Proofs.LaysM.n246 Tryz.prog Tryz.laysM246_ren := {
  mixed := by kernel_rfl
  f129 := Tryz.func193.trans (congrArg some (by kernel_rfl))
  f246 := Tryz.func197.trans (congrArg some (by kernel_rfl))
  f283 := Tryz.func217.trans (congrArg some (by kernel_rfl))
  f284 := Tryz.func218.trans (congrArg some (by kernel_rfl))
  f285 := Tryz.func219.trans (congrArg some (by kernel_rfl))
  f286 := Tryz.func220.trans (congrArg some (by kernel_rfl))
  f317 := Tryz.func227.trans (congrArg some (by kernel_rfl))
  f318 := Tryz.func228.trans (congrArg some (by kernel_rfl))
  f319 := Tryz.func229.trans (congrArg some (by kernel_rfl))
  f320 := Tryz.func230.trans (congrArg some (by kernel_rfl))
  f337 := Tryz.func234.trans (congrArg some (by kernel_rfl))
  f338 := Tryz.func235.trans (congrArg some (by kernel_rfl))
  t0 := Tryz.underlying0
  a0 := Tryz.isAgg0
  z0 := Tryz.sizeOf0
  v0 := Tryz.zeroValue0
  t2 := Tryz.underlying2
  a2 := Tryz.isAgg2
  z2 := Tryz.sizeOf2
  v2 := Tryz.zeroValue2
  t3 := Tryz.underlying3
  a3 := Tryz.isAgg3
  z3 := Tryz.sizeOf3
  v3 := Tryz.zeroValue3
  t4 := Tryz.underlying4
  a4 := Tryz.isAgg4
  z4 := Tryz.sizeOf4
  v4 := Tryz.zeroValue4
  t5 := Tryz.underlying5
  a5 := Tryz.isAgg5
  z5 := Tryz.sizeOf5
  v5 := Tryz.zeroValue5
  t9 := Tryz.underlying9
  a9 := Tryz.isAgg9
  z9 := Tryz.sizeOf9
  v9 := Tryz.zeroValue9
  t20 := Tryz.underlying20
  a20 := Tryz.isAgg20
  z20 := Tryz.sizeOf20
  v20 := Tryz.zeroValue20
  t37 := Tryz.underlying78
  a37 := Tryz.isAgg78
  z37 := Tryz.sizeOf78
  v37 := Tryz.zeroValue78
  t46 := Tryz.underlying81
  a46 := Tryz.isAgg81
  z46 := Tryz.sizeOf81
  v46 := Tryz.zeroValue81
  t51 := Tryz.underlying230
  a51 := Tryz.isAgg230
  z51 := Tryz.sizeOf230
  v51 := Tryz.zeroValue230
  t53 := Tryz.underlying232
  a53 := Tryz.isAgg232
  z53 := Tryz.sizeOf232
  v53 := Tryz.zeroValue232
  t171 := Tryz.underlying251
  a171 := Tryz.isAgg251
  z171 := Tryz.sizeOf251
  v171 := Tryz.zeroValue251
  t173 := Tryz.underlying253
  a173 := Tryz.isAgg253
  z173 := Tryz.sizeOf253
  v173 := Tryz.zeroValue253
  t212 := Tryz.underlying265
  a212 := Tryz.isAgg265
  z212 := Tryz.sizeOf265
  v212 := Tryz.zeroValue265
  t213 := Tryz.underlying266
  a213 := Tryz.isAgg266
  z213 := Tryz.sizeOf266
  t232 := Tryz.underlying271
  a232 := Tryz.isAgg271
  z232 := Tryz.sizeOf271
  v232 := Tryz.zeroValue271
  t233 := Tryz.underlying272
  a233 := Tryz.isAgg272
  z233 := Tryz.sizeOf272
  v233 := Tryz.zeroValue272
  g17 := by kernel_rfl
  g18 := by kernel_rfl
  g19 := by kernel_rfl
  i0 := by kernel_rfl
  i2 := by kernel_rfl
  i3 := by kernel_rfl
  i4 := by kernel_rfl
  i5 := by kernel_rfl
  i9 := by kernel_rfl
  i20 := by kernel_rfl
  i37 := by kernel_rfl
  i46 := by kernel_rfl
  i51 := by kernel_rfl
  i53 := by kernel_rfl
  i171 := by kernel_rfl
  i173 := by kernel_rfl
  i212 := by kernel_rfl
  i232 := by kernel_rfl
  i233 := by kernel_rfl
  m17 := by kernel_rfl
  m18 := by kernel_rfl
  m19 := by kernel_rfl }
open Go.RowKit Go.Sort Go.Lib in
/-- internal/strconv.FormatInt: "FormatInt returns the string representation of i in the given base": AT BASE 10: i's decimal numeral, for every int64. The world behind the call: the world before it, new blocks behind the heap, draws. (LAID: no walk: one application.) -/
theorem Tryz.internal_strconv_FormatInt_10 (n : Int) (h0 : -9223372036854775808 ≤ n) (h1 : n ≤ 9223372036854775807) (w : World) (htab : Lib.TabIs Tryz.prog w "internal/strconv.uint64pow10" .u64 Lib.pow10Tab) :
    Calls Tryz.prog 197 #[.int .i64 n, .int .i64 10] w fun e w' => e = .returned (.string ⟨(Lib.itoa n).toArray⟩) ∧ ∃ k os, w' = grow (w.drewN k) os := Any.internal_strconv_FormatInt_10 Tryz.laysM246 n h0 h1 w htab
def Tryz.lays246_ren : Go.Shelf.Ren := ⟨fun | 246 => 197 | 283 => 217 | 284 => 218 | 285 => 219 | 286 => 220 | 129 => 193 | 317 => 227 | 318 => 228 | 319 => 229 | 320 => 230 | 337 => 234 | 338 => 235 | n => n, fun | 2 => 2 | 3 => 3 | 9 => 9 | 4 => 4 | 171 => 251 | 0 => 0 | 53 => 232 | 37 => 78 | 5 => 5 | 173 => 253 | 212 => 265 | 51 => 230 | 20 => 20 | 213 => 266 | 46 => 81 | 232 => 271 | 233 => 272 | n => n, fun | 17 => 3 | 18 => 4 | 19 => 5 | n => n⟩
theorem Tryz.lays246 : Go.Proofs.Lays.n246 Tryz.prog Tryz.lays246_ren := {
  mixed := by kernel_rfl
  f129 := Tryz.func193.trans (congrArg some (by kernel_rfl))
  f246 := Tryz.func197.trans (congrArg some (by kernel_rfl))
  f283 := Tryz.func217.trans (congrArg some (by kernel_rfl))
  f284 := Tryz.func218.trans (congrArg some (by kernel_rfl))
  f285 := Tryz.func219.trans (congrArg some (by kernel_rfl))
  f286 := Tryz.func220.trans (congrArg some (by kernel_rfl))
  f317 := Tryz.func227.trans (congrArg some (by kernel_rfl))
  f318 := Tryz.func228.trans (congrArg some (by kernel_rfl))
  f319 := Tryz.func229.trans (congrArg some (by kernel_rfl))
  f320 := Tryz.func230.trans (congrArg some (by kernel_rfl))
  f337 := Tryz.func234.trans (congrArg some (by kernel_rfl))
  f338 := Tryz.func235.trans (congrArg some (by kernel_rfl))
  t0 := Tryz.underlying0
  a0 := Tryz.isAgg0
  z0 := Tryz.sizeOf0
  v0 := Tryz.zeroValue0
  t2 := Tryz.underlying2
  a2 := Tryz.isAgg2
  z2 := Tryz.sizeOf2
  v2 := Tryz.zeroValue2
  t3 := Tryz.underlying3
  a3 := Tryz.isAgg3
  z3 := Tryz.sizeOf3
  v3 := Tryz.zeroValue3
  t4 := Tryz.underlying4
  a4 := Tryz.isAgg4
  z4 := Tryz.sizeOf4
  v4 := Tryz.zeroValue4
  t5 := Tryz.underlying5
  a5 := Tryz.isAgg5
  z5 := Tryz.sizeOf5
  v5 := Tryz.zeroValue5
  t9 := Tryz.underlying9
  a9 := Tryz.isAgg9
  z9 := Tryz.sizeOf9
  v9 := Tryz.zeroValue9
  t20 := Tryz.underlying20
  a20 := Tryz.isAgg20
  z20 := Tryz.sizeOf20
  v20 := Tryz.zeroValue20
  t37 := Tryz.underlying78
  a37 := Tryz.isAgg78
  z37 := Tryz.sizeOf78
  v37 := Tryz.zeroValue78
  t46 := Tryz.underlying81
  a46 := Tryz.isAgg81
  z46 := Tryz.sizeOf81
  v46 := Tryz.zeroValue81
  t51 := Tryz.underlying230
  a51 := Tryz.isAgg230
  z51 := Tryz.sizeOf230
  v51 := Tryz.zeroValue230
  t53 := Tryz.underlying232
  a53 := Tryz.isAgg232
  z53 := Tryz.sizeOf232
  v53 := Tryz.zeroValue232
  t171 := Tryz.underlying251
  a171 := Tryz.isAgg251
  z171 := Tryz.sizeOf251
  v171 := Tryz.zeroValue251
  t173 := Tryz.underlying253
  a173 := Tryz.isAgg253
  z173 := Tryz.sizeOf253
  v173 := Tryz.zeroValue253
  t212 := Tryz.underlying265
  a212 := Tryz.isAgg265
  z212 := Tryz.sizeOf265
  v212 := Tryz.zeroValue265
  t213 := Tryz.underlying266
  a213 := Tryz.isAgg266
  z213 := Tryz.sizeOf266
  t232 := Tryz.underlying271
  a232 := Tryz.isAgg271
  z232 := Tryz.sizeOf271
  v232 := Tryz.zeroValue271
  t233 := Tryz.underlying272
  a233 := Tryz.isAgg272
  z233 := Tryz.sizeOf272
  v233 := Tryz.zeroValue272
  g17 := by kernel_rfl
  g18 := by kernel_rfl
  g19 := by kernel_rfl }
open Go.RowKit Go.Sort Go.Lib in
/-- THE ROAD WITHOUT THE TABLE: 0 <= i < 100: two constants are read, nothing is laid: no premise on the world, and the world is as it was. (LAID: no walk: one application.) -/
theorem Tryz.internal_strconv_FormatInt_10_small (i : Nat) (hi : i < 100) (w : World) :
    Calls Tryz.prog 197 #[.int .i64 i, .int .i64 10] w fun e w' => e = .returned (.string ⟨(Lib.decDigits i).toArray⟩) ∧ w' = w := Any.internal_strconv_FormatInt_10_small Tryz.lays246 i hi w
def Tryz.laysM243_ren : Go.Shelf.Ren := ⟨fun | 243 => 173 | 246 => 197 | 283 => 217 | 284 => 218 | 285 => 219 | 286 => 220 | 129 => 193 | 317 => 227 | 318 => 228 | 319 => 229 | 320 => 230 | 337 => 234 | 338 => 235 | n => n, fun | 3 => 3 | 9 => 9 | 2 => 2 | 4 => 4 | 171 => 251 | 0 => 0 | 53 => 232 | 37 => 78 | 5 => 5 | 173 => 253 | 212 => 265 | 51 => 230 | 20 => 20 | 213 => 266 | 46 => 81 | 232 => 271 | 233 => 272 | n => n, fun | 17 => 3 | 18 => 4 | 19 => 5 | n => n⟩
theorem Tryz.laysM243 : Go.Proofs.LaysM.n243 Tryz.prog Tryz.laysM243_ren := {
  mixed := by kernel_rfl
  f129 := Tryz.func193.trans (congrArg some (by kernel_rfl))
  f243 := Tryz.func173.trans (congrArg some (by kernel_rfl))
  f246 := Tryz.func197.trans (congrArg some (by kernel_rfl))
  f283 := Tryz.func217.trans (congrArg some (by kernel_rfl))
  f284 := Tryz.func218.trans (congrArg some (by kernel_rfl))
  f285 := Tryz.func219.trans (congrArg some (by kernel_rfl))
  f286 := Tryz.func220.trans (congrArg some (by kernel_rfl))
  f317 := Tryz.func227.trans (congrArg some (by kernel_rfl))
  f318 := Tryz.func228.trans (congrArg some (by kernel_rfl))
  f319 := Tryz.func229.trans (congrArg some (by kernel_rfl))
  f320 := Tryz.func230.trans (congrArg some (by kernel_rfl))
  f337 := Tryz.func234.trans (congrArg some (by kernel_rfl))
  f338 := Tryz.func235.trans (congrArg some (by kernel_rfl))
  t0 := Tryz.underlying0
  a0 := Tryz.isAgg0
  z0 := Tryz.sizeOf0
  v0 := Tryz.zeroValue0
  t2 := Tryz.underlying2
  a2 := Tryz.isAgg2
  z2 := Tryz.sizeOf2
  v2 := Tryz.zeroValue2
  t3 := Tryz.underlying3
  a3 := Tryz.isAgg3
  z3 := Tryz.sizeOf3
  v3 := Tryz.zeroValue3
  t4 := Tryz.underlying4
  a4 := Tryz.isAgg4
  z4 := Tryz.sizeOf4
  v4 := Tryz.zeroValue4
  t5 := Tryz.underlying5
  a5 := Tryz.isAgg5
  z5 := Tryz.sizeOf5
  v5 := Tryz.zeroValue5
  t9 := Tryz.underlying9
  a9 := Tryz.isAgg9
  z9 := Tryz.sizeOf9
  v9 := Tryz.zeroValue9
  t20 := Tryz.underlying20
  a20 := Tryz.isAgg20
  z20 := Tryz.sizeOf20
  v20 := Tryz.zeroValue20
  t37 := Tryz.underlying78
  a37 := Tryz.isAgg78
  z37 := Tryz.sizeOf78
  v37 := Tryz.zeroValue78
  t46 := Tryz.underlying81
  a46 := Tryz.isAgg81
  z46 := Tryz.sizeOf81
  v46 := Tryz.zeroValue81
  t51 := Tryz.underlying230
  a51 := Tryz.isAgg230
  z51 := Tryz.sizeOf230
  v51 := Tryz.zeroValue230
  t53 := Tryz.underlying232
  a53 := Tryz.isAgg232
  z53 := Tryz.sizeOf232
  v53 := Tryz.zeroValue232
  t171 := Tryz.underlying251
  a171 := Tryz.isAgg251
  z171 := Tryz.sizeOf251
  v171 := Tryz.zeroValue251
  t173 := Tryz.underlying253
  a173 := Tryz.isAgg253
  z173 := Tryz.sizeOf253
  v173 := Tryz.zeroValue253
  t212 := Tryz.underlying265
  a212 := Tryz.isAgg265
  z212 := Tryz.sizeOf265
  v212 := Tryz.zeroValue265
  t213 := Tryz.underlying266
  a213 := Tryz.isAgg266
  z213 := Tryz.sizeOf266
  t232 := Tryz.underlying271
  a232 := Tryz.isAgg271
  z232 := Tryz.sizeOf271
  v232 := Tryz.zeroValue271
  t233 := Tryz.underlying272
  a233 := Tryz.isAgg272
  z233 := Tryz.sizeOf272
  v233 := Tryz.zeroValue272
  g17 := by kernel_rfl
  g18 := by kernel_rfl
  g19 := by kernel_rfl
  i0 := by kernel_rfl
  i2 := by kernel_rfl
  i3 := by kernel_rfl
  i4 := by kernel_rfl
  i5 := by kernel_rfl
  i9 := by kernel_rfl
  i20 := by kernel_rfl
  i37 := by kernel_rfl
  i46 := by kernel_rfl
  i51 := by kernel_rfl
  i53 := by kernel_rfl
  i171 := by kernel_rfl
  i173 := by kernel_rfl
  i212 := by kernel_rfl
  i232 := by kernel_rfl
  i233 := by kernel_rfl
  m17 := by kernel_rfl
  m18 := by kernel_rfl
  m19 := by kernel_rfl }
open Go.RowKit Go.Sort Go.Lib in
/-- internal/strconv.Itoa: "Itoa is equivalent to FormatInt(int64(i), 10).": i's decimal numeral, for every int. (LAID: no walk: one application.) -/
theorem Tryz.internal_strconv_Itoa (n : Int) (h0 : -9223372036854775808 ≤ n) (h1 : n ≤ 9223372036854775807) (w : World) (htab : Lib.TabIs Tryz.prog w "internal/strconv.uint64pow10" .u64 Lib.pow10Tab) :
    Calls Tryz.prog 173 #[.int .i64 n] w fun e w' => e = .returned (.string ⟨(Lib.itoa n).toArray⟩) ∧ ∃ k os, w' = grow (w.drewN k) os := Any.internal_strconv_Itoa Tryz.laysM243 n h0 h1 w htab
def Tryz.lays243_ren : Go.Shelf.Ren := ⟨fun | 243 => 173 | 246 => 197 | 283 => 217 | 284 => 218 | 285 => 219 | 286 => 220 | 129 => 193 | 317 => 227 | 318 => 228 | 319 => 229 | 320 => 230 | 337 => 234 | 338 => 235 | n => n, fun | 3 => 3 | 9 => 9 | 2 => 2 | 4 => 4 | 171 => 251 | 0 => 0 | 53 => 232 | 37 => 78 | 5 => 5 | 173 => 253 | 212 => 265 | 51 => 230 | 20 => 20 | 213 => 266 | 46 => 81 | 232 => 271 | 233 => 272 | n => n, fun | 17 => 3 | 18 => 4 | 19 => 5 | n => n⟩
theorem Tryz.lays243 : Go.Proofs.Lays.n243 Tryz.prog Tryz.lays243_ren := {
  mixed := by kernel_rfl
  f129 := Tryz.func193.trans (congrArg some (by kernel_rfl))
  f243 := Tryz.func173.trans (congrArg some (by kernel_rfl))
  f246 := Tryz.func197.trans (congrArg some (by kernel_rfl))
  f283 := Tryz.func217.trans (congrArg some (by kernel_rfl))
  f284 := Tryz.func218.trans (congrArg some (by kernel_rfl))
  f285 := Tryz.func219.trans (congrArg some (by kernel_rfl))
  f286 := Tryz.func220.trans (congrArg some (by kernel_rfl))
  f317 := Tryz.func227.trans (congrArg some (by kernel_rfl))
  f318 := Tryz.func228.trans (congrArg some (by kernel_rfl))
  f319 := Tryz.func229.trans (congrArg some (by kernel_rfl))
  f320 := Tryz.func230.trans (congrArg some (by kernel_rfl))
  f337 := Tryz.func234.trans (congrArg some (by kernel_rfl))
  f338 := Tryz.func235.trans (congrArg some (by kernel_rfl))
  t0 := Tryz.underlying0
  a0 := Tryz.isAgg0
  z0 := Tryz.sizeOf0
  v0 := Tryz.zeroValue0
  t2 := Tryz.underlying2
  a2 := Tryz.isAgg2
  z2 := Tryz.sizeOf2
  v2 := Tryz.zeroValue2
  t3 := Tryz.underlying3
  a3 := Tryz.isAgg3
  z3 := Tryz.sizeOf3
  v3 := Tryz.zeroValue3
  t4 := Tryz.underlying4
  a4 := Tryz.isAgg4
  z4 := Tryz.sizeOf4
  v4 := Tryz.zeroValue4
  t5 := Tryz.underlying5
  a5 := Tryz.isAgg5
  z5 := Tryz.sizeOf5
  v5 := Tryz.zeroValue5
  t9 := Tryz.underlying9
  a9 := Tryz.isAgg9
  z9 := Tryz.sizeOf9
  v9 := Tryz.zeroValue9
  t20 := Tryz.underlying20
  a20 := Tryz.isAgg20
  z20 := Tryz.sizeOf20
  v20 := Tryz.zeroValue20
  t37 := Tryz.underlying78
  a37 := Tryz.isAgg78
  z37 := Tryz.sizeOf78
  v37 := Tryz.zeroValue78
  t46 := Tryz.underlying81
  a46 := Tryz.isAgg81
  z46 := Tryz.sizeOf81
  v46 := Tryz.zeroValue81
  t51 := Tryz.underlying230
  a51 := Tryz.isAgg230
  z51 := Tryz.sizeOf230
  v51 := Tryz.zeroValue230
  t53 := Tryz.underlying232
  a53 := Tryz.isAgg232
  z53 := Tryz.sizeOf232
  v53 := Tryz.zeroValue232
  t171 := Tryz.underlying251
  a171 := Tryz.isAgg251
  z171 := Tryz.sizeOf251
  v171 := Tryz.zeroValue251
  t173 := Tryz.underlying253
  a173 := Tryz.isAgg253
  z173 := Tryz.sizeOf253
  v173 := Tryz.zeroValue253
  t212 := Tryz.underlying265
  a212 := Tryz.isAgg265
  z212 := Tryz.sizeOf265
  v212 := Tryz.zeroValue265
  t213 := Tryz.underlying266
  a213 := Tryz.isAgg266
  z213 := Tryz.sizeOf266
  t232 := Tryz.underlying271
  a232 := Tryz.isAgg271
  z232 := Tryz.sizeOf271
  v232 := Tryz.zeroValue271
  t233 := Tryz.underlying272
  a233 := Tryz.isAgg272
  z233 := Tryz.sizeOf272
  v233 := Tryz.zeroValue272
  g17 := by kernel_rfl
  g18 := by kernel_rfl
  g19 := by kernel_rfl }
open Go.RowKit Go.Sort Go.Lib in
/-- THE ROAD WITHOUT THE TABLE: 0 <= i < 100. (LAID: no walk: one application.) -/
theorem Tryz.internal_strconv_Itoa_small (i : Nat) (hi : i < 100) (w : World) :
    Calls Tryz.prog 173 #[.int .i64 i] w fun e w' => e = .returned (.string ⟨(Lib.decDigits i).toArray⟩) ∧ w' = w := Any.internal_strconv_Itoa_small Tryz.lays243 i hi w
def Tryz.laysM171_ren : Go.Shelf.Ren := ⟨fun | 171 => 130 | 243 => 173 | 246 => 197 | 283 => 217 | 284 => 218 | 285 => 219 | 286 => 220 | 129 => 193 | 317 => 227 | 318 => 228 | 319 => 229 | 320 => 230 | 337 => 234 | 338 => 235 | n => n, fun | 3 => 3 | 9 => 9 | 2 => 2 | 4 => 4 | 171 => 251 | 0 => 0 | 53 => 232 | 37 => 78 | 5 => 5 | 173 => 253 | 212 => 265 | 51 => 230 | 20 => 20 | 213 => 266 | 46 => 81 | 232 => 271 | 233 => 272 | n => n, fun | 17 => 3 | 18 => 4 | 19 => 5 | n => n⟩
theorem Tryz.laysM171 : Go.Proofs.LaysM.n171 Tryz.prog Tryz.laysM171_ren := {
  mixed := by kernel_rfl
  f129 := Tryz.func193.trans (congrArg some (by kernel_rfl))
  f171 := Tryz.func130.trans (congrArg some (by kernel_rfl))
  f243 := Tryz.func173.trans (congrArg some (by kernel_rfl))
  f246 := Tryz.func197.trans (congrArg some (by kernel_rfl))
  f283 := Tryz.func217.trans (congrArg some (by kernel_rfl))
  f284 := Tryz.func218.trans (congrArg some (by kernel_rfl))
  f285 := Tryz.func219.trans (congrArg some (by kernel_rfl))
  f286 := Tryz.func220.trans (congrArg some (by kernel_rfl))
  f317 := Tryz.func227.trans (congrArg some (by kernel_rfl))
  f318 := Tryz.func228.trans (congrArg some (by kernel_rfl))
  f319 := Tryz.func229.trans (congrArg some (by kernel_rfl))
  f320 := Tryz.func230.trans (congrArg some (by kernel_rfl))
  f337 := Tryz.func234.trans (congrArg some (by kernel_rfl))
  f338 := Tryz.func235.trans (congrArg some (by kernel_rfl))
  t0 := Tryz.underlying0
  a0 := Tryz.isAgg0
  z0 := Tryz.sizeOf0
  v0 := Tryz.zeroValue0
  t2 := Tryz.underlying2
  a2 := Tryz.isAgg2
  z2 := Tryz.sizeOf2
  v2 := Tryz.zeroValue2
  t3 := Tryz.underlying3
  a3 := Tryz.isAgg3
  z3 := Tryz.sizeOf3
  v3 := Tryz.zeroValue3
  t4 := Tryz.underlying4
  a4 := Tryz.isAgg4
  z4 := Tryz.sizeOf4
  v4 := Tryz.zeroValue4
  t5 := Tryz.underlying5
  a5 := Tryz.isAgg5
  z5 := Tryz.sizeOf5
  v5 := Tryz.zeroValue5
  t9 := Tryz.underlying9
  a9 := Tryz.isAgg9
  z9 := Tryz.sizeOf9
  v9 := Tryz.zeroValue9
  t20 := Tryz.underlying20
  a20 := Tryz.isAgg20
  z20 := Tryz.sizeOf20
  v20 := Tryz.zeroValue20
  t37 := Tryz.underlying78
  a37 := Tryz.isAgg78
  z37 := Tryz.sizeOf78
  v37 := Tryz.zeroValue78
  t46 := Tryz.underlying81
  a46 := Tryz.isAgg81
  z46 := Tryz.sizeOf81
  v46 := Tryz.zeroValue81
  t51 := Tryz.underlying230
  a51 := Tryz.isAgg230
  z51 := Tryz.sizeOf230
  v51 := Tryz.zeroValue230
  t53 := Tryz.underlying232
  a53 := Tryz.isAgg232
  z53 := Tryz.sizeOf232
  v53 := Tryz.zeroValue232
  t171 := Tryz.underlying251
  a171 := Tryz.isAgg251
  z171 := Tryz.sizeOf251
  v171 := Tryz.zeroValue251
  t173 := Tryz.underlying253
  a173 := Tryz.isAgg253
  z173 := Tryz.sizeOf253
  v173 := Tryz.zeroValue253
  t212 := Tryz.underlying265
  a212 := Tryz.isAgg265
  z212 := Tryz.sizeOf265
  v212 := Tryz.zeroValue265
  t213 := Tryz.underlying266
  a213 := Tryz.isAgg266
  z213 := Tryz.sizeOf266
  t232 := Tryz.underlying271
  a232 := Tryz.isAgg271
  z232 := Tryz.sizeOf271
  v232 := Tryz.zeroValue271
  t233 := Tryz.underlying272
  a233 := Tryz.isAgg272
  z233 := Tryz.sizeOf272
  v233 := Tryz.zeroValue272
  g17 := by kernel_rfl
  g18 := by kernel_rfl
  g19 := by kernel_rfl
  i0 := by kernel_rfl
  i2 := by kernel_rfl
  i3 := by kernel_rfl
  i4 := by kernel_rfl
  i5 := by kernel_rfl
  i9 := by kernel_rfl
  i20 := by kernel_rfl
  i37 := by kernel_rfl
  i46 := by kernel_rfl
  i51 := by kernel_rfl
  i53 := by kernel_rfl
  i171 := by kernel_rfl
  i173 := by kernel_rfl
  i212 := by kernel_rfl
  i232 := by kernel_rfl
  i233 := by kernel_rfl
  m17 := by kernel_rfl
  m18 := by kernel_rfl
  m19 := by kernel_rfl }
open Go.RowKit Go.Sort Go.Lib in
/-- strconv.Itoa: "Itoa is equivalent to FormatInt(int64(i), 10).": i's DECIMAL NUMERAL ('Lib.itoa': a '-' where i is negative, then the digits), FOR EVERY int. The world behind the call: the world before it, new blocks behind the heap (the library's 'var a [24]byte'), draws. (LAID: no walk: one application.) -/
theorem Tryz.strconv_Itoa (n : Int) (h0 : -9223372036854775808 ≤ n) (h1 : n ≤ 9223372036854775807) (w : World) (htab : Lib.TabIs Tryz.prog w "internal/strconv.uint64pow10" .u64 Lib.pow10Tab) :
    Calls Tryz.prog 130 #[.int .i64 n] w fun e w' => e = .returned (.string ⟨(Lib.itoa n).toArray⟩) ∧ ∃ k os, w' = grow (w.drewN k) os := Any.strconv_Itoa Tryz.laysM171 n h0 h1 w htab
def Tryz.lays171_ren : Go.Shelf.Ren := ⟨fun | 171 => 130 | 243 => 173 | 246 => 197 | 283 => 217 | 284 => 218 | 285 => 219 | 286 => 220 | 129 => 193 | 317 => 227 | 318 => 228 | 319 => 229 | 320 => 230 | 337 => 234 | 338 => 235 | n => n, fun | 3 => 3 | 9 => 9 | 2 => 2 | 4 => 4 | 171 => 251 | 0 => 0 | 53 => 232 | 37 => 78 | 5 => 5 | 173 => 253 | 212 => 265 | 51 => 230 | 20 => 20 | 213 => 266 | 46 => 81 | 232 => 271 | 233 => 272 | n => n, fun | 17 => 3 | 18 => 4 | 19 => 5 | n => n⟩
theorem Tryz.lays171 : Go.Proofs.Lays.n171 Tryz.prog Tryz.lays171_ren := {
  mixed := by kernel_rfl
  f129 := Tryz.func193.trans (congrArg some (by kernel_rfl))
  f171 := Tryz.func130.trans (congrArg some (by kernel_rfl))
  f243 := Tryz.func173.trans (congrArg some (by kernel_rfl))
  f246 := Tryz.func197.trans (congrArg some (by kernel_rfl))
  f283 := Tryz.func217.trans (congrArg some (by kernel_rfl))
  f284 := Tryz.func218.trans (congrArg some (by kernel_rfl))
  f285 := Tryz.func219.trans (congrArg some (by kernel_rfl))
  f286 := Tryz.func220.trans (congrArg some (by kernel_rfl))
  f317 := Tryz.func227.trans (congrArg some (by kernel_rfl))
  f318 := Tryz.func228.trans (congrArg some (by kernel_rfl))
  f319 := Tryz.func229.trans (congrArg some (by kernel_rfl))
  f320 := Tryz.func230.trans (congrArg some (by kernel_rfl))
  f337 := Tryz.func234.trans (congrArg some (by kernel_rfl))
  f338 := Tryz.func235.trans (congrArg some (by kernel_rfl))
  t0 := Tryz.underlying0
  a0 := Tryz.isAgg0
  z0 := Tryz.sizeOf0
  v0 := Tryz.zeroValue0
  t2 := Tryz.underlying2
  a2 := Tryz.isAgg2
  z2 := Tryz.sizeOf2
  v2 := Tryz.zeroValue2
  t3 := Tryz.underlying3
  a3 := Tryz.isAgg3
  z3 := Tryz.sizeOf3
  v3 := Tryz.zeroValue3
  t4 := Tryz.underlying4
  a4 := Tryz.isAgg4
  z4 := Tryz.sizeOf4
  v4 := Tryz.zeroValue4
  t5 := Tryz.underlying5
  a5 := Tryz.isAgg5
  z5 := Tryz.sizeOf5
  v5 := Tryz.zeroValue5
  t9 := Tryz.underlying9
  a9 := Tryz.isAgg9
  z9 := Tryz.sizeOf9
  v9 := Tryz.zeroValue9
  t20 := Tryz.underlying20
  a20 := Tryz.isAgg20
  z20 := Tryz.sizeOf20
  v20 := Tryz.zeroValue20
  t37 := Tryz.underlying78
  a37 := Tryz.isAgg78
  z37 := Tryz.sizeOf78
  v37 := Tryz.zeroValue78
  t46 := Tryz.underlying81
  a46 := Tryz.isAgg81
  z46 := Tryz.sizeOf81
  v46 := Tryz.zeroValue81
  t51 := Tryz.underlying230
  a51 := Tryz.isAgg230
  z51 := Tryz.sizeOf230
  v51 := Tryz.zeroValue230
  t53 := Tryz.underlying232
  a53 := Tryz.isAgg232
  z53 := Tryz.sizeOf232
  v53 := Tryz.zeroValue232
  t171 := Tryz.underlying251
  a171 := Tryz.isAgg251
  z171 := Tryz.sizeOf251
  v171 := Tryz.zeroValue251
  t173 := Tryz.underlying253
  a173 := Tryz.isAgg253
  z173 := Tryz.sizeOf253
  v173 := Tryz.zeroValue253
  t212 := Tryz.underlying265
  a212 := Tryz.isAgg265
  z212 := Tryz.sizeOf265
  v212 := Tryz.zeroValue265
  t213 := Tryz.underlying266
  a213 := Tryz.isAgg266
  z213 := Tryz.sizeOf266
  t232 := Tryz.underlying271
  a232 := Tryz.isAgg271
  z232 := Tryz.sizeOf271
  v232 := Tryz.zeroValue271
  t233 := Tryz.underlying272
  a233 := Tryz.isAgg272
  z233 := Tryz.sizeOf272
  v233 := Tryz.zeroValue272
  g17 := by kernel_rfl
  g18 := by kernel_rfl
  g19 := by kernel_rfl }
open Go.RowKit Go.Sort Go.Lib in
/-- THE ROAD WITHOUT THE TABLE: 0 <= i < 100: NO PREMISE ON THE WORLD, AND THE WORLD IS AS IT WAS: a row that keeps its argument in that range need list no table ('laid = []'). (LAID: no walk: one application.) -/
theorem Tryz.strconv_Itoa_small (i : Nat) (hi : i < 100) (w : World) :
    Calls Tryz.prog 130 #[.int .i64 i] w fun e w' => e = .returned (.string ⟨(Lib.decDigits i).toArray⟩) ∧ w' = w := Any.strconv_Itoa_small Tryz.lays171 i hi w
def Tryz.laysM316_ren : Go.Shelf.Ren := ⟨fun | 316 => 144 | n => n, fun | 9 => 9 | 3 => 3 | 4 => 4 | 37 => 78 | 0 => 0 | 127 => 218 | 5 => 5 | n => n, fun | n => n⟩
theorem Tryz.laysM316 : Go.Proofs.LaysM.n316 Tryz.prog Tryz.laysM316_ren := {
  mixed := by kernel_rfl
  f316 := Tryz.func144.trans (congrArg some (by kernel_rfl))
  t0 := Tryz.underlying0
  a0 := Tryz.isAgg0
  z0 := Tryz.sizeOf0
  v0 := Tryz.zeroValue0
  t3 := Tryz.underlying3
  a3 := Tryz.isAgg3
  z3 := Tryz.sizeOf3
  v3 := Tryz.zeroValue3
  t4 := Tryz.underlying4
  a4 := Tryz.isAgg4
  z4 := Tryz.sizeOf4
  v4 := Tryz.zeroValue4
  t9 := Tryz.underlying9
  a9 := Tryz.isAgg9
  z9 := Tryz.sizeOf9
  v9 := Tryz.zeroValue9
  t37 := Tryz.underlying78
  a37 := Tryz.isAgg78
  z37 := Tryz.sizeOf78
  v37 := Tryz.zeroValue78
  t127 := Tryz.underlying218
  a127 := Tryz.isAgg218
  z127 := Tryz.sizeOf218
  v127 := Tryz.zeroValue218
  t5 := Tryz.underlying5
  a5 := Tryz.isAgg5
  z5 := Tryz.sizeOf5
  v5 := Tryz.zeroValue5
  i0 := by kernel_rfl
  i3 := by kernel_rfl
  i4 := by kernel_rfl
  i5 := by kernel_rfl
  i9 := by kernel_rfl
  i37 := by kernel_rfl
  i127 := by kernel_rfl }
open Go.RowKit in
/-- internal/stringslite.Clone (what strings.Clone calls): "Clone returns a fresh copy of s.": THE SAME BYTES. Of what was there nothing has turned (a new row is laid, and frozen, where s is not empty). (LAID: no walk: one application.) -/
theorem Tryz.stringslite_Clone (s : ByteArray) (w : World) (hlim : s.size ≤ 281474976710656) :
    Calls Tryz.prog 144 #[.string s] w fun e w' => e = .returned (.string s) ∧ Below w.heap.size w w' := Any.stringslite_Clone Tryz.laysM316 s w hlim
def Tryz.laysC172_ren : Go.Shelf.Ren := ⟨fun | 172 => 143 | 244 => 181 | 245 => 182 | 247 => 206 | 279 => 207 | 280 => 208 | 281 => 209 | 282 => 210 | 287 => 224 | 316 => 144 | 171 => 130 | 205 => 225 | 321 => 232 | 322 => 233 | 243 => 173 | 246 => 197 | 283 => 217 | 284 => 218 | 285 => 219 | 286 => 220 | 129 => 193 | 317 => 227 | 318 => 228 | 319 => 229 | 320 => 230 | 337 => 234 | 338 => 235 | n => n, fun | 9 => 9 | 3 => 3 | 75 => 189 | 76 => 190 | 4 => 4 | 5 => 5 | 167 => 240 | 37 => 78 | 0 => 0 | 85 => 241 | 2 => 2 | 168 => 243 | 53 => 232 | 175 => 257 | 46 => 81 | 210 => 260 | 127 => 218 | 145 => 270 | 143 => 268 | 21 => 21 | 171 => 251 | 173 => 253 | 212 => 265 | 51 => 230 | 20 => 20 | 213 => 266 | 232 => 271 | 233 => 272 | 80 => 192 | n => n, fun | 15 => 1 | 16 => 2 | 17 => 3 | 18 => 4 | 19 => 5 | n => n⟩
theorem Tryz.laysC172 : Go.Proofs.LaysC.n172 Tryz.prog Tryz.laysC172_ren := {
  mixed := by kernel_rfl
  f129 := Tryz.func193.trans (congrArg some (by kernel_rfl))
  f171 := Tryz.func130.trans (congrArg some (by kernel_rfl))
  f172 := Tryz.func143.trans (congrArg some (by kernel_rfl))
  f205 := Tryz.func225.trans (congrArg some (by kernel_rfl))
  f243 := Tryz.func173.trans (congrArg some (by kernel_rfl))
  f244 := Tryz.func181.trans (congrArg some (by kernel_rfl))
  f245 := Tryz.func182.trans (congrArg some (by kernel_rfl))
  f246 := Tryz.func197.trans (congrArg some (by kernel_rfl))
  f247 := Tryz.func206.trans (congrArg some (by kernel_rfl))
  f279 := Tryz.func207.trans (congrArg some (by kernel_rfl))
  f280 := Tryz.func208.trans (congrArg some (by kernel_rfl))
  f281 := Tryz.func209.trans (congrArg some (by kernel_rfl))
  f282 := Tryz.func210.trans (congrArg some (by kernel_rfl))
  f283 := Tryz.func217.trans (congrArg some (by kernel_rfl))
  f284 := Tryz.func218.trans (congrArg some (by kernel_rfl))
  f285 := Tryz.func219.trans (congrArg some (by kernel_rfl))
  f286 := Tryz.func220.trans (congrArg some (by kernel_rfl))
  f287 := Tryz.func224.trans (congrArg some (by kernel_rfl))
  f316 := Tryz.func144.trans (congrArg some (by kernel_rfl))
  f317 := Tryz.func227.trans (congrArg some (by kernel_rfl))
  f318 := Tryz.func228.trans (congrArg some (by kernel_rfl))
  f319 := Tryz.func229.trans (congrArg some (by kernel_rfl))
  f320 := Tryz.func230.trans (congrArg some (by kernel_rfl))
  f321 := Tryz.func232.trans (congrArg some (by kernel_rfl))
  f322 := Tryz.func233.trans (congrArg some (by kernel_rfl))
  f337 := Tryz.func234.trans (congrArg some (by kernel_rfl))
  f338 := Tryz.func235.trans (congrArg some (by kernel_rfl))
  t0 := Tryz.underlying0
  a0 := Tryz.isAgg0
  z0 := Tryz.sizeOf0
  v0 := Tryz.zeroValue0
  t2 := Tryz.underlying2
  a2 := Tryz.isAgg2
  z2 := Tryz.sizeOf2
  v2 := Tryz.zeroValue2
  t3 := Tryz.underlying3
  a3 := Tryz.isAgg3
  z3 := Tryz.sizeOf3
  v3 := Tryz.zeroValue3
  t4 := Tryz.underlying4
  a4 := Tryz.isAgg4
  z4 := Tryz.sizeOf4
  v4 := Tryz.zeroValue4
  t5 := Tryz.underlying5
  a5 := Tryz.isAgg5
  z5 := Tryz.sizeOf5
  v5 := Tryz.zeroValue5
  t9 := Tryz.underlying9
  a9 := Tryz.isAgg9
  z9 := Tryz.sizeOf9
  v9 := Tryz.zeroValue9
  t20 := Tryz.underlying20
  a20 := Tryz.isAgg20
  z20 := Tryz.sizeOf20
  v20 := Tryz.zeroValue20
  t21 := Tryz.underlying21
  a21 := Tryz.isAgg21
  z21 := Tryz.sizeOf21
  v21 := Tryz.zeroValue21
  t37 := Tryz.underlying78
  a37 := Tryz.isAgg78
  z37 := Tryz.sizeOf78
  v37 := Tryz.zeroValue78
  t46 := Tryz.underlying81
  a46 := Tryz.isAgg81
  z46 := Tryz.sizeOf81
  v46 := Tryz.zeroValue81
  t51 := Tryz.underlying230
  a51 := Tryz.isAgg230
  z51 := Tryz.sizeOf230
  v51 := Tryz.zeroValue230
  t53 := Tryz.underlying232
  a53 := Tryz.isAgg232
  z53 := Tryz.sizeOf232
  v53 := Tryz.zeroValue232
  t75 := Tryz.underlying189
  a75 := Tryz.isAgg189
  z75 := Tryz.sizeOf189
  v75 := Tryz.zeroValue189
  t76 := Tryz.underlying190
  a76 := Tryz.isAgg190
  z76 := Tryz.sizeOf190
  v76 := Tryz.zeroValue190
  t85 := Tryz.underlying241
  a85 := Tryz.isAgg241
  z85 := Tryz.sizeOf241
  v85 := Tryz.zeroValue241
  t127 := Tryz.underlying218
  a127 := Tryz.isAgg218
  z127 := Tryz.sizeOf218
  v127 := Tryz.zeroValue218
  t143 := Tryz.underlying268
  a143 := Tryz.isAgg268
  z143 := Tryz.sizeOf268
  v143 := Tryz.zeroValue268
  t145 := Tryz.underlying270
  a145 := Tryz.isAgg270
  z145 := Tryz.sizeOf270
  v145 := Tryz.zeroValue270
  t167 := Tryz.underlying240
  a167 := Tryz.isAgg240
  z167 := Tryz.sizeOf240
  v167 := Tryz.zeroValue240
  t168 := Tryz.underlying243
  a168 := Tryz.isAgg243
  z168 := Tryz.sizeOf243
  v168 := Tryz.zeroValue243
  t171 := Tryz.underlying251
  a171 := Tryz.isAgg251
  z171 := Tryz.sizeOf251
  v171 := Tryz.zeroValue251
  t173 := Tryz.underlying253
  a173 := Tryz.isAgg253
  z173 := Tryz.sizeOf253
  v173 := Tryz.zeroValue253
  t175 := Tryz.underlying257
  a175 := Tryz.isAgg257
  z175 := Tryz.sizeOf257
  v175 := Tryz.zeroValue257
  t210 := Tryz.underlying260
  a210 := Tryz.isAgg260
  z210 := Tryz.sizeOf260
  v210 := Tryz.zeroValue260
  t212 := Tryz.underlying265
  a212 := Tryz.isAgg265
  z212 := Tryz.sizeOf265
  v212 := Tryz.zeroValue265
  t213 := Tryz.underlying266
  a213 := Tryz.isAgg266
  z213 := Tryz.sizeOf266
  t232 := Tryz.underlying271
  a232 := Tryz.isAgg271
  z232 := Tryz.sizeOf271
  v232 := Tryz.zeroValue271
  t233 := Tryz.underlying272
  a233 := Tryz.isAgg272
  z233 := Tryz.sizeOf272
  v233 := Tryz.zeroValue272
  g15 := by kernel_rfl
  g16 := by kernel_rfl
  g17 := by kernel_rfl
  g18 := by kernel_rfl
  g19 := by kernel_rfl
  t80 := Tryz.underlying192
  a80 := Tryz.isAgg192
  z80 := Tryz.sizeOf192
  v80 := Tryz.zeroValue192
  i0 := by kernel_rfl
  i2 := by kernel_rfl
  i3 := by kernel_rfl
  i4 := by kernel_rfl
  i5 := by kernel_rfl
  i9 := by kernel_rfl
  i20 := by kernel_rfl
  i21 := by kernel_rfl
  i37 := by kernel_rfl
  i46 := by kernel_rfl
  i51 := by kernel_rfl
  i53 := by kernel_rfl
  i75 := by kernel_rfl
  i76 := by kernel_rfl
  i80 := by kernel_rfl
  i85 := by kernel_rfl
  i127 := by kernel_rfl
  i143 := by kernel_rfl
  i145 := by kernel_rfl
  i167 := by kernel_rfl
  i168 := by kernel_rfl
  i171 := by kernel_rfl
  i173 := by kernel_rfl
  i175 := by kernel_rfl
  i210 := by kernel_rfl
  i212 := by kernel_rfl
  i232 := by kernel_rfl
  i233 := by kernel_rfl
  m15 := by kernel_rfl
  m16 := by kernel_rfl
  m17 := by kernel_rfl
  m18 := by kernel_rfl
  m19 := by kernel_rfl
  c0 := by kernel_rfl
  c2 := by kernel_rfl
  c3 := by kernel_rfl
  c4 := by kernel_rfl
  c5 := by kernel_rfl
  c9 := by kernel_rfl
  c20 := by kernel_rfl
  c21 := by kernel_rfl
  c37 := by kernel_rfl
  c46 := by kernel_rfl
  c51 := by kernel_rfl
  c53 := by kernel_rfl
  c75 := by kernel_rfl
  c76 := by kernel_rfl
  c80 := by kernel_rfl
  c85 := by kernel_rfl
  c127 := by kernel_rfl
  c143 := by kernel_rfl
  c145 := by kernel_rfl
  c167 := by kernel_rfl
  c168 := by kernel_rfl
  c171 := by kernel_rfl
  c173 := by kernel_rfl
  c175 := by kernel_rfl
  c210 := by kernel_rfl
  c212 := by kernel_rfl
  c213 := by kernel_rfl
  c232 := by kernel_rfl
  c233 := by kernel_rfl }
open Go.RowKit in
/-- strconv.Atoi, AT EVERY STRING THAT SPELLS AN int ('Lib.atoiAll .. = .ok v'; of whatever length: leading zeros count): v, AND NO ERROR. The world: as it was, or with the one new row that '[]byte(..)' lays. (LAID: no walk: one application.) -/
theorem Tryz.strconv_Atoi_ok (s : ByteArray) (hmax : s.size ≤ 9223372036854775806) (v : Int) (h : Lib.atoiAll s.data.toList = .ok v) (w : World) :
    Calls Tryz.prog 143 #[.string s] w fun e w' => e = .returned (.tuple #[.int .i64 v, .nilIface]) ∧ (w' = w ∨ ∃ t, w' = Lib.bytesWorld w 5 t) := Any.strconv_Atoi_ok Tryz.laysC172 s hmax v h w
open Go.RowKit in
/-- strconv.Atoi, AT EVERY STRING THAT IS NO DECIMAL NUMERAL ('.syntax'): 0, AND AN ERROR THAT IS NOT nil: a *NumError in a new block N: {Func: "Atoi", Num: s's bytes, Err: what the variable ErrSyntax holds}. Of what was there nothing has turned. (LAID: no walk: one application.) -/
theorem Tryz.strconv_Atoi_syntax (s : ByteArray) (hlim : s.size ≤ 281474976710656) (h : Lib.atoiAll s.data.toList = .«syntax») (ev : Value) (w : World) (hv : w.cell? ⟨1, 0, none⟩ = some ev) (hev : ev = .nilIface ∨ ∃ te pe, ev = .iface te pe) :
    Calls Tryz.prog 143 #[.string s] w fun e w' => ∃ N, e = .returned (.tuple #[.int .i64 (0), .iface 243 (.pointer (some ⟨N, 0, none⟩))]) ∧ w.heap.size ≤ N ∧ w'.heap[N]? = some (.cells #[.string ⟨#[65, 116, 111, 105]⟩, .string s, ev] 260 (0, 0)) ∧ Below w.heap.size w w' := Any.strconv_Atoi_syntax Tryz.laysC172 s hlim h ev w hv hev
open Go.RowKit in
/-- strconv.Atoi, AT EVERY NUMERAL THAT NO int HOLDS ('.range'): THE GREATEST OR THE LEAST int, BY THE SIGN ('Lib.atoiSat'), AND AN ERROR THAT IS NOT nil: a *NumError in a new block N: {Func: "Atoi", Num: s's bytes, Err: what the variable ErrRange holds}. Of what was there nothing has turned. (LAID: no walk: one application.) -/
theorem Tryz.strconv_Atoi_range (s : ByteArray) (hlim : s.size ≤ 281474976710656) (h : Lib.atoiAll s.data.toList = .range) (ev : Value) (w : World) (hv : w.cell? ⟨2, 0, none⟩ = some ev) (hev : ev = .nilIface ∨ ∃ te pe, ev = .iface te pe) :
    Calls Tryz.prog 143 #[.string s] w fun e w' => ∃ N, e = .returned (.tuple #[.int .i64 (Lib.atoiSat s.data.toList), .iface 243 (.pointer (some ⟨N, 0, none⟩))]) ∧ w.heap.size ≤ N ∧ w'.heap[N]? = some (.cells #[.string ⟨#[65, 116, 111, 105]⟩, .string s, ev] 260 (0, 0)) ∧ Below w.heap.size w w' := Any.strconv_Atoi_range Tryz.laysC172 s hlim h ev w hv hev
def Tryz.lays219_ren : Go.Shelf.Ren := ⟨fun | 219 => 179 | 217 => 148 | 225 => 202 | 224 => 203 | 267 => 204 | 266 => 194 | 314 => 223 | n => n, fun | 9 => 9 | 3 => 3 | 4 => 4 | 5 => 5 | 46 => 81 | 146 => 255 | 51 => 230 | n => n, fun | 1 => 0 | n => n⟩
theorem Tryz.lays219 : Go.Proofs.Lays.n219 Tryz.prog Tryz.lays219_ren := {
  mixed := by kernel_rfl
  f217 := Tryz.func148.trans (congrArg some (by kernel_rfl))
  f219 := Tryz.func179.trans (congrArg some (by kernel_rfl))
  f224 := Tryz.func203.trans (congrArg some (by kernel_rfl))
  f225 := Tryz.func202.trans (congrArg some (by kernel_rfl))
  f266 := Tryz.func194.trans (congrArg some (by kernel_rfl))
  f267 := Tryz.func204.trans (congrArg some (by kernel_rfl))
  f314 := Tryz.func223.trans (congrArg some (by kernel_rfl))
  t3 := Tryz.underlying3
  a3 := Tryz.isAgg3
  z3 := Tryz.sizeOf3
  v3 := Tryz.zeroValue3
  t4 := Tryz.underlying4
  a4 := Tryz.isAgg4
  z4 := Tryz.sizeOf4
  v4 := Tryz.zeroValue4
  t5 := Tryz.underlying5
  a5 := Tryz.isAgg5
  z5 := Tryz.sizeOf5
  v5 := Tryz.zeroValue5
  t9 := Tryz.underlying9
  a9 := Tryz.isAgg9
  z9 := Tryz.sizeOf9
  v9 := Tryz.zeroValue9
  t46 := Tryz.underlying81
  a46 := Tryz.isAgg81
  z46 := Tryz.sizeOf81
  v46 := Tryz.zeroValue81
  t51 := Tryz.underlying230
  a51 := Tryz.isAgg230
  z51 := Tryz.sizeOf230
  v51 := Tryz.zeroValue230
  t146 := Tryz.underlying255
  a146 := Tryz.isAgg255
  z146 := Tryz.sizeOf255
  v146 := Tryz.zeroValue255
  g1 := by kernel_rfl }
open Go.RowKit Go.Lib in
/-- internal/stringslite.Index (what strings.Index calls) AT A substr OF ONE BYTE c: IT RETURNS 'Lib.indexByte s c'; the world is as it was. (LAID: no walk: one application.) -/
theorem Tryz.stringslite_Index_one (s : ByteArray) (c : UInt8) (w : World) :
    Calls Tryz.prog 179 #[.string s, .string ⟨#[c]⟩] w fun e w' => e = .returned (.int .i64 (Lib.indexByte s.data.toList c)) ∧ w' = w := Any.stringslite_Index_one Tryz.lays219 s c w
open Go.RowKit Go.Lib in
/-- internal/stringslite.Index (what strings.Index calls) AT A substr OF WHATEVER LENGTH: IT RETURNS 'Lib.index s substr'; the world is as it was. 'm': what internal/bytealg.MaxLen holds: whatever. (LAID: no walk: one application.) -/
theorem Tryz.stringslite_Index (s sub : ByteArray) (m : Int) (w : World) (hs : s.size < 4294967281) (hm : w.cell? ⟨0, 0, none⟩ = some (.int .i64 m)) :
    Calls Tryz.prog 179 #[.string s, .string sub] w fun e w' => e = .returned (.int .i64 (Lib.index s.data.toList sub.data.toList)) ∧ w' = w := Any.stringslite_Index Tryz.lays219 s sub m w hs hm
end Go.Proofs.YtkgepklmhdjjnaaGreatDoor

/-
  DERIVED. The walk of plain.
-/
namespace Go.Proofs.YtkgepklmhdjjnaaGreatDoor
open Go.RowKit
set_option linter.unusedVariables false

set_option maxRecDepth 100000 in
theorem idx_facts : ∀ n, n < 256 → decide (0 ≤ Lib.indexByte [45, 46, 95, 126] (UInt8.ofNat n)) = markB (UInt8.ofNat n) := by decide
theorem idx_mark (c : UInt8) : decide (0 ≤ Lib.indexByte [45, 46, 95, 126] c) = markB c :=
  all_bytes (fun c => decide (0 ≤ Lib.indexByte [45, 46, 95, 126] c) = markB c) idx_facts c

theorem IndexByte_mark (c : UInt8) (w : World) :
    Calls Tryz.prog 90 #[.string ⟨#[45, 46, 95, 126]⟩, u8v c] w fun e w' => (∃ n : Int, e = .returned (.int .i64 n) ∧ decide (0 ≤ n) = markB c) ∧ w = w' := by
  refine (Tryz.strings_IndexByte ⟨#[45, 46, 95, 126]⟩ (c.toNat : Int) w).mono ?_
  rintro e w' ⟨rfl, rfl⟩
  refine ⟨⟨_, rfl, ?_⟩, rfl⟩
  have : ((c.toNat : Int).toNat.toUInt8) = c := by simp
  rw [this]
  exact idx_mark c

set_option maxHeartbeats 2000000 in
theorem plain_any (c : UInt8) (w : World) :
    Calls Tryz.prog 45 #[u8v c] w fun e w' => e = .returned (.bool (plainB c)) ∧ w = w' := by
  have hc := c.toNat_lt
  unfold plainB
  cases h1 : smallB c with
  | true =>
    have H1 := hide h1
    clear h1
    simp only [Bool.true_or]
    go_enter Tryz.func45, Tryz.ntmps45
    go_wp2_with (go_at_call 48; refine (small_any c _).mono ?_; rintro e w' ⟨rfl, rfl⟩; rw [unhide H1])
    go_ret
    exact ⟨rfl, rfl⟩
  | false =>
    have H1 := hide h1
    clear h1
    cases h2 : capB c with
    | true =>
      have a1 : (65 : Int) ≤ c.toNat := by unfold capB at h2; simp at h2; omega
      have a2 : (c.toNat : Int) ≤ 90 := by unfold capB at h2; simp at h2; omega
      clear h2
      simp only [Bool.false_or, Bool.true_or]
      go_enter Tryz.func45, Tryz.ntmps45
      go_wp2_with (go_at_call 48; refine (small_any c _).mono ?_; rintro e w' ⟨rfl, rfl⟩; rw [unhide H1])
      go_ret
      exact ⟨rfl, rfl⟩
    | false =>
      have a : ¬ (65 : Int) ≤ c.toNat ∨ ((65 : Int) ≤ c.toNat ∧ ¬ (c.toNat : Int) ≤ 90) := by unfold capB at h2; simp at h2; omega
      clear h2
      cases h3 : digitB c with
      | true =>
        have H3 := hide h3
        clear h3
        simp only [Bool.false_or, Bool.true_or]
        rcases a with a | ⟨a, a'⟩
        all_goals
          go_enter Tryz.func45, Tryz.ntmps45
          go_wp2_with (first | (go_at_call 48; refine (small_any c _).mono ?_; rintro e w' ⟨rfl, rfl⟩; rw [unhide H1]) | (go_at_call 49; refine (digit_any c _).mono ?_; rintro e w' ⟨rfl, rfl⟩; rw [unhide H3]))
          go_ret
          exact ⟨rfl, rfl⟩
      | false =>
        have H3 := hide h3
        clear h3
        simp only [Bool.false_or]
        have HQ : Hid (¬ (65 : Int) ≤ c.toNat ∨ ¬ (c.toNat : Int) ≤ 90) := hide (by omega)
        rcases a with a | ⟨a, a'⟩
        all_goals
          go_enter Tryz.func45, Tryz.ntmps45
          go_wp2_with (first | (go_at_call 48; refine (small_any c _).mono ?_; rintro e w' ⟨rfl, rfl⟩; rw [unhide H1]) | (go_at_call 49; refine (digit_any c _).mono ?_; rintro e w' ⟨rfl, rfl⟩; rw [unhide H3]) | (go_at_call 90; refine (IndexByte_mark c _).mono ?_; rintro e w' ⟨⟨n, rfl, hn⟩, rfl⟩; have HN := hide hn; clear hn))
          go_ret
          rw [← unhide HN]
          refine ⟨?_, rfl⟩
          first | rfl | (rw [show decide ((c.toNat : Int) ≤ 90) = false from decide_eq_false (by have := unhide HQ; omega)]; rfl)
end Go.Proofs.YtkgepklmhdjjnaaGreatDoor

/-
  DERIVED. The walks of Escape and Unescape.
-/
namespace Go.Proofs.YtkgepklmhdjjnaaGreatDoor
open Go.RowKit
set_option linter.unusedVariables false

theorem str_of {w : World} {v : Value} {l : List UInt8} (h : Sl w v l) : (convert 78 9 v).run Tryz.prog w = .ok (.string ⟨l.toArray⟩) w := by
  rcases h.cases with ⟨rfl, ao, rfl⟩ | ⟨b, off, cap, rfl, h1, h2, h3, hc⟩
  · cases ao with
    | none => exact run_convert_bytes_nil w 78 5 Tryz.underlying78 Tryz.underlying5 0 0 9 Tryz.underlying9
    | some a => exact run_convert_bytes_back w 78 9 5 a 0 [] Tryz.underlying78 Tryz.underlying5 Tryz.underlying9 (fun j hj => by simp at hj)
  · exact run_convert_bytes_back w 78 9 5 ⟨b, off, none⟩ cap l Tryz.underlying78 Tryz.underlying5 Tryz.underlying9 (fun j hj => by rw [addr_add]; exact hc j hj)

/-- make([]byte, 0, m) -/
theorem make_room (w : World) (m : Nat) (hm : m ≤ 140737488355328) : ∃ o, (Instr.makeSlice 78 (.int .i64 0) (.int .i64 (m : Int))).run Tryz.prog w = .ok (.slice (some ⟨w.heap.size, 0, none⟩) 0 m) (w.alloc o) ∧ Own (w.alloc o) w.heap.size (.slice (some ⟨w.heap.size, 0, none⟩) 0 m) [] := by
  obtain ⟨i, hi, hh⟩ := Option.map_eq_some_iff.1 Tryz.info5
  simp only [Prod.mk.injEq] at hh
  have h := run_make (P := Tryz.prog) w 78 5 i _ Tryz.underlying78 hi hh.1 .i64 .i64 0 m (by omega) (by omega) (by rw [hh.2.2]; omega) (by omega)
  rw [Int.toNat_natCast, hh.2.1, Nat.mul_one] at h
  refine ⟨_, h, ?_⟩
  refine ⟨rfl, .inr ⟨w.heap.size, m, madeCells (Value.int .u8 0).cells m, rfl, Nat.le_refl _, ?_, by simp, by unfold maxLen; omega, ?_, by simp⟩⟩
  · show (w.heap.push _)[w.heap.size]? = _
    simp
  · have := toList_madeCells_one (Value.int .u8 0) m
    have h2 := congrArg List.length this
    simp only [List.length_replicate, Array.length_toList] at h2
    rw [Nat.mul_one]
    exact h2

/-- A step of an append to a slice of one's own, in a region that draws. -/
theorem step_append_mine {ops : Array Oper} {o : Oper} {a : Act} {w : World} {K : Act → World → Prop} {Q : Exit → Act → World → Prop} {E : Prop}
    (hg : o.guard = none) (s x : Operand) (ho : o.op = .call { callee := .builtin .append, args := #[s, x], argTypes := #[78, 78] })
    (base : Nat) (v : Value) (l : List UInt8) (hs : a.eval s = v) (hown : Own w base v l)
    (ad : Addr) (n c : Nat) (m : List UInt8) (hx : a.eval x = .slice (some ad) n c) (hy : Sl w (.slice (some ad) n c) m) (hlen : l.length + m.length ≤ 140737488355328) (hbase : base ≤ w.heap.size)
    (hK : ∀ v' w', Own w' base v' (l ++ m) → Below base w w' → K (a.put o.dst v') w') :
    if Region.wanted o (yielded ops a.tmps) = true then Oper.wp Tryz.prog o a w K Q else E := by
  have hw : Region.wanted o (yielded ops a.tmps) = true := by simp [Region.wanted, hg]
  rw [if_pos hw]
  obtain ⟨i0, hi, hz0, hz1, hz2⟩ := info_parts Tryz.info5
  obtain ⟨ao, cap, e, h1, h2, h4⟩ := hy
  cases e
  have hnews : ∀ j u, (m.map bv)[j]? = some u → w.cell? (ad.add j) = some u := by
    intro j u hj
    rw [List.getElem?_map] at hj
    by_cases hjl : j < m.length
    · rw [List.getElem?_eq_getElem hjl] at hj
      simp only [Option.map_some, Option.some.injEq] at hj
      subst hj
      obtain ⟨b, off, e, _, hc⟩ := h4 (by omega)
      cases e
      rw [addr_add]; exact hc j hjl
    · rw [List.getElem?_eq_none (by omega)] at hj; cases hj
  obtain ⟨v', w', hrun, r1, r2, _⟩ := run_append_own (P := Tryz.prog) w base 78 o.type 5 i0 (.int .u8 0) 1 1 Tryz.underlying78 hi hz0 hz1 hz2 rfl (by decide) v l.length (l.map bv) hown ad m.length c (m.map bv) (by simp) hnews (bv_one m) (by unfold maxLen; omega) (by omega) hbase
  unfold Oper.wp
  simp [execOp, ho, resolve, invoke, builtin, hs, hx, hrun, Result.andThen]
  refine hK v' w' (by simpa [Own] using r1) ((Below.refl _ _).grown r2 hbase ?_)
  intro k hk
  rcases hown.2 with ⟨rfl, _⟩ | ⟨g, cap', cur, rfl, hb, _⟩
  · cases hk
  · simp only [Value.ownBlock, Option.some.injEq] at hk; omega

set_option maxRecDepth 100000 in
theorem and15_facts : ∀ n : Nat, n < 256 → bits BinOp.and IntKind.u8 (n : Int) 15 = ((n % 16 : Nat) : Int) := by decide
theorem and15 (d : UInt8) : bits BinOp.and IntKind.u8 (d.toNat : Int) 15 = ((d.toNat % 16 : Nat) : Int) := and15_facts d.toNat d.toNat_lt
theorem digit_at : ∀ v, v < 16 → ∀ hb : v < (⟨#[48, 49, 50, 51, 52, 53, 54, 55, 56, 57, 65, 66, 67, 68, 69, 70]⟩ : ByteArray).size, (⟨#[48, 49, 50, 51, 52, 53, 54, 55, 56, 57, 65, 66, 67, 68, 69, 70]⟩ : ByteArray)[v]'hb = hexD v := by decide

theorem esc_take {s : List UInt8} {k : Nat} {d : UInt8} (h : s[k]? = some d) : esc (s.take (k + 1)) = esc (s.take k) ++ escB d := by
  rw [List.take_add_one, h]; simp [esc]
theorem escB_plain {d : UInt8} (h : plainB d = true) : escB d = [d] := by simp [escB, h]
theorem escB_other {d : UInt8} (h : plainB d = false) : escB d = [37, hexD (d.toNat / 16), hexD (d.toNat % 16)] := by simp [escB, h]

set_option maxHeartbeats 2000000 in
theorem Escape_any (s : List UInt8) (w : World) (hs : 3 * s.length ≤ 140737488355328) :
    Calls Tryz.prog 15 #[sv s] w fun e w' => e = .returned (sv (esc s)) ∧ Below w.heap.size w w' := by
  obtain ⟨o, mk, own0⟩ := make_room w s.length (by omega)
  have hb0 : Below w.heap.size w (w.alloc o) := (Below.refl _ _).alloc (Nat.le_refl _) o
  have HO := hide own0
  have HB := hide hb0
  obtain ⟨w0, hw0⟩ : ∃ w0, w0 = w.alloc o := ⟨_, rfl⟩
  rw [← hw0] at mk HO HB
  clear own0 hb0 hw0
  go_enter Tryz.func15, Tryz.ntmps15
  go_wp2_with fail
  go_loopw [3, 4, 5, 11] (fun b _ _ i wr => ∃ k : Nat, k ≤ s.length ∧ i = .int .i64 k ∧ Hid (Own wr w.heap.size b (esc (s.take k))) ∧ Hid (Below w.heap.size w wr)) (fun _ _ _ i _ => s.length - (intOf i).toNat)
  case atStart => exact ⟨0, by omega, rfl, HO, HB⟩
  case round =>
    obtain ⟨k, hk, rfl, HO', HB'⟩ := hrel
    clear HO HB mk
    by_cases hlt : k < s.length
    · obtain ⟨d, hd⟩ : ∃ d, s[k]? = some d := ⟨_, List.getElem?_eq_getElem hlt⟩
      have hB := byte_at hd
      have HE := hide (esc_take hd)
      have hlen := esc_length (s.take k)
      rw [List.length_take, Nat.min_eq_left hk] at hlen
      have hdl := d.toNat_lt
      have hsz := (unhide HB').size
      clear hd
      cases hp : plainB d with
      | true =>
        have HP := hide hp
        have HE2 := hide ((unhide HE).trans (congrArg _ (escB_plain hp)))
        clear hp HE
        go_wp2_with (first | (go_at_call 45; refine (plain_any d _).mono ?_; rintro e w' ⟨rfl, rfl⟩; rw [unhide HP]) | (at_builtin; refine wpList_append_mine rfl (.tmp 19) (.tmp 21) rfl w.heap.size _ (esc (s.take k)) rfl ?own _ [d] rfl ?sl ?hl ?hb ?_; (case own => exact World.ownsRow.alloc (unhide HO') _); (case sl => exact Sl.new wr [d] (by simp [maxLen]) (0, 0)); (case hl => simp; omega); (case hb => simp; omega); intro v' w1 own1 b1; have HO1 := hide own1; have HB1 := hide (((unhide HB').alloc (unhide HB').size _).trans b1); clear own1 b1))
        go_roundw
        case rel => exact ⟨k + 1, by omega, by go_num, by rw [unhide HE2]; exact HO1, HB1⟩
        case measure => simp [intOf]; omega
      | false =>
        have HP := hide hp
        have HE2 := hide ((unhide HE).trans (congrArg _ (escB_other hp)))
        clear hp HE
        go_upto_region 8 with (go_at_call 45; refine (plain_any d _).mono ?_; rintro e w' ⟨rfl, rfl⟩; rw [unhide HP])
        obtain ⟨hi, hhi⟩ : ∃ hi, hi = d.toNat / 16 := ⟨_, rfl⟩
        obtain ⟨lo, hlo⟩ : ∃ lo, lo = d.toNat % 16 := ⟨_, rfl⟩
        have q1 : (d.toNat : Int) / 16 = (hi : Int) := by omega
        have q2 : bits BinOp.and IntKind.u8 (d.toNat : Int) 15 = (lo : Int) := by rw [and15, hlo]
        have q3 : hi < 16 := by omega
        have q4 : lo < 16 := by omega
        rw [← hhi, ← hlo] at HE2
        clear hhi hlo
        have q3' : (hi : Int) < 16 := by omega
        have q4' : (lo : Int) < 16 := by omega
        have q5 := digit_at hi q3
        have q6 := digit_at lo q4
        go_region_law (first | (refine step_append_mine rfl (.tmp 23) (.tmp 30) rfl w.heap.size _ (esc (s.take k)) rfl ?own _ _ _ [37, hexD hi, hexD lo] rfl ?sl ?hl ?hb ?_; (case own => exact World.ownsRow.alloc (unhide HO') _); (case sl => exact Sl.drew (Sl.new wr [37, hexD hi, hexD lo] (by simp [maxLen]) (0, 0))); (case hl => simp; omega); (case hb => simp; omega); intro v' w1 own1 b1; have HO1 := hide own1; have HB1 := hide ((((unhide HB').alloc (unhide HB').size _).drew).trans b1); clear own1 b1))
        all_goals
          go_wp2
          go_roundw
          case rel => exact ⟨k + 1, by omega, by go_num, by rw [unhide HE2]; exact HO1, HB1⟩
          case measure => simp [intOf]; omega
    · have HF : Hid (s.take k = s) := hide (List.take_of_length_le (by omega))
      rw [unhide HF] at HO'
      have cv := str_of (unhide HO').sl
      go_wp2_with fail
      go_ret
      exact ⟨rfl, unhide HB'⟩
end Go.Proofs.YtkgepklmhdjjnaaGreatDoor

/-
  DERIVED. The walk of Unescape.
-/
namespace Go.Proofs.YtkgepklmhdjjnaaGreatDoor
open Go.RowKit
set_option linter.unusedVariables false

theorem drop_at {s : List UInt8} {k : Nat} {d : UInt8} (h : s[k]? = some d) : s.drop k = d :: s.drop (k + 1) := by
  obtain ⟨h1, h2⟩ := List.getElem?_eq_some_iff.1 h
  rw [← h2]; exact List.drop_eq_getElem_cons h1

theorem hexV_lt {c : UInt8} {x : Nat} (h : hexV c = some x) : x < 16 := by
  unfold hexV at h
  split at h
  · rename_i hd
    have := digitB_iff.1 hd
    have := Option.some.inj h
    omega
  · split at h
    · have := Option.some.inj h; omega
    · split at h
      · have := Option.some.inj h; omega
      · cases h

theorem unesc_37 {a b : UInt8} {t : List UInt8} {d : UInt8} (hd : d.toNat = 37) : unesc (d :: a :: b :: t) = match hexV a, hexV b with
    | some x, some y => (unesc t).map (UInt8.ofNat (16 * x + y) :: ·)
    | _, _ => none := by
  rw [unesc, if_pos hd]
  cases hexV a <;> cases hexV b <;> rfl
theorem unesc_cut {t : List UInt8} {d : UInt8} (hd : d.toNat = 37) (ht : t.length < 2) : unesc (d :: t) = none := by
  rcases t with _ | ⟨a, _ | ⟨b, t⟩⟩
  · simp [unesc, hd]
  · simp [unesc, hd]
  · simp at ht; omega
theorem unesc_bad {t : List UInt8} {d : UInt8} (hd : d.toNat ≠ 37) (hp : plainB d = false) : unesc (d :: t) = none := by
  rcases t with _ | ⟨a, _ | ⟨b, t⟩⟩ <;> simp [unesc, hd, hp]

set_option maxRecDepth 100000 in
theorem or_facts : ∀ x : Nat, x < 16 → ∀ y : Nat, y < 16 → bits BinOp.or IntKind.u8 ((x : Int) * 16) (y : Int) = ((16 * x + y : Nat) : Int) := by decide

/-- The answer. -/
abbrev unA (r : Option (List UInt8)) : Value := .tuple #[sv (r.getD []), .bool r.isSome]

theorem plain_37 {d : UInt8} (h : d.toNat = 37) : plainB d = false := by
  cases hp : plainB d with
  | false => rfl
  | true => exact absurd h (plain_ne hp)

set_option maxHeartbeats 4000000 in
theorem Unescape_any (s : List UInt8) (w : World) (hs : s.length ≤ 140737488355328) :
    Calls Tryz.prog 13 #[sv s] w fun e w' => e = .returned (unA (unesc s)) ∧ Below w.heap.size w w' := by
  obtain ⟨o, mk, own0⟩ := make_room w s.length (by omega)
  have hb0 : Below w.heap.size w (w.alloc o) := (Below.refl _ _).alloc (Nat.le_refl _) o
  have HO := hide own0
  have HB := hide hb0
  obtain ⟨w0, hw0⟩ : ∃ w0, w0 = w.alloc o := ⟨_, rfl⟩
  rw [← hw0] at mk HO HB
  clear own0 hb0 hw0
  go_enter Tryz.func13, Tryz.ntmps13
  go_wp2_with fail
  go_loopw [4, 5, 6, 7, 8, 9, 10] (fun b i _ _ _ _ _ wr => ∃ (k : Nat) (out : List UInt8), k ≤ s.length ∧ out.length ≤ k ∧ i = .int .i64 k ∧ Hid (Own wr w.heap.size b out) ∧ Hid (Below w.heap.size w wr) ∧ Hid (unesc s = (unesc (s.drop k)).map (out ++ ·))) (fun _ i _ _ _ _ _ _ => s.length - (intOf i).toNat)
  case atStart => exact ⟨0, [], by omega, by simp, rfl, HO, HB, hide (by simp)⟩
  case round =>
    obtain ⟨k, out, hk, hol, rfl, HO', HB', HU⟩ := hrel
    clear HO HB mk
    by_cases hlt : k < s.length
    · obtain ⟨d, hd⟩ : ∃ d, s[k]? = some d := ⟨_, List.getElem?_eq_getElem hlt⟩
      have hB := byte_at hd
      have HD := hide (drop_at hd)
      have hsz := (unhide HB').size
      clear hd
      by_cases h37 : d.toNat = 37
      · have a37 : ((d.toNat : Int) == 37) = true := by simp; omega
        by_cases h2 : k + 2 < s.length
        · have a2 : (k : Int) + 2 < s.length := by omega
          obtain ⟨a, ha⟩ : ∃ a, s[k + 1]? = some a := ⟨_, List.getElem?_eq_getElem (by omega)⟩
          obtain ⟨b, hb⟩ : ∃ b, s[k + 2]? = some b := ⟨_, List.getElem?_eq_getElem h2⟩
          have hBa := byte_at ha
          have hBb := byte_at hb
          have HD3 : Hid (s.drop k = d :: a :: b :: s.drop (k + 3)) := hide (by rw [unhide HD, drop_at ha, drop_at hb])
          clear ha hb
          cases hx : hexV a with
          | none =>
            have HF : Hid (unesc s = none) := hide (by rw [unhide HU, unhide HD3, unesc_37 h37, hx]; rfl)
            have HX := hide hx
            rcases Option.eq_none_or_eq_some (hexV b) with hy | ⟨y, hy⟩
            · have HY := hide hy
              clear hx hy h37
              go_wp2_with (go_at_call 44; first | ((with_reducible refine (hex_no a (unhide HX) _).mono ?_); rintro e w' ⟨rfl, rfl⟩) | ((with_reducible refine (hex_no b (unhide HY) _).mono ?_); rintro e w' ⟨rfl, rfl⟩))
              go_ret2
              rw [unhide HF]
              exact ⟨rfl, unhide HB'⟩
            · have HY := hide hy
              clear hx hy h37
              go_wp2_with (go_at_call 44; first | ((with_reducible refine (hex_no a (unhide HX) _).mono ?_); rintro e w' ⟨rfl, rfl⟩) | ((with_reducible refine (hex_ok b y (unhide HY) _).mono ?_); rintro e w' ⟨rfl, rfl⟩))
              go_ret2
              rw [unhide HF]
              exact ⟨rfl, unhide HB'⟩
          | some x =>
            have HX := hide hx
            have hx16 := hexV_lt hx
            rcases Option.eq_none_or_eq_some (hexV b) with hy | ⟨y, hy⟩
            · have HF : Hid (unesc s = none) := hide (by rw [unhide HU, unhide HD3, unesc_37 h37, hx, hy]; rfl)
              have HY := hide hy
              clear hx hy h37
              go_wp2_with (go_at_call 44; first | ((with_reducible refine (hex_ok a x (unhide HX) _).mono ?_); rintro e w' ⟨rfl, rfl⟩) | ((with_reducible refine (hex_no b (unhide HY) _).mono ?_); rintro e w' ⟨rfl, rfl⟩))
              go_ret2
              rw [unhide HF]
              exact ⟨rfl, unhide HB'⟩
            · have HY := hide hy
              have hy16 := hexV_lt hy
              obtain ⟨q, hq⟩ : ∃ q, q = UInt8.ofNat (16 * x + y) := ⟨_, rfl⟩
              have hqv : (q.toNat : Int) = 16 * x + y := by rw [hq]; simp; omega
              have HF : Hid (unesc s = (unesc (s.drop (k + 3))).map (out ++ [q] ++ ·)) := hide (by
                rw [unhide HU, unhide HD3, unesc_37 h37]
                simp only [hx, hy]
                rw [← hq]
                cases unesc (s.drop (k + 3)) <;> simp)
              have Hor : Hid (bits BinOp.or IntKind.u8 ((x : Int) * 16) (y : Int) = (q.toNat : Int)) := hide (by rw [or_facts x hx16 y hy16, hqv]; omega)
              clear hx hy h37 hq hqv
              go_upto_region 15 with (go_at_call 44; first | ((with_reducible refine (hex_ok a x (unhide HX) _).mono ?_); rintro e w' ⟨rfl, rfl⟩) | ((with_reducible refine (hex_ok b y (unhide HY) _).mono ?_); rintro e w' ⟨rfl, rfl⟩))
              rw [unhide Hor]
              go_wp2_with (at_builtin; refine wpList_append_mine rfl (.tmp 63) (.tmp 65) rfl w.heap.size _ out rfl ?own _ [q] rfl ?sl ?hl ?hb ?_; (case own => exact World.ownsRow.alloc (unhide HO') _); (case sl => exact Sl.new wr [q] (by simp [maxLen]) (0, 0)); (case hl => simp; omega); (case hb => simp; omega); intro v' w1 own1 b1; have HO1 := hide own1; have HB1 := hide (((unhide HB').alloc (unhide HB').size _).trans b1); clear own1 b1)
              go_roundw
              case rel => exact ⟨k + 3, out ++ [q], by omega, by simp; omega, by go_num, HO1, HB1, HF⟩
              case measure => simp [intOf]; omega
        · have HF : Hid (unesc s = none) := hide (by rw [unhide HU, unhide HD, unesc_cut h37 (by simp; omega)]; rfl)
          have HP := hide (plain_37 h37)
          have a2 : ¬ (k : Int) + 2 < s.length := by omega
          clear h37
          go_wp2_with (go_at_call 45; refine (plain_any d _).mono ?_; rintro e w' ⟨rfl, rfl⟩; rw [unhide HP])
          go_ret2
          rw [unhide HF]
          exact ⟨rfl, unhide HB'⟩
      · have a37 : ((d.toNat : Int) == 37) = false := by simp; omega
        cases hp : plainB d with
        | true =>
          have HF : Hid (unesc s = (unesc (s.drop (k + 1))).map (out ++ [d] ++ ·)) := hide (by
            rw [unhide HU, unhide HD, unesc_plain hp]
            cases unesc (s.drop (k + 1)) <;> simp)
          have HP := hide hp
          clear h37 hp
          go_upto_region 15 with (go_at_call 45; refine (plain_any d _).mono ?_; rintro e w' ⟨rfl, rfl⟩; rw [unhide HP])
          go_wp2_with (at_builtin; refine wpList_append_mine rfl (.tmp 63) (.tmp 65) rfl w.heap.size _ out rfl ?own _ [d] rfl ?sl ?hl ?hb ?_; (case own => exact World.ownsRow.alloc (unhide HO') _); (case sl => exact Sl.new wr [d] (by simp [maxLen]) (0, 0)); (case hl => simp; omega); (case hb => simp; omega); intro v' w1 own1 b1; have HO1 := hide own1; have HB1 := hide (((unhide HB').alloc (unhide HB').size _).trans b1); clear own1 b1)
          go_roundw
          case rel => exact ⟨k + 1, out ++ [d], by omega, by simp; omega, by go_num, HO1, HB1, HF⟩
          case measure => simp [intOf]; omega
        | false =>
          have HF : Hid (unesc s = none) := hide (by rw [unhide HU, unhide HD, unesc_bad h37 hp]; rfl)
          have HP := hide hp
          clear h37 hp
          go_wp2_with (go_at_call 45; refine (plain_any d _).mono ?_; rintro e w' ⟨rfl, rfl⟩; rw [unhide HP])
          go_ret2
          rw [unhide HF]
          exact ⟨rfl, unhide HB'⟩
    · have HF : Hid (unesc s = some out) := hide (by rw [unhide HU, List.drop_of_length_le (by omega)]; simp [unesc])
      have cv := str_of (unhide HO').sl
      go_wp2_with fail
      go_ret2
      rw [unhide HF]
      exact ⟨rfl, unhide HB'⟩
end Go.Proofs.YtkgepklmhdjjnaaGreatDoor

/-
  DERIVED. Fields, mayBe, Check.
-/
namespace Go.Proofs.YtkgepklmhdjjnaaGreatDoor
open Go.RowKit
set_option linter.unusedVariables false

/-- A field. -/
structure Fld where
  name : List UInt8
  text : Bool
  n : Int
  s : List UInt8
deriving DecidableEq

abbrev fv (f : Fld) : Array Value := #[sv f.name, .bool f.text, .int .i64 f.n, sv f.s]

/-- A slice of fields that reads as these. -/
def FdL (w : World) (v : Value) (fs : List Fld) : Prop :=
  ∃ ao cap, v = .slice ao fs.length cap ∧ fs.length ≤ cap ∧ cap ≤ 9223372036854775807 ∧
    (fs.length ≠ 0 → ∃ b off, ao = some ⟨b, off, none⟩ ∧ b < w.heap.size ∧ ∀ i, (h : i < fs.length) →
      w.cell? ⟨b, off + i * 4, none⟩ = some (sv fs[i].name) ∧ w.cell? ⟨b, off + i * 4 + 1, none⟩ = some (.bool fs[i].text) ∧ w.cell? ⟨b, off + i * 4 + 2, none⟩ = some (.int .i64 fs[i].n) ∧ w.cell? ⟨b, off + i * 4 + 3, none⟩ = some (sv fs[i].s))

theorem FdL.below {B : Nat} {w w' : World} {v : Value} {fs : List Fld} (h : FdL w v fs) (hb : Below B w w') (hB : w.heap.size ≤ B) : FdL w' v fs := by
  obtain ⟨ao, cap, rfl, h1, h2, h4⟩ := h
  refine ⟨ao, cap, rfl, h1, h2, fun hz => ?_⟩
  obtain ⟨b, off, e, hlt, hc⟩ := h4 hz
  refine ⟨b, off, e, by have := hb.size; omega, fun i hi => ?_⟩
  obtain ⟨c0, c1, c2, c3⟩ := hc i hi
  exact ⟨(hb.cell (p := ⟨b, off + i * 4, none⟩) (by show b < B; omega)).trans c0, (hb.cell (p := ⟨b, off + i * 4 + 1, none⟩) (by show b < B; omega)).trans c1, (hb.cell (p := ⟨b, off + i * 4 + 2, none⟩) (by show b < B; omega)).trans c2, (hb.cell (p := ⟨b, off + i * 4 + 3, none⟩) (by show b < B; omega)).trans c3⟩

/-- Fields whose texts are lengths of this machine, and whose numbers are ints. -/
def fits (f : Fld) : Prop := f.name.length ≤ 9223372036854775807 ∧ f.s.length ≤ 9223372036854775807 ∧ -9223372036854775808 ≤ f.n ∧ f.n ≤ 9223372036854775807

/-- A value is of its kind. -/
def valB (f : Fld) : Bool := if f.text then f.n == 0 && decide (f.s.length ≤ 200) else f.s.isEmpty
/-- What a field may not be. -/
def mayF (f : Fld) : Int := if nameB f.name then (if valB f then 0 else 122) else 121

theorem mayF_name {f : Fld} (h : nameB f.name = false) : mayF f = 121 := by simp [mayF, h]
theorem mayF_val {f : Fld} (h : nameB f.name = true) (h2 : valB f = false) : mayF f = 122 := by simp [mayF, h, h2]
theorem mayF_ok {f : Fld} (h : nameB f.name = true) (h2 : valB f = true) : mayF f = 0 := by simp [mayF, h, h2]

set_option maxHeartbeats 2000000 in
theorem mayBe_any (f : Fld) (w : World) (hf : fits f) :
    Calls Tryz.prog 137 #[.agg (fv f)] w fun e w' => e = .returned (.int .i64 (mayF f)) ∧ Below w.heap.size w w' := by
  obtain ⟨name, text, n, s⟩ := f
  obtain ⟨f1, f2, f3, f4⟩ := hf
  simp only at f1 f2 f3 f4
  have HB := hide ((Below.refl w.heap.size w).alloc (Nat.le_refl _) (.cells (fv ⟨name, text, n, s⟩) 33))
  cases hn : nameB name with
  | false =>
    have HN := hide hn
    have HA := hide (mayF_name (f := ⟨name, text, n, s⟩) hn)
    clear hn
    go_enter Tryz.func137, Tryz.ntmps137
    go_wp2_with (go_at_call 17; refine (Name_any name _ f1).mono ?_; rintro e w' ⟨rfl, rfl⟩; rw [unhide HN])
    go_ret
    rw [unhide HA]
    exact ⟨rfl, unhide HB⟩
  | true =>
    have HN := hide hn
    cases text with
    | true =>
      by_cases h3 : n = 0
      · subst h3
        by_cases h2 : s.length ≤ 200
        · have HA := hide (mayF_ok (f := ⟨name, true, 0, s⟩) hn (by simp [valB, h2]))
          have hd : (s.length : Int) ≤ 200 := by omega
          clear hn
          go_enter Tryz.func137, Tryz.ntmps137
          go_wp2_with (go_at_call 17; refine (Name_any name _ f1).mono ?_; rintro e w' ⟨rfl, rfl⟩; rw [unhide HN])
          go_ret
          rw [unhide HA]
          exact ⟨rfl, unhide HB⟩
        · have HA := hide (mayF_val (f := ⟨name, true, 0, s⟩) hn (by simp [valB, h2]))
          have hd : (200 : Int) < s.length := by omega
          clear hn
          go_enter Tryz.func137, Tryz.ntmps137
          go_wp2_with (go_at_call 17; refine (Name_any name _ f1).mono ?_; rintro e w' ⟨rfl, rfl⟩; rw [unhide HN])
          go_ret
          rw [unhide HA]
          exact ⟨rfl, unhide HB⟩
      · have HA := hide (mayF_val (f := ⟨name, true, n, s⟩) hn (by simp [valB, h3]))
        have h3' : (n != 0) = true := by simp [h3]
        clear hn h3
        go_enter Tryz.func137, Tryz.ntmps137
        go_wp2_with (go_at_call 17; refine (Name_any name _ f1).mono ?_; rintro e w' ⟨rfl, rfl⟩; rw [unhide HN])
        go_ret
        rw [unhide HA]
        exact ⟨rfl, unhide HB⟩
    | false =>
      by_cases h3 : s = []
      · subst h3
        have HA := hide (mayF_ok (f := ⟨name, false, n, []⟩) hn rfl)
        clear hn
        go_enter Tryz.func137, Tryz.ntmps137
        go_wp2_with (go_at_call 17; refine (Name_any name _ f1).mono ?_; rintro e w' ⟨rfl, rfl⟩; rw [unhide HN])
        go_ret
        rw [unhide HA]
        exact ⟨rfl, unhide HB⟩
      · have HA := hide (mayF_val (f := ⟨name, false, n, s⟩) hn (by simp [valB, h3]))
        have h3' : (s != []) = true := by simp [h3]
        have h4' : s.isEmpty = false := by simp [h3]
        clear hn h3
        go_enter Tryz.func137, Tryz.ntmps137
        go_wp2_with (go_at_call 17; refine (Name_any name _ f1).mono ?_; rintro e w' ⟨rfl, rfl⟩; rw [unhide HN])
        go_ret
        rw [unhide HA]
        exact ⟨rfl, unhide HB⟩
end Go.Proofs.YtkgepklmhdjjnaaGreatDoor

/-
  DERIVED. The walk of Check.
-/
namespace Go.Proofs.YtkgepklmhdjjnaaGreatDoor
open Go.RowKit
set_option linter.unusedVariables false

def chkL (p : List UInt8) : List Fld → Int
  | [] => 0
  | f :: r => if mayF f ≠ 0 then mayF f else if f.name ≤ p then 123 else chkL f.name r
/-- What Check answers. -/
def checkF (fs : List Fld) : Int := if 16 < fs.length then 120 else chkL [] fs

theorem drop_fld {s : List Fld} {k : Nat} {d : Fld} (h : s[k]? = some d) : s.drop k = d :: s.drop (k + 1) := by
  obtain ⟨h1, h2⟩ := List.getElem?_eq_some_iff.1 h
  rw [← h2]; exact List.drop_eq_getElem_cons h1

theorem str_le (a p : List UInt8) : (Op.bytesLess a p || a == p) = decide (a ≤ p) := by
  rw [Go.Proofs.bytesLess_eq]
  rcases List.le_iff_lt_or_eq.1 (show p ≤ p from List.le_refl p) with h | h
  · exact absurd h (List.lt_irrefl p)
  · by_cases hlt : a < p
    · simp [hlt, List.le_of_lt hlt]
    · by_cases he : a = p
      · subst he; simp
      · have : ¬ a ≤ p := fun hle => (List.le_iff_lt_or_eq.1 hle).elim hlt he
        simp [hlt, he, this]

theorem bel_box {w wr w4 : World} {o : Obj} (h : Below w.heap.size w wr) (h4 : Below (wr.alloc o).heap.size (wr.alloc o) w4) : Below w.heap.size w w4 :=
  (h.alloc h.size o).trans (h4.mono (by have := h.size; simp; omega))

set_option maxHeartbeats 4000000 in
theorem Check_any (a : Option Addr) (n c : Nat) (fs : List Fld) (w : World) (hv : FdL w (.slice a n c) fs) (hfit : ∀ f ∈ fs, fits f) :
    Calls Tryz.prog 80 #[.slice a n c] w fun e w' => e = .returned (.int .i64 (checkF fs)) ∧ Below w.heap.size w w' := by
  obtain ⟨ao, cap, e, g1, g2, g4⟩ := id hv
  cases e
  by_cases h16 : 16 < fs.length
  · have HA : Hid (checkF fs = 120) := hide (by simp [checkF, h16])
    have h16' : (16 : Int) < fs.length := by omega
    clear g4 hv hfit
    go_enter Tryz.func80, Tryz.ntmps80
    go_wp2_with fail
    go_ret
    rw [unhide HA]
    exact ⟨rfl, Below.refl _ _⟩
  · have HA : Hid (checkF fs = chkL [] fs) := hide (by simp [checkF, h16])
    obtain ⟨N, hN⟩ : ∃ N, N = fs.length := ⟨_, rfl⟩
    have HN := hide hN
    have H4 := hide g4
    have HFit := hide hfit
    rw [← hN] at g1 h16 ⊢
    have h16' : (N : Int) ≤ 16 := by omega
    clear g4 hN hv hfit
    rw [unhide HA]
    go_enter Tryz.func80, Tryz.ntmps80
    go_wp2_with fail
    go_loopw [3, 5, 6, 12] (fun p _ _ i wr => ∃ (k : Nat) (pn : List UInt8), k ≤ N ∧ p = sv pn ∧ i = .int .i64 k ∧ Hid (chkL [] fs = chkL pn (fs.drop k)) ∧ Hid (Below w.heap.size w wr)) (fun _ _ _ i _ => N - (intOf i).toNat)
    case atStart => exact ⟨0, [], by omega, rfl, rfl, hide (by simp), hide (Below.refl _ _)⟩
    case round =>
      obtain ⟨k, pn, hk, rfl, rfl, HC, HB⟩ := hrel
      by_cases hlt : k < N
      · have hkl : k < fs.length := by have := unhide HN; omega
        obtain ⟨b, off, rfl, hb, hc⟩ := unhide H4 (by omega)
        obtain ⟨c0, c1, c2, c3⟩ := hc k hkl
        obtain ⟨f, hf⟩ : ∃ f, f = fs[k] := ⟨_, rfl⟩
        rw [← hf] at c0 c1 c2 c3
        have d0 := ((unhide HB).cell (p := ⟨b, off + k * 4, none⟩) hb).trans c0
        have d1 := ((unhide HB).cell (p := ⟨b, off + k * 4 + 1, none⟩) hb).trans c1
        have d2 := ((unhide HB).cell (p := ⟨b, off + k * 4 + 2, none⟩) hb).trans c2
        have d3 := ((unhide HB).cell (p := ⟨b, off + k * 4 + 3, none⟩) hb).trans c3
        have HF : Hid (fs.drop k = f :: fs.drop (k + 1)) := hide (drop_fld (by rw [hf]; exact List.getElem?_eq_getElem hkl))
        have HFf := hide (unhide HFit f (by rw [hf]; exact List.getElem_mem hkl))
        have hsz := (unhide HB).size
        clear hf hc c0 c1 c2 c3
        obtain ⟨fn, ft, fi, fss⟩ := f
        simp only at d0 d1 d2 d3
        obtain ⟨M, hM⟩ : ∃ M, M = mayF ⟨fn, ft, fi, fss⟩ := ⟨_, rfl⟩
        have HM := hide hM
        by_cases hm : M = 0
        · by_cases hle : fn ≤ pn
          · have HR : Hid (chkL [] fs = 123) := hide (by rw [unhide HC, unhide HF, chkL, if_neg (by rw [← hM]; simpa using hm), if_pos hle])
            have hq : (Op.bytesLess fn pn || fn == pn) = true := by rw [str_le]; exact decide_eq_true hle
            have hm' : (M != 0) = false := by simp [hm]
            clear hM hm hle
            go_wp2_with (go_at_call 137; refine (mayBe_any ⟨fn, ft, fi, fss⟩ _ (unhide HFf)).mono ?_; rintro e w' ⟨rfl, b4⟩; rw [← unhide HM]; have n4 := b4.cell (p := ⟨wr.heap.size, 0, none⟩) (by simp); simp at n4; have HB4 := hide b4; clear b4)
            go_ret
            rw [unhide HR]
            exact ⟨rfl, bel_box (unhide HB) (unhide HB4)⟩
          · have HR : Hid (chkL [] fs = chkL fn (fs.drop (k + 1))) := hide (by rw [unhide HC, unhide HF, chkL, if_neg (by rw [← hM]; simpa using hm), if_neg hle])
            have hq : (Op.bytesLess fn pn || fn == pn) = false := by rw [str_le]; exact decide_eq_false hle
            have hm' : (M != 0) = false := by simp [hm]
            clear hM hm hle
            go_wp2_with (go_at_call 137; refine (mayBe_any ⟨fn, ft, fi, fss⟩ _ (unhide HFf)).mono ?_; rintro e w' ⟨rfl, b4⟩; rw [← unhide HM]; have n4 := b4.cell (p := ⟨wr.heap.size, 0, none⟩) (by simp); simp at n4; have HB4 := hide b4; clear b4)
            go_roundw
            case rel => exact ⟨k + 1, fn, by omega, rfl, by go_num, HR, hide (bel_box (unhide HB) (unhide HB4))⟩
            case measure => simp [intOf]; omega
        · have HR : Hid (chkL [] fs = M) := hide (by rw [unhide HC, unhide HF, chkL, if_pos (by rw [← hM]; simpa using hm), hM])
          have hm' : (M != 0) = true := by simp [hm]
          clear hM hm
          go_wp2_with (go_at_call 137; refine (mayBe_any ⟨fn, ft, fi, fss⟩ _ (unhide HFf)).mono ?_; rintro e w' ⟨rfl, b4⟩; rw [← unhide HM]; have n4 := b4.cell (p := ⟨wr.heap.size, 0, none⟩) (by simp); simp at n4; have HB4 := hide b4; clear b4)
          go_ret
          rw [unhide HR]
          exact ⟨rfl, bel_box (unhide HB) (unhide HB4)⟩
      · have HR : Hid (chkL [] fs = 0) := hide (by rw [unhide HC, List.drop_of_length_le (by have := unhide HN; omega)]; rfl)
        go_wp2_with fail
        go_ret
        rw [unhide HR]
        exact ⟨rfl, unhide HB⟩
end Go.Proofs.YtkgepklmhdjjnaaGreatDoor
