/-
  DERIVED. No device: the walks of the device's functions on a nil pointer.
-/
import Derived.Test.YtfoanlmmjbclgaaProg
import Derived.WalkKit
import Derived.ProofKit
import Derived.WalkLawsBesides
import Derived.KernelRfl
import Derived.ArgAppend
import Derived.Laws.AppendOwnNone
import Derived.Laws.BytesString
import Derived.Laws.IdiomStrings
import Derived.Laws.BytesArg
import Derived.Below
import Derived.Laws.Rows
import Derived.Laws.MakeOwn
import Derived.WideMake
import Derived.Deep.MidRow
import Derived.Maps.OwnSet
import Derived.Maps.AppendAt
import Derived.Deep.RegionHeld3
import Derived.Deep.AppendLies
import Derived.Deep.WholeRow
import Derived.Laws.CopyRow
import Derived.Outline
import Derived.Shelf.SlIterI.Nil
import Derived.Shelf.SortM.Plain
import Derived.Shelf.SortM.SortNone
import Derived.Ground.GgzProg
import Derived.Ground.SlgmProg
import Derived.Maps.RangeWalk
namespace Go.Proofs.Ytfoanlmmjbclgaa
open Go.RowKit
set_option linter.unusedVariables false

theorem up_nil (w : World) : Calls Try.prog 38 #[.pointer none] w fun e w' => e = .returned (.int .i64 1) ∧ w = w' := by
  go_enter Try.func38, Try.ntmps38
  go_wp2
  go_ret
  exact ⟨rfl, rfl⟩
theorem open_nil (n : Int) (w : World) : Calls Try.prog 32 #[.pointer none, .int .i64 n] w fun e w' => e = .returned (.int .i64 1) ∧ w = w' := by
  go_enter Try.func32, Try.ntmps32
  go_wp2_with (go_at_call 38; refine (up_nil _).mono ?_; rintro e w' ⟨rfl, rfl⟩)
  go_ret
  exact ⟨rfl, rfl⟩
theorem Read_nil (n : Int) (w : World) : Calls Try.prog 15 #[.pointer none, .int .i64 n] w fun e w' => e = .returned (.tuple #[.slice none 0 0, .int .i64 1]) ∧ w = w' := by
  go_enter Try.func15, Try.ntmps15
  go_wp2_with (go_at_call 32; refine (open_nil _ _).mono ?_; rintro e w' ⟨rfl, rfl⟩)
  go_ret2
  exact ⟨rfl, rfl⟩
theorem Write_nil (n : Int) (v : Value) (w : World) : Calls Try.prog 13 #[.pointer none, .int .i64 n, v] w fun e w' => e = .returned (.int .i64 1) ∧ w = w' := by
  go_enter Try.func13, Try.ntmps13
  go_wp2_with (go_at_call 32; refine (open_nil _ _).mono ?_; rintro e w' ⟨rfl, rfl⟩)
  go_ret
  exact ⟨rfl, rfl⟩
theorem Flush_nil (w : World) : Calls Try.prog 22 #[.pointer none] w fun e w' => e = .returned (.int .i64 1) ∧ w = w' := by
  go_enter Try.func22, Try.ntmps22
  go_wp2_with (go_at_call 38; refine (up_nil _).mono ?_; rintro e w' ⟨rfl, rfl⟩)
  go_ret
  exact ⟨rfl, rfl⟩
theorem Fuse_nil (n : Int) (w : World) : Calls Try.prog 24 #[.pointer none, .int .i64 n] w fun e w' => e = .returned (.int .i64 1) ∧ w = w' := by
  go_enter Try.func24, Try.ntmps24
  go_wp2_with (go_at_call 38; refine (up_nil _).mono ?_; rintro e w' ⟨rfl, rfl⟩)
  go_ret
  exact ⟨rfl, rfl⟩
theorem Blocks_nil (w : World) : Calls Try.prog 17 #[.pointer none] w fun e w' => e = .returned (.int .i64 0) ∧ w = w' := by
  go_enter Try.func17, Try.ntmps17
  go_wp2
  go_ret
  exact ⟨rfl, rfl⟩
theorem Down_nil (w : World) : Calls Try.prog 28 #[.pointer none] w fun e w' => e = .returned (.bool false) ∧ w = w' := by
  go_enter Try.func28, Try.ntmps28
  go_wp2
  go_ret
  exact ⟨rfl, rfl⟩
theorem Ops_nil (w : World) : Calls Try.prog 29 #[.pointer none] w fun e w' => e = .returned (.int .i64 0) ∧ w = w' := by
  go_enter Try.func29, Try.ntmps29
  go_wp2
  go_ret
  exact ⟨rfl, rfl⟩
theorem Pending_nil (w : World) : Calls Try.prog 16 #[.pointer none] w fun e w' => e = .returned (.slice none 0 0) ∧ w = w' := by
  go_enter Try.func16, Try.ntmps16
  go_wp2
  go_ret
  exact ⟨rfl, rfl⟩
theorem Copy_nil (w : World) : Calls Try.prog 7 #[.pointer none] w fun e w' => e = .returned (.pointer none) ∧ w = w' := by
  go_enter Try.func7, Try.ntmps7
  go_wp2
  go_ret
  exact ⟨rfl, rfl⟩
theorem Crash_nil (v : Value) (w : World) : Calls Try.prog 11 #[.pointer none, v] w fun e w' => e = .returned (.tuple #[]) ∧ w = w' := by
  go_enter Try.func11, Try.ntmps11
  go_wp2
  (try simp only [Exit.inBlock, Exit.then])
  refine bodyPost_ret (results_none rfl _ _ _) rfl ?_
  exact ⟨rfl, rfl⟩
end Go.Proofs.Ytfoanlmmjbclgaa

/-
  DERIVED. The plain mathematics: numbers in groups of seven bits, the checksum. Nothing of the program.
-/
namespace Go.Proofs.Ytfoanlmmjbclgaa

/-! ### A number in groups of seven bits -/

def layF : Nat → Nat → List UInt8
  | 0, n => [UInt8.ofNat n]
  | f + 1, n => if n < 128 then [UInt8.ofNat n] else UInt8.ofNat (128 + n % 128) :: layF f (n / 128)

/-- The bytes of a number: P1.1. -/
def lay (n : Nat) : List UInt8 := layF 9 n

theorem layF_enough : ∀ (f g n : Nat), n < 128 ^ (f + 1) → n < 128 ^ (g + 1) → layF f n = layF g n
  | 0, 0, n, _, _ => rfl
  | 0, g + 1, n, h, _ => by simp only [layF]; rw [if_pos (by omega)]
  | f + 1, 0, n, _, h => by simp only [layF]; rw [if_pos (by omega)]
  | f + 1, g + 1, n, hf, hg => by
    simp only [layF]
    by_cases h : n < 128
    · rw [if_pos h, if_pos h]
    · rw [if_neg h, if_neg h, layF_enough f g (n / 128) (by rw [Nat.pow_succ] at hf; omega) (by rw [Nat.pow_succ] at hg; omega)]

theorem lay_small {n : Nat} (h : n < 128) : lay n = [UInt8.ofNat n] := by simp [lay, layF, h]
theorem lay_big {n : Nat} (h : 128 ≤ n) (h2 : n < 18446744073709551616) : lay n = UInt8.ofNat (128 + n % 128) :: lay (n / 128) := by
  show layF 9 n = _ :: layF 9 (n / 128)
  rw [layF_enough 9 8 (n / 128) (by omega) (by omega)]
  simp only [layF]
  rw [if_neg (by omega)]

theorem layF_len : ∀ (f n : Nat), 1 ≤ (layF f n).length ∧ (layF f n).length ≤ f + 1
  | 0, n => by simp [layF]
  | f + 1, n => by
    simp only [layF]
    split
    · simp
    · have := layF_len f (n / 128); simp; omega
theorem lay_len (n : Nat) : 1 ≤ (lay n).length ∧ (lay n).length ≤ 10 := layF_len 9 n
/-- What Uint reads, from its i-th byte on: the number, how many bytes, the error: P1.1. -/
def rdGo : Nat → Nat → List UInt8 → Nat × Nat × Nat
  | i, _, [] => if i < 10 then (0, 0, 10) else (0, 0, 11)
  | i, acc, c :: r =>
    if 10 ≤ i then (0, 0, 11)
    else if 128 ≤ c.toNat then rdGo (i + 1) (acc + c.toNat % 128 * 2 ^ (7 * i)) r
    else if (0 < i ∧ c.toNat = 0) ∨ (i = 9 ∧ 1 < c.toNat) then (0, 0, 11)
    else (acc + c.toNat * 2 ^ (7 * i), i + 1, 0)
def rd (l : List UInt8) : Nat × Nat × Nat := rdGo 0 0 l

/-- The number that an integer is laid as: P1.2. -/
def zig (n : Int) : Nat := if n < 0 then (-2 * n - 1).toNat else (2 * n).toNat


/-! ### The checksum -/
/-- One step on a register. -/
def stp (r : Nat) : Nat := if r % 2 = 1 then (r / 2) ^^^ 2197175160 else r / 2
def stp8 (r : Nat) : Nat := stp (stp (stp (stp (stp (stp (stp (stp r)))))))
def rAt : Nat → Nat
  | 0 => 2197175160
  | j + 1 => stp (rAt j)
def tabA : Nat → List Nat
  | 0 => List.replicate 256 0
  | j + 1 => (tabA j).set (128 / 2 ^ j) (rAt j)
def lowb (i : Nat) : Nat := i &&& (256 - i)
def tabB : Nat → List Nat
  | 0 => tabA 8
  | k + 1 => (tabB k).set (k + 1) ((tabB k).getD (lowb (k + 1)) 0 ^^^ (tabB k).getD ((k + 1) ^^^ lowb (k + 1)) 0)
def crcTab : List Nat := tabB 255
theorem crcTab_eq : crcTab = (List.range 256).map stp8 := by decide +kernel
def crcR (r : Nat) (l : List UInt8) : Nat := l.foldl (fun r c => (r / 256) ^^^ crcTab.getD ((r % 256) ^^^ c.toNat) 0) r
/-- CRC-32C: P1.4. -/
def crc (l : List UInt8) : Nat := crcR 4294967295 l ^^^ 4294967295

theorem tabA_len : ∀ j, (tabA j).length = 256
  | 0 => List.length_replicate
  | j + 1 => by simp [tabA, tabA_len j]
theorem tabB_len : ∀ j, (tabB j).length = 256
  | 0 => tabA_len 8
  | j + 1 => by simp [tabB, tabB_len j]

theorem xor_lt32 {a b : Nat} (ha : a < 4294967296) (hb : b < 4294967296) : a ^^^ b < 4294967296 := Nat.xor_lt_two_pow (n := 32) ha hb
theorem stp_lt {r : Nat} (h : r < 4294967296) : stp r < 4294967296 := by
  unfold stp; split
  · exact xor_lt32 (by omega) (by omega)
  · omega
theorem rAt_lt : ∀ j, rAt j < 4294967296
  | 0 => by decide
  | j + 1 => stp_lt (rAt_lt j)
theorem set_lt {l : List Nat} {i x : Nat} (h : ∀ k, l.getD k 0 < 4294967296) (hx : x < 4294967296) : ∀ k, (l.set i x).getD k 0 < 4294967296 := by
  intro k
  have hk := h k
  simp only [List.getD_eq_getElem?_getD, List.getElem?_set] at hk ⊢
  split
  · split
    · simpa using hx
    · simp
  · exact hk
theorem tabA_lt : ∀ j k, (tabA j).getD k 0 < 4294967296
  | 0 => by
    intro k
    show (List.replicate 256 0).getD k 0 < _
    rw [List.getD_eq_getElem?_getD, List.getElem?_replicate]
    split <;> simp
  | j + 1 => set_lt (tabA_lt j) (rAt_lt j)
theorem tabB_lt : ∀ j k, (tabB j).getD k 0 < 4294967296
  | 0 => tabA_lt 8
  | j + 1 => set_lt (tabB_lt j) (xor_lt32 (tabB_lt j _) (tabB_lt j _))
theorem crcTab_lt (k : Nat) : crcTab.getD k 0 < 4294967296 := tabB_lt 255 k
theorem crcR_lt : ∀ (l : List UInt8) (r : Nat), r < 4294967296 → crcR r l < 4294967296
  | [], r, h => h
  | c :: l, r, h => crcR_lt l _ (xor_lt32 (by omega) (crcTab_lt _))
theorem crc_lt (l : List UInt8) : crc l < 4294967296 := xor_lt32 (crcR_lt l _ (by decide)) (by decide)
theorem crc_123 : crc [49, 50, 51, 52, 53, 54, 55, 56, 57] = 3808858755 := by decide +kernel

/-! ### Four bytes, texts, frames -/
def le4 (n : Nat) : List UInt8 := [UInt8.ofNat n, UInt8.ofNat (n / 256), UInt8.ofNat (n / 65536), UInt8.ofNat (n / 16777216)]
def rd4 : List UInt8 → Nat
  | a :: b :: c :: d :: _ => a.toNat + 256 * b.toNat + 65536 * c.toNat + 16777216 * d.toNat
  | _ => 0
/-- The error of a piece: a number, and so many bytes. -/
def pcE (l : List UInt8) (most : Int) : Nat :=
  if (rd l).2.2 ≠ 0 then (rd l).2.2 else if most < 0 ∨ most < (rd l).1 then 12 else if l.length - (rd l).2.1 < (rd l).1 then 10 else 0
def pcK (l : List UInt8) (most : Int) : Nat := if pcE l most = 0 then (rd l).2.1 + (rd l).1 else 0
def pcD (l : List UInt8) (most : Int) : List UInt8 := if pcE l most = 0 then (l.drop (rd l).2.1).take (rd l).1 else []

theorem rdGo_facts : ∀ (l : List UInt8) (i acc : Nat), i ≤ 10 → acc < 2 ^ (7 * i) →
    (rdGo i acc l).1 < 18446744073709551616 ∧ ((rdGo i acc l).2.2 = 0 ∨ (rdGo i acc l).2.2 = 10 ∨ (rdGo i acc l).2.2 = 11) ∧ ((rdGo i acc l).2.2 ≠ 0 → (rdGo i acc l).1 = 0 ∧ (rdGo i acc l).2.1 = 0) ∧ ((rdGo i acc l).2.2 = 0 → i + 1 ≤ (rdGo i acc l).2.1 ∧ (rdGo i acc l).2.1 ≤ i + l.length ∧ (rdGo i acc l).2.1 ≤ 10)
  | [], i, acc, hi, ha => by
    rw [rdGo]; split <;> simp
  | c :: r, i, acc, hi, ha => by
    have hc := c.toNat_lt
    rw [rdGo]
    split
    · simp
    · split
      · have hm : c.toNat % 128 < 128 := Nat.mod_lt _ (by decide)
        have e : 2 ^ (7 * (i + 1)) = 128 * 2 ^ (7 * i) := by rw [Nat.mul_add, Nat.pow_add]; omega
        have h2 : c.toNat % 128 * 2 ^ (7 * i) ≤ 127 * 2 ^ (7 * i) := Nat.mul_le_mul_right _ (by omega)
        obtain ⟨a, b, d, f⟩ := rdGo_facts r (i + 1) (acc + c.toNat % 128 * 2 ^ (7 * i)) (by omega) (by omega)
        refine ⟨a, b, d, fun h => ?_⟩
        have := f h
        simp only [List.length_cons]
        omega
      · split
        · simp
        · rename_i h1 h2 h3
          have hp : 2 ^ (7 * i) ≤ 2 ^ 63 := Nat.pow_le_pow_right (by decide) (by omega)
          have hb : acc + c.toNat * 2 ^ (7 * i) < 18446744073709551616 := by
            by_cases h9 : i = 9
            · have : c.toNat * 2 ^ (7 * i) ≤ 1 * 2 ^ 63 := Nat.mul_le_mul (by omega) hp
              omega
            · have hp : 2 ^ (7 * i) ≤ 2 ^ 56 := Nat.pow_le_pow_right (by decide) (by omega)
              have : c.toNat * 2 ^ (7 * i) ≤ 127 * 2 ^ 56 := Nat.mul_le_mul (by omega) hp
              omega
          refine ⟨hb, by simp, by simp, fun _ => ?_⟩
          simp only [List.length_cons]
          omega
theorem rd_facts (l : List UInt8) : (rd l).1 < 18446744073709551616 ∧ ((rd l).2.2 = 0 ∨ (rd l).2.2 = 10 ∨ (rd l).2.2 = 11) ∧ ((rd l).2.2 ≠ 0 → (rd l).1 = 0 ∧ (rd l).2.1 = 0) ∧ ((rd l).2.2 = 0 → 1 ≤ (rd l).2.1 ∧ (rd l).2.1 ≤ l.length ∧ (rd l).2.1 ≤ 10) := by
  have := rdGo_facts l 0 0 (by omega) (by decide)
  simpa [rd] using this

/-- What Frame reads: the error; how many bytes; the kind; the data: P1.5. -/
def frE (l : List UInt8) : Nat :=
  if l.length < 5 then 10 else if pcE (l.drop 5) 2000 ≠ 0 then pcE (l.drop 5) 2000
  else if rd4 l ≠ crc ((l.drop 4).take (1 + pcK (l.drop 5) 2000)) then 11 else 0
def frK (l : List UInt8) : Nat := if frE l = 0 then 5 + pcK (l.drop 5) 2000 else 0
def frKind (l : List UInt8) : UInt8 := if frE l = 0 then l.getD 4 0 else 0
def frD (l : List UInt8) : List UInt8 := if frE l = 0 then pcD (l.drop 5) 2000 else []
/-- A frame's bytes: P1.5. -/
def frBody (kind : UInt8) (d : List UInt8) : List UInt8 := kind :: lay d.length ++ d
def frLay (kind : UInt8) (d : List UInt8) : List UInt8 := le4 (crc (frBody kind d)) ++ frBody kind d

/-- The integer that a number stands for: P1.2. -/
def unz (n : Nat) : Int := if n % 2 = 1 then -(n / 2 : Nat) - 1 else (n / 2 : Nat)
def rdI (l : List UInt8) : Int := if (rd l).2.2 = 0 then unz (rd l).1 else 0
end Go.Proofs.Ytfoanlmmjbclgaa

/-
  DERIVED. Words shared by all walks of this seat: bytes as cells, slices that are read, slices that are grown.
-/
namespace Go.Proofs.Ytfoanlmmjbclgaa
open Go.RowKit

theorem hide {p : Prop} (h : p) : Hid p := h
theorem unhide {p : Prop} (h : Hid p) : p := h.out

/-- A byte as a cell. -/
abbrev bv (c : UInt8) : Value := .int .u8 (c.toNat : Int)

/-- A slice value that reads as these bytes. (Where it has no room nothing is known of its address.) -/
def Sl (w : World) (v : Value) (l : List UInt8) : Prop :=
  ∃ ao cap, v = .slice ao l.length cap ∧ l.length ≤ cap ∧ cap ≤ maxLen ∧
    (cap ≠ 0 → ∃ b off, ao = some ⟨b, off, none⟩ ∧ b < w.heap.size ∧ ∀ i, (h : i < l.length) → w.cell? ⟨b, off + i, none⟩ = some (bv l[i]))

theorem Try.info5 : (Try.prog.info? 5).map (fun i => (i.zero, i.size, i.bytes)) = some (some (.int .u8 0), 1, 1) := by kernel_rfl

/-- A slice that a call made for itself. -/
def Own (w : World) (base : Nat) (v : Value) (l : List UInt8) : Prop := w.ownsRow base 5 1 v l.length (l.map bv)

/-- A slice to which can be appended without a write to what was there below 'base'. -/
def Room (w : World) (base : Nat) (v : Value) (l : List UInt8) : Prop :=
  Own w base v l ∨ (Sl w v l ∧ ∃ ao, v = .slice ao l.length l.length)

theorem bv_one (l : List UInt8) : ∀ u ∈ l.map bv, u.oneCell' = true := by
  intro u hu; obtain ⟨c, _, rfl⟩ := List.mem_map.1 hu; rfl

theorem Own.mono {w : World} {base b2 : Nat} {v : Value} {l : List UInt8} (h : Own w base v l) (hb : b2 ≤ base) : Own w b2 v l := by
  obtain ⟨h1, h2⟩ := h
  refine ⟨h1, ?_⟩
  rcases h2 with h | ⟨g, cap, cur, a, b, c⟩
  · exact .inl h
  · exact .inr ⟨g, cap, cur, a, by omega, c⟩

theorem Own.sl {w : World} {base : Nat} {v : Value} {l : List UInt8} (h : Own w base v l) : Sl w v l := by
  obtain ⟨h1, h2⟩ := h
  rcases h2 with ⟨rfl, h⟩ | ⟨g, cap, cur, rfl, hb, hg, hn, hm, hs, ht⟩
  · exact ⟨none, 0, by rw [h], by omega, by unfold maxLen; omega, fun h => absurd rfl h⟩
  · refine ⟨some ⟨g, 0, none⟩, cap, rfl, hn, hm, fun _ => ⟨g, 0, rfl, lt_of_block hg, fun i hi => ?_⟩⟩
    have e : (cur.toList.take (l.length * 1))[i]? = (l.map bv)[i]? := by rw [ht]
    rw [List.getElem?_take_of_lt (by omega)] at e
    simp only [World.cell?, hg]
    simpa [hi] using e

theorem Own.below {B base : Nat} {w w' : World} {v : Value} {l : List UInt8} (h : Own w base v l) (hb : Below B w w') (hB : w.heap.size ≤ B) : Own w' base v l := by
  obtain ⟨h1, h2⟩ := h
  refine ⟨h1, ?_⟩
  rcases h2 with h | ⟨g, cap, cur, a, b, c, r⟩
  · exact .inl h
  · exact .inr ⟨g, cap, cur, a, b, (hb.block g (by have := lt_of_block c; omega)).trans c, r⟩

theorem Sl.below {B : Nat} {w w' : World} {v : Value} {l : List UInt8} (h : Sl w v l) (hb : Below B w w') (hB : w.heap.size ≤ B) : Sl w' v l := by
  obtain ⟨ao, cap, rfl, h1, h2, h4⟩ := h
  refine ⟨ao, cap, rfl, h1, h2, fun hc => ?_⟩
  obtain ⟨b, off, e, a, c⟩ := h4 hc
  exact ⟨b, off, e, by have := hb.size; omega, fun i hi => (hb.cell (p := ⟨b, off + i, none⟩) (by show b < B; omega)).trans (c i hi)⟩

theorem addr_add (b o j : Nat) : (⟨b, o, none⟩ : Addr).add j = ⟨b, o + j, none⟩ := by
  by_cases h : j = 0
  · subst h; simp [Addr.add]
  · simp [Addr.add, h]

/-- THE ONE LAW ON append THAT THE WALKS USE: to a slice with room, bytes that lie somewhere, one at least. -/
theorem wpList_append_room {w : World} {ops : Array Oper} {rest : List Oper} {o : Oper} {a : Act} {Q : Exit → Act → World → Prop} (hgd : o.guard = none) (s x : Operand)
    (ho : o.op = .call { callee := .builtin .append, args := #[s, x], argTypes := #[47, 47] })
    (base : Nat) (v : Value) (l : List UInt8) (hs : a.eval s = v) (hroom : Room w base v l)
    (y : Value) (m : List UInt8) (hx : a.eval x = y) (hy : Sl w y m) (hm : m ≠ []) (hlen : l.length + m.length ≤ 140737488355328) (hbase : base ≤ w.heap.size)
    (h : ∀ v' w', Own w' base v' (l ++ m) → Below base w w' → wpList Try.prog ops Q rest (a.put o.dst v') w') : wpList Try.prog ops Q (o :: rest) a w := by
  obtain ⟨i0, hi, hz0, hz1, hz2⟩ := info_parts Try.info5
  have hmp : 0 < m.length := List.length_pos_iff.2 hm
  obtain ⟨ao, cap, rfl, h1, h2, h4⟩ := hy
  obtain ⟨bk, off, rfl, hlt, hc⟩ := h4 (by omega)
  have hnews : ∀ j u, (m.map bv)[j]? = some u → w.cell? ((⟨bk, off, none⟩ : Addr).add j) = some u := by
    intro j u hj
    rw [List.getElem?_map] at hj
    by_cases hjl : j < m.length
    · rw [List.getElem?_eq_getElem hjl] at hj
      simp only [Option.map_some, Option.some.injEq] at hj
      subst hj
      rw [addr_add]; exact hc j hjl
    · rw [List.getElem?_eq_none (by omega)] at hj; cases hj
  rcases hroom with hown | ⟨hsl, ao2, hv⟩
  · refine wpList_append_own w hgd s x 47 ho base 5 i0 (.int .u8 0) 1 1 Try.underlying47 hi hz0 hz1 hz2 rfl (by decide) v l.length (l.map bv) hs hown ⟨bk, off, none⟩ m.length cap (m.map bv) hx (by simp) hnews (bv_one m) (by unfold maxLen; omega) (by omega) hbase ?_
    intro v' w' ho' hgr _
    refine h v' w' (by simpa [Own] using ho') ((Below.refl _ _).grown hgr hbase ?_)
    intro k hk
    rcases hown.2 with ⟨rfl, _⟩ | ⟨g, cap', cur, rfl, hb, _⟩
    · cases hk
    · simp only [Value.ownBlock, Option.some.injEq] at hk; omega
  · subst hv
    obtain ⟨ao3, cap3, hv3, _, _, h4'⟩ := hsl
    cases hv3
    refine wpList_append_grows w hgd s x 47 ho 5 i0 (.int .u8 0) 1 1 Try.underlying47 hi hz0 hz1 hz2 rfl (by decide) ao2 l.length l.length (l.map bv) hs ?_ (by simp) ?_ ⟨bk, off, none⟩ m.length cap (m.map bv) hx (by simp) hnews (bv_one m) (by omega) (by unfold maxLen; omega) (by omega) ?_
    · intro hn
      by_cases hz : l.length = 0
      · exact ⟨hz, hz⟩
      · obtain ⟨b, o, e, _⟩ := h4' hz
        rw [hn] at e; cases e
    · intro b hb j u hj
      rw [List.getElem?_map] at hj
      by_cases hjl : j < l.length
      · obtain ⟨bb, bo, e, a2, a3⟩ := h4' (by omega)
        rw [hb] at e
        cases e
        rw [List.getElem?_eq_getElem hjl] at hj
        simp only [Option.map_some, Option.some.injEq] at hj
        subst hj
        rw [addr_add]; exact a3 j hjl
      · rw [List.getElem?_eq_none (by omega)] at hj; cases hj
    · intro v' w' ho' hgr
      have ho2 : Own w' w.heap.size v' (l ++ m) := by simpa [Own] using ho'
      exact h v' w' (ho2.mono hbase) ((Below.refl _ _).grown hgr hbase (fun k hk => by cases hk))

theorem Sl.cases {w : World} {v : Value} {l : List UInt8} (h : Sl w v l) : (l = [] ∧ ∃ ao, v = .slice ao 0 0) ∨ ∃ b off cap, v = .slice (some ⟨b, off, none⟩) l.length cap ∧ l.length ≤ cap ∧ cap ≤ 9223372036854775807 ∧ b < w.heap.size ∧ ∀ i, (h : i < l.length) → w.cell? ⟨b, off + i, none⟩ = some (bv l[i]) := by
  obtain ⟨ao, cap, rfl, h1, h2, h4⟩ := h
  unfold maxLen at h2
  by_cases hz : cap = 0
  · subst hz
    obtain rfl : l = [] := List.eq_nil_of_length_eq_zero (by omega)
    exact .inl ⟨rfl, ao, rfl⟩
  · obtain ⟨b, off, rfl, a, c⟩ := h4 hz
    exact .inr ⟨b, off, cap, rfl, h1, by omega, a, c⟩

theorem Sl.alloc {w : World} {v : Value} {l : List UInt8} (h : Sl w v l) (o : Obj) : Sl (w.alloc o) v l :=
  h.below ((Below.refl w.heap.size w).alloc (Nat.le_refl _) o) (Nat.le_refl _)

theorem Sl.drew {w : World} {v : Value} {l : List UInt8} (h : Sl w v l) : Sl w.drew v l := h.below ((Below.refl w.heap.size w).drew) (Nat.le_refl _)
theorem after_drew {B : Nat} {w w' : World} (h : Below B w.drew w') : Below B w w' := ((Below.refl B w).drew).trans h

theorem Room.alloc {w : World} {base : Nat} {v : Value} {l : List UInt8} (h : Room w base v l) (o : Obj) : Room (w.alloc o) base v l := by
  rcases h with h | ⟨h, e⟩
  · exact .inl (World.ownsRow.alloc h o)
  · exact .inr ⟨h.alloc o, e⟩

/-- A new block of bytes. -/
theorem Sl.new (w : World) (l : List UInt8) (hl : l.length ≤ maxLen) (fz : Nat × Nat) : Sl (w.alloc (.cells (l.map bv).toArray 5 fz)) (.slice (some ⟨w.heap.size, 0, none⟩) l.length l.length) l := by
  refine ⟨_, _, rfl, Nat.le_refl _, hl, fun _ => ⟨w.heap.size, 0, rfl, by simp, fun i hi => ?_⟩⟩
  have : (w.alloc (.cells (l.map bv).toArray 5 fz)).heap[w.heap.size]? = some (.cells (l.map bv).toArray 5 fz) := by
    show (w.heap.push _)[w.heap.size]? = _
    simp
  simp only [World.cell?, this]
  simp [hi]

/-! ### Bits of a byte -/
theorem byte_all (p : Nat → Bool) (h : (List.range 256).all p = true) : ∀ k, k < 256 → p k = true := fun k hk => List.all_eq_true.1 h k (List.mem_range.2 hk)
theorem or128 (m : Int) (h : 0 ≤ m) : bits BinOp.or IntKind.u8 (m % 256) 128 = ((UInt8.ofNat (128 + m.toNat % 128)).toNat : Int) := by
  obtain ⟨k, rfl⟩ := Int.eq_ofNat_of_zero_le h
  have hk : k % 256 < 256 := Nat.mod_lt _ (by decide)
  have := byte_all (fun k => bits BinOp.or IntKind.u8 (k : Int) 128 == ((128 + k % 128 : Nat) : Int)) (by decide +kernel) (k % 256) hk
  have e : ((k : Int) % 256) = ((k % 256 : Nat) : Int) := by omega
  rw [e, beq_iff_eq.1 this, Int.toNat_natCast]
  simp only [UInt8.toNat_ofNat']
  omega
theorem byte_of (m : Int) (h : 0 ≤ m) (h2 : m < 128) : m % 256 = ((UInt8.ofNat m.toNat).toNat : Int) := by
  simp only [UInt8.toNat_ofNat']
  omega

theorem not_i64 (n : Int) (h0 : -9223372036854775808 ≤ n) (h1 : n ≤ 9223372036854775807) : bits BinOp.xor IntKind.i64 (-1) n = -n - 1 := by
  have e1 : BitVec.ofInt 64 (-1) = BitVec.allOnes 64 := by decide
  show IntKind.i64.wrap ((BitVec.ofInt 64 (-1) ^^^ BitVec.ofInt 64 n).toNat : Int) = _
  rw [e1, BitVec.allOnes_xor, BitVec.toNat_not, BitVec.toNat_ofInt, IntKind.wrap_i64]
  omega


/-- An append to a slice of one's own, of whatever bytes: none, too. -/
theorem wpList_append_mine {w : World} {ops : Array Oper} {rest : List Oper} {o : Oper} {a : Act} {Q : Exit → Act → World → Prop} (hgd : o.guard = none) (s x : Operand)
    (ho : o.op = .call { callee := .builtin .append, args := #[s, x], argTypes := #[47, 47] })
    (base : Nat) (v : Value) (l : List UInt8) (hs : a.eval s = v) (hown : Own w base v l)
    (y : Value) (m : List UInt8) (hx : a.eval x = y) (hy : Sl w y m) (hlen : l.length + m.length ≤ 140737488355328) (hbase : base ≤ w.heap.size)
    (h : ∀ v' w', Own w' base v' (l ++ m) → Below base w w' → wpList Try.prog ops Q rest (a.put o.dst v') w') : wpList Try.prog ops Q (o :: rest) a w := by
  by_cases hm : m = []
  · subst hm
    obtain ⟨i0, hi, hz0, hz1, hz2⟩ := info_parts Try.info5
    obtain ⟨ao, cap, rfl, h1, h2, h4⟩ := hy
    cases ao with
    | none =>
      obtain rfl : cap = 0 := by
        by_cases hz : cap = 0
        · exact hz
        · obtain ⟨_, _, e, _⟩ := h4 hz; cases e
      refine wpList_append_own_none hgd s x 47 ho base 5 i0 1 Try.underlying47 hi v l.length (l.map bv) hs hown hx ?_
      exact h v w (by simpa using hown) (Below.refl _ _)
    | some ad =>
      refine wpList_append_own w hgd s x 47 ho base 5 i0 (.int .u8 0) 1 1 Try.underlying47 hi hz0 hz1 hz2 rfl (by decide) v l.length (l.map bv) hs hown ad 0 cap [] hx (by simp) (fun j u hj => by simp at hj) (fun u hu => by simp at hu) (by unfold maxLen; omega) (by omega) hbase ?_
      intro v' w' ho' hgr _
      refine h v' w' (by simpa [Own] using ho') ((Below.refl _ _).grown hgr hbase ?_)
      intro k hk
      rcases hown.2 with ⟨rfl, _⟩ | ⟨g, cap', cur, rfl, hb, _⟩
      · cases hk
      · simp only [Value.ownBlock, Option.some.injEq] at hk; omega
  · exact wpList_append_room hgd s x ho base v l hs (.inl hown) y m hx hy hm hlen hbase h
end Go.Proofs.Ytfoanlmmjbclgaa

/-
  DERIVED. The device behind its pointer: six cells; up, open, burn, Blocks, Down, Ops, Fuse.
-/
namespace Go.Proofs.Ytfoanlmmjbclgaa
open Go.RowKit
set_option linter.unusedVariables false

/-- The six cells of a device. -/
def DevAt (w : World) (b : Nat) (fl pm : Value) (fused : Bool) (fuse : Int) (down : Bool) (ops : Int) : Prop :=
  w.heap[b]? = some (.cells #[fl, pm, .bool fused, .int .i64 fuse, .bool down, .int .i64 ops] 56 (0, 0))

/-- One block alone has turned. -/
structure Only (b : Nat) (w w' : World) : Prop where
  size : w'.heap.size = w.heap.size
  other : ∀ k, k ≠ b → w'.heap[k]? = w.heap[k]?
  below : ∀ base, base ≤ b → Below base w w'

theorem Only.refl (b : Nat) (w : World) : Only b w w := ⟨rfl, fun _ _ => rfl, fun _ _ => Below.refl _ _⟩
theorem Only.set {b : Nat} {w w' : World} (h : Only b w w') (i : Nat) (v : Value) : Only b w (w'.setCell ⟨b, i, none⟩ v) :=
  ⟨by simp [World.setCell, h.size], fun k hk => (heap_setCell_other _ _ _ _ hk).trans (h.other k hk), fun base hb => (h.below base hb).setCell hb v⟩
theorem Only.trans {b : Nat} {u v w : World} (h : Only b u v) (k : Only b v w) : Only b u w :=
  ⟨k.size.trans h.size, fun i hi => (k.other i hi).trans (h.other i hi), fun base hb => (h.below base hb).trans (k.below base hb)⟩

section
variable {w : World} {b : Nat} {fl pm : Value} {fused : Bool} {fuse : Int} {down : Bool} {ops : Int}
theorem DevAt.c0 (h : DevAt w b fl pm fused fuse down ops) : w.cell? ⟨b, 0, none⟩ = some fl := by unfold DevAt at h; simp [World.cell?, h]
theorem DevAt.c1 (h : DevAt w b fl pm fused fuse down ops) : w.cell? ⟨b, 1, none⟩ = some pm := by unfold DevAt at h; simp [World.cell?, h]
theorem DevAt.c2 (h : DevAt w b fl pm fused fuse down ops) : w.cell? ⟨b, 2, none⟩ = some (.bool fused) := by unfold DevAt at h; simp [World.cell?, h]
theorem DevAt.c3 (h : DevAt w b fl pm fused fuse down ops) : w.cell? ⟨b, 3, none⟩ = some (.int .i64 fuse) := by unfold DevAt at h; simp [World.cell?, h]
theorem DevAt.c4 (h : DevAt w b fl pm fused fuse down ops) : w.cell? ⟨b, 4, none⟩ = some (.bool down) := by unfold DevAt at h; simp [World.cell?, h]
theorem DevAt.c5 (h : DevAt w b fl pm fused fuse down ops) : w.cell? ⟨b, 5, none⟩ = some (.int .i64 ops) := by unfold DevAt at h; simp [World.cell?, h]
theorem DevAt.nf (h : DevAt w b fl pm fused fuse down ops) (i : Nat) : w.frozen? ⟨b, i, none⟩ = false := frozen_of_row w b i _ _ h
theorem DevAt.s2 (h : DevAt w b fl pm fused fuse down ops) (x : Bool) : DevAt (w.setCell ⟨b, 2, none⟩ (.bool x)) b fl pm x fuse down ops := heap_setCell_same w b 2 _ _ _ h
theorem DevAt.s3 (h : DevAt w b fl pm fused fuse down ops) (x : Int) : DevAt (w.setCell ⟨b, 3, none⟩ (.int .i64 x)) b fl pm fused x down ops := heap_setCell_same w b 3 _ _ _ h
theorem DevAt.s4 (h : DevAt w b fl pm fused fuse down ops) (x : Bool) : DevAt (w.setCell ⟨b, 4, none⟩ (.bool x)) b fl pm fused fuse x ops := heap_setCell_same w b 4 _ _ _ h
theorem DevAt.s5 (h : DevAt w b fl pm fused fuse down ops) (x : Int) : DevAt (w.setCell ⟨b, 5, none⟩ (.int .i64 x)) b fl pm fused fuse down x := heap_setCell_same w b 5 _ _ _ h
theorem DevAt.lt (h : DevAt w b fl pm fused fuse down ops) : b < w.heap.size := by
  unfold DevAt at h
  exact (Array.getElem?_eq_some_iff.1 h).1
theorem DevAt.below (h : DevAt w b fl pm fused fuse down ops) {w' : World} {base : Nat} (k : Below base w w') (hb : b < base) : DevAt w' b fl pm fused fuse down ops := (k.block b hb).trans h

theorem up_dev (h : DevAt w b fl pm fused fuse down ops) :
    Calls Try.prog 38 #[.pointer (some ⟨b, 0, none⟩)] w fun e w' => e = .returned (.int .i64 (if down then 2 else 0)) ∧ w = w' := by
  have c4 := h.c4
  cases down <;> go_enter Try.func38, Try.ntmps38 <;> go_wp2 <;> go_ret <;> exact ⟨rfl, rfl⟩

theorem Down_dev (h : DevAt w b fl pm fused fuse down ops) :
    Calls Try.prog 28 #[.pointer (some ⟨b, 0, none⟩)] w fun e w' => e = .returned (.bool down) ∧ w = w' := by
  have c4 := h.c4
  go_enter Try.func28, Try.ntmps28
  go_wp2
  go_ret
  exact ⟨rfl, rfl⟩

theorem Ops_dev (h : DevAt w b fl pm fused fuse down ops) :
    Calls Try.prog 29 #[.pointer (some ⟨b, 0, none⟩)] w fun e w' => e = .returned (.int .i64 ops) ∧ w = w' := by
  have c5 := h.c5
  go_enter Try.func29, Try.ntmps29
  go_wp2
  go_ret
  exact ⟨rfl, rfl⟩

theorem Blocks_dev {a : Option Addr} {n c : Nat} (h : DevAt w b (.slice a n c) pm fused fuse down ops) :
    Calls Try.prog 17 #[.pointer (some ⟨b, 0, none⟩)] w fun e w' => e = .returned (.int .i64 n) ∧ w = w' := by
  have c0 := h.c0
  go_enter Try.func17, Try.ntmps17
  go_wp2
  go_ret
  exact ⟨rfl, rfl⟩

/-- What 'open' answers. -/
def openE (n : Nat) (down : Bool) (k : Int) : Int := if down then 2 else if 0 ≤ k ∧ k < n then 0 else 20

theorem open_dev {a : Option Addr} {n c : Nat} (k : Int) (h : DevAt w b (.slice a n c) pm fused fuse down ops) :
    Calls Try.prog 32 #[.pointer (some ⟨b, 0, none⟩), .int .i64 k] w fun e w' => e = .returned (.int .i64 (openE n down k)) ∧ w = w' := by
  have c0 := h.c0
  have HD := hide h
  unfold openE
  cases down
  · by_cases h1 : k < 0
    · rw [if_neg (by simp), if_neg (by omega)]
      go_enter Try.func32, Try.ntmps32
      go_wp2_with (go_at_call 38; refine (up_dev (unhide HD)).mono ?_; rintro e w' ⟨rfl, rfl⟩)
      go_ret
      exact ⟨rfl, rfl⟩
    · by_cases h2 : k < n
      · rw [if_neg (by simp), if_pos (by omega)]
        go_enter Try.func32, Try.ntmps32
        go_wp2_with (go_at_call 38; refine (up_dev (unhide HD)).mono ?_; rintro e w' ⟨rfl, rfl⟩)
        go_ret
        exact ⟨rfl, rfl⟩
      · rw [if_neg (by simp), if_neg (by omega)]
        go_enter Try.func32, Try.ntmps32
        go_wp2_with (go_at_call 38; refine (up_dev (unhide HD)).mono ?_; rintro e w' ⟨rfl, rfl⟩)
        go_ret
        exact ⟨rfl, rfl⟩
  · rw [if_pos rfl]
    go_enter Try.func32, Try.ntmps32
    go_wp2_with (go_at_call 38; refine (up_dev (unhide HD)).mono ?_; rintro e w' ⟨rfl, rfl⟩)
    go_ret
    exact ⟨rfl, rfl⟩

/-- What 'burn' leaves: its answer, the fuse, whether it is down, the operations. -/
def burnE (fused : Bool) (fuse : Int) : Int := if fused && fuse == 0 then 2 else 0
def burnF (fused : Bool) (fuse : Int) : Int := if fused && fuse != 0 then fuse - 1 else fuse
def burnD (fused : Bool) (fuse : Int) (down : Bool) : Bool := if fused && fuse == 0 then true else down
def burnO (fused : Bool) (fuse ops : Int) : Int := if fused && fuse == 0 then ops else ops + 1

theorem burn_dev (h : DevAt w b fl pm fused fuse down ops) (f1 : 0 ≤ fuse) (f2 : fuse < 9223372036854775808) (o1 : 0 ≤ ops) (o2 : ops < 9223372036854775807) :
    Calls Try.prog 33 #[.pointer (some ⟨b, 0, none⟩)] w fun e w' => e = .returned (.int .i64 (burnE fused fuse)) ∧ DevAt w' b fl pm fused (burnF fused fuse) (burnD fused fuse down) (burnO fused fuse ops) ∧ Only b w w' := by
  have c2 := h.c2
  have c3 := h.c3
  have c5 := h.c5
  have c4 := h.c4
  have n4 := h.nf 4
  have HD := hide h
  have HO := hide (Only.refl b w)
  clear h
  unfold burnE burnF burnD burnO
  have n5 := (unhide HD).nf 5
  cases fused
  · go_enter Try.func33, Try.ntmps33
    go_wp2
    go_ret
    exact ⟨rfl, (unhide HD).s5 _, (unhide HO).set _ _⟩
  · by_cases hz : fuse = 0
    · subst hz
      go_enter Try.func33, Try.ntmps33
      go_wp2
      go_ret
      exact ⟨rfl, (unhide HD).s4 _, (unhide HO).set _ _⟩
    · have hb : (fuse == 0) = false := beq_eq_false_iff_ne.2 hz
      have n3 := (unhide HD).nf 3
      have H3 := hide ((unhide HD).s3 (fuse - 1))
      have c5' := (unhide H3).c5
      have n5' := (unhide H3).nf 5
      simp only [hb, bne, Bool.and_false, Bool.not_false, Bool.and_true, if_true, Bool.false_eq_true, if_false]
      go_enter Try.func33, Try.ntmps33
      go_wp2
      go_ret
      exact ⟨rfl, (unhide H3).s5 _, ((unhide HO).set _ _).set _ _⟩

theorem Fuse_dev (k : Int) (h : DevAt w b fl pm fused fuse down ops) (k1 : -9223372036854775808 ≤ k) (k2 : k < 9223372036854775808) :
    Calls Try.prog 24 #[.pointer (some ⟨b, 0, none⟩), .int .i64 k] w fun e w' => e = .returned (.int .i64 (if down then 2 else 0)) ∧ DevAt w' b fl pm (if down then fused else decide (0 ≤ k)) (if down then fuse else max k 0) down ops ∧ Only b w w' := by
  have HD := hide h
  have HO := hide (Only.refl b w)
  clear h
  cases down
  · have c2 := (unhide HD).c2
    have n2 := (unhide HD).nf 2
    have H2 := hide ((unhide HD).s2 (decide (0 ≤ k)))
    have c3 := (unhide H2).c3
    have n3 := (unhide H2).nf 3
    simp only [Bool.false_eq_true, if_false]
    by_cases hk : 0 ≤ k
    · have hm : max k 0 = k := by omega
      have hd : decide (0 ≤ k) = true := decide_eq_true hk
      rw [hd] at H2 c3 n3
      rw [hm, hd]
      go_enter Try.func24, Try.ntmps24
      go_wp2_with (go_at_call 38; refine (up_dev (unhide HD)).mono ?_; rintro e w' ⟨rfl, rfl⟩)
      go_ret
      exact ⟨rfl, (unhide H2).s3 _, ((unhide HO).set _ _).set _ _⟩
    · have hm : max k 0 = 0 := by omega
      rw [hm]
      go_enter Try.func24, Try.ntmps24
      go_wp2_with (go_at_call 38; refine (up_dev (unhide HD)).mono ?_; rintro e w' ⟨rfl, rfl⟩)
      go_ret
      exact ⟨rfl, (unhide H2).s3 _, ((unhide HO).set _ _).set _ _⟩
  · go_enter Try.func24, Try.ntmps24
    go_wp2_with (go_at_call 38; refine (up_dev (unhide HD)).mono ?_; rintro e w' ⟨rfl, rfl⟩)
    go_ret
    exact ⟨rfl, unhide HD, unhide HO⟩
end
end Go.Proofs.Ytfoanlmmjbclgaa

/-
  DERIVED. New: a device of noughts.
-/
namespace Go.Proofs.Ytfoanlmmjbclgaa
open Go.RowKit
set_option linter.unusedVariables false

/-- So many cells of noughts. -/
def noughts (n : Nat) : Array Value := Array.replicate n (.int .u8 0)
theorem infoBlock : (Try.prog.info? 60).map (fun i => (i.zero, i.size, i.bytes)) = some (some (.agg (noughts 512)), 512, 512) := by kernel_rfl

theorem made_noughts (n : Nat) : madeCells (noughts 512) (n * 512) = noughts (n * 512) := by
  unfold madeCells noughts
  apply Array.ext
  · simp
  · intro i h1 h2
    have : i % 512 < (Array.replicate 512 (Value.int .u8 0)).size := by rw [Array.size_replicate]; omega
    rw [Array.getElem_map, Array.getElem_range, Array.getElem_replicate, Array.size_replicate, getElem!_pos (Array.replicate 512 (Value.int .u8 0)) (i % 512) this, Array.getElem_replicate]

theorem run_make_blocks (w : World) (n : Nat) (hn : n ≤ 512) : (Instr.makeSlice 53 (.int .i64 n) (.int .i64 n)).run Try.prog w = .ok (.slice (some ⟨w.heap.size, 0, none⟩) n n) (w.alloc (.cells (noughts (n * 512)) 60)) := by
  obtain ⟨i, hi, hh⟩ := Option.map_eq_some_iff.1 infoBlock
  simp only [Prod.mk.injEq] at hh
  have h := run_make (P := Try.prog) w 53 60 i _ Try.underlying53 hi hh.1 .i64 .i64 n n (by omega) (Int.le_refl _) (by rw [hh.2.2]; omega) (by omega)
  rw [h, hh.2.1, Int.toNat_natCast]
  show Result.ok _ (w.alloc (.cells (madeCells (noughts 512) (n * 512)) 60)) = _
  rw [made_noughts]

theorem heap_alloc_self (w : World) (o : Obj) : (w.alloc o).heap[w.heap.size]? = some o := by
  show (w.heap.push o)[w.heap.size]? = some o
  simp

/-- The world behind New. -/
def newW (w : World) (n : Nat) : World := ((w.alloc (.cells (noughts (n * 512)) 60)).alloc (.map #[] 0)).alloc (.cells #[.slice (some ⟨w.heap.size, 0, none⟩) n n, .map (some (w.heap.size + 1)), .bool false, .int .i64 0, .bool false, .int .i64 0] 56)

set_option maxRecDepth 20000 in
theorem New_ok (n : Nat) (w : World) (h1 : 64 ≤ n) (h2 : n ≤ 512) :
    Calls Try.prog 5 #[.int .i64 n] w fun e w' => e = .returned (.tuple #[.pointer (some ⟨w.heap.size + 2, 0, none⟩), .int .i64 0]) ∧ w' = newW w n := by
  have mk := run_make_blocks w n h2
  have mm : ∀ w : World, (Instr.makeMap 54 none).run Try.prog w = .ok (.map (some w.heap.size)) (w.alloc (.map #[] 0)) := fun w => rfl
  go_enter Try.func5, Try.ntmps5
  go_wp2
  go_ret2
  exact ⟨rfl, rfl⟩

theorem New_bad (k : Int) (w : World) (h : k < 64 ∨ 512 < k) :
    Calls Try.prog 5 #[.int .i64 k] w fun e w' => e = .returned (.tuple #[.pointer none, .int .i64 21]) ∧ w = w' := by
  rcases h with h | h
  · go_enter Try.func5, Try.ntmps5
    go_wp2
    go_ret2
    exact ⟨rfl, rfl⟩
  · have h3 : ¬ k < 64 := by omega
    go_enter Try.func5, Try.ntmps5
    go_wp2
    go_ret2
    exact ⟨rfl, rfl⟩

theorem newW_dev (w : World) (n : Nat) : DevAt (newW w n) (w.heap.size + 2) (.slice (some ⟨w.heap.size, 0, none⟩) n n) (.map (some (w.heap.size + 1))) false 0 false 0 := by
  unfold DevAt newW
  have : w.heap.size + 2 = (((w.alloc (.cells (noughts (n * 512)) 60)).alloc (.map #[] 0))).heap.size := by simp
  rw [this]
  exact heap_alloc_self _ _
theorem newW_map (w : World) (n : Nat) : (newW w n).heap[w.heap.size + 1]? = some (.map #[] 0) := by
  unfold newW
  have : w.heap.size + 1 = (w.alloc (.cells (noughts (n * 512)) 60)).heap.size := by simp
  rw [Below.heap_alloc _ _ _ (by simp), this]
  exact heap_alloc_self _ _
theorem newW_row (w : World) (n : Nat) : (newW w n).heap[w.heap.size]? = some (.cells (noughts (n * 512)) 60 (0, 0)) := by
  unfold newW
  rw [Below.heap_alloc _ _ _ (by simp; omega), Below.heap_alloc _ _ _ (by simp)]
  exact heap_alloc_self _ _
theorem newW_below (w : World) (n : Nat) : Below w.heap.size w (newW w n) :=
  (((Below.refl _ _).alloc (Nat.le_refl _) _).alloc (by simp) _).alloc (by simp; omega) _
end Go.Proofs.Ytfoanlmmjbclgaa

/-
  DERIVED. newest: a block as it was written last.
-/
namespace Go.Proofs.Ytfoanlmmjbclgaa
open Go.RowKit
set_option linter.unusedVariables false

theorem sizeBlock : (Try.prog.info? 60).map (·.size) = some 512 := by kernel_rfl
theorem run_alloc_block (w : World) : (Instr.alloc 60 true (.tuple #[])).run Try.prog w = .ok (.pointer (some ⟨w.heap.size, 0, none⟩)) (w.alloc (.cells (noughts 512) 60)) := by kernel_rfl
theorem wpList_alloc_block {ops : Array Oper} {rest : List Oper} {o : Oper} {a : Act} {w : World} {Q : Exit → Act → World → Prop} (hgd : o.guard = none)
    (ho : o.op = .alloc 60) (h : wpList Try.prog ops Q rest (a.put o.dst (.pointer (some ⟨w.heap.size, 0, none⟩))) (w.alloc (.cells (noughts 512) 60))) : wpList Try.prog ops Q (o :: rest) a w := by
  refine wpList_plain hgd fun K hK => ?_
  unfold Oper.wp execOp
  simp only [ho, Sem.run_bind, Sem.run_pure, run_alloc_block, Result.andThen_ok]
  exact hK _ _ h

theorem below_setRowD (B : Nat) (w : World) (g : Nat) (cs : Array Value) (h : B ≤ g) : Below B w (w.setRow g cs) := by
  refine ⟨rfl, rfl, rfl, by simp [World.setRow], fun k hk => ?_⟩
  simp only [World.setRow, Array.getElem?_modify]
  rw [if_neg (by omega)]
theorem size_noughts (n : Nat) : (noughts n).size = n := by simp [noughts]

theorem newest_old {g n c : Nat} {b : Nat} {pm : Value} {fused : Bool} {fuse : Int} {down : Bool} {ops : Int} (w : World) (k : Nat) (ao : Option Addr) (cap : Nat) (cs : List Value)
    (h : DevAt w b (.slice (some ⟨g, 0, none⟩) n c) pm fused fuse down ops) (hk : k < n)
    (hl : ∀ o, (Instr.lookup 54 pm (.int .i64 k) false).run Try.prog (w.alloc o) = .ok (.slice ao 0 cap) (w.alloc o))
    (hr : w.rangeAt g (k * 512) cs) (hc : cs.length = 512) (h1 : ∀ v ∈ cs, v.oneCell' = true) :
    Calls Try.prog 34 #[.pointer (some ⟨b, 0, none⟩), .int .i64 k] w fun e w' => e = .returned (.agg cs.toArray) ∧ Below w.heap.size w w' := by
  have HB := hide ((Below.refl w.heap.size w).alloc (Nat.le_refl _) (.cells (noughts 512) 60))
  have h' : DevAt (w.alloc (.cells (noughts 512) 60)) b (.slice (some ⟨g, 0, none⟩) n c) pm fused fuse down ops := h.below (unhide HB) h.lt
  have c0 := h'.c0
  have c1 := h'.c1
  have hl' := hl (.cells (noughts 512) 60)
  have HR := hide (World.rangeAt_alloc hr (.cells (noughts 512) 60))
  clear h h' hl hr
  have H0 := hide (heap_alloc_self w (.cells (noughts 512) 60))
  have HS : Hid (cs.toArray.size = 512) := hide (by simpa using hc)
  go_enter Try.func34, Try.ntmps34
  go_wp2_with (first | (refine wpList_alloc_block rfl rfl ?_) | (refine wpList_load_mid rfl 60 (.tmp 26) rfl g (k * 512) rfl cs _ (unhide HR) Try.underlying60 rfl (by rw [hc]; exact sizeBlock) ?_) | (refine wpList_store_row rfl 60 (.tmp 4) (.tmp 27) rfl w.heap.size cs.toArray rfl rfl 60 (noughts 512) (unhide H0) (by rw [unhide HS]; exact sizeBlock) (by rw [unhide HS, size_noughts]) (all_oneCell_toArray h1) ?_))
  refine bodyPost_ret (v := .agg cs.toArray) (results_cell_row rfl _ _ w.heap.size 60 cs.toArray (0, 0) _ rfl (setRow_heap _ _ _ _ _ _ (unhide H0)) Try.underlying60 rfl (by rw [unhide HS]; exact sizeBlock)) rfl ⟨rfl, ?_⟩
  exact (unhide HB).trans (below_setRowD _ _ _ _ (Nat.le_refl _))

theorem newest_new {g n c : Nat} {b : Nat} {pm : Value} {fl : Value} {fused : Bool} {fuse : Int} {down : Bool} {ops : Int} (w : World) (k : Nat) (q j cap : Nat) (cs : List Value)
    (h : DevAt w b fl pm fused fuse down ops) (hj : j < 9223372036854775807)
    (hl : ∀ o, (Instr.lookup 54 pm (.int .i64 k) false).run Try.prog (w.alloc o) = .ok (.slice (some ⟨q, 0, none⟩) (j + 1) cap) (w.alloc o))
    (hr : w.rangeAt q (j * 512) cs) (hc : cs.length = 512) (h1 : ∀ v ∈ cs, v.oneCell' = true) :
    Calls Try.prog 34 #[.pointer (some ⟨b, 0, none⟩), .int .i64 k] w fun e w' => e = .returned (.agg cs.toArray) ∧ Below w.heap.size w w' := by
  have HB := hide ((Below.refl w.heap.size w).alloc (Nat.le_refl _) (.cells (noughts 512) 60))
  have h' : DevAt (w.alloc (.cells (noughts 512) 60)) b fl pm fused fuse down ops := h.below (unhide HB) h.lt
  have c1 := h'.c1
  have hl' := hl (.cells (noughts 512) 60)
  have HR := hide (World.rangeAt_alloc hr (.cells (noughts 512) 60))
  clear h h' hl hr
  have H0 := hide (heap_alloc_self w (.cells (noughts 512) 60))
  have HS : Hid (cs.toArray.size = 512) := hide (by simpa using hc)
  go_enter Try.func34, Try.ntmps34
  go_wp2_with (first | (refine wpList_alloc_block rfl rfl ?_) | (refine wpList_load_mid rfl 60 (.tmp 19) rfl q (j * 512) rfl cs _ (unhide HR) Try.underlying60 rfl (by rw [hc]; exact sizeBlock) ?_) | (refine wpList_store_row rfl 60 (.tmp 4) (.tmp 20) rfl w.heap.size cs.toArray rfl rfl 60 (noughts 512) (unhide H0) (by rw [unhide HS]; exact sizeBlock) (by rw [unhide HS, size_noughts]) (all_oneCell_toArray h1) ?_))
  refine bodyPost_ret (v := .agg cs.toArray) (results_cell_row rfl _ _ w.heap.size 60 cs.toArray (0, 0) _ rfl (setRow_heap _ _ _ _ _ _ (unhide H0)) Try.underlying60 rfl (by rw [unhide HS]; exact sizeBlock)) rfl ⟨rfl, ?_⟩
  exact (unhide HB).trans (below_setRowD _ _ _ _ (Nat.le_refl _))
end Go.Proofs.Ytfoanlmmjbclgaa

/-
  DERIVED. kept: what a crash leaves of a block.
-/
namespace Go.Proofs.Ytfoanlmmjbclgaa
open Go.RowKit
set_option linter.unusedVariables false

/-- What a pick picks among so many writes: 0 is what was flushed. -/
def pickR (p : Int) (L : Nat) : Nat := (if p < 0 then -(p + 1) else p).toNat % (L + 1)

theorem tm_neg (p : Int) (hn : p < 0) (L : Nat) : -((p + 1).tmod ((L : Int) + 1)) = (pickR p L : Int) := by
  unfold pickR
  rw [if_pos hn]
  obtain ⟨x, hx⟩ : ∃ x : Nat, p + 1 = -(x : Int) := ⟨(-(p + 1)).toNat, by omega⟩
  rw [hx, Int.neg_tmod, Int.neg_neg, Int.neg_neg, Int.toNat_natCast]
  rfl
theorem tm_pos (p : Int) (hn : ¬ p < 0) (L : Nat) : p.tmod ((L : Int) + 1) = (pickR p L : Int) := by
  unfold pickR
  rw [if_neg hn]
  obtain ⟨x, rfl⟩ : ∃ x : Nat, p = (x : Int) := ⟨p.toNat, by omega⟩
  rw [Int.toNat_natCast]
  rfl

set_option maxRecDepth 20000 in
theorem kept_old {g n c : Nat} {b : Nat} {pm : Value} {fused : Bool} {fuse : Int} {down : Bool} {ops : Int} (w : World) (k : Nat) (p : Int) (ao : Option Addr) (L cap : Nat) (cs : List Value)
    (h : DevAt w b (.slice (some ⟨g, 0, none⟩) n c) pm fused fuse down ops) (hk : k < n) (p1 : -9223372036854775808 ≤ p) (p2 : p < 9223372036854775808) (hL : L < 9223372036854775807)
    (hl : ∀ o, (Instr.lookup 54 pm (.int .i64 k) false).run Try.prog (w.alloc o) = .ok (.slice ao L cap) (w.alloc o)) (hp : pickR p L = 0)
    (hr : w.rangeAt g (k * 512) cs) (hc : cs.length = 512) (h1 : ∀ v ∈ cs, v.oneCell' = true) :
    Calls Try.prog 30 #[.pointer (some ⟨b, 0, none⟩), .int .i64 k, .int .i64 p] w fun e w' => e = .returned (.agg cs.toArray) ∧ Below w.heap.size w w' := by
  have HB := hide ((Below.refl w.heap.size w).alloc (Nat.le_refl _) (.cells (noughts 512) 60))
  have h' : DevAt (w.alloc (.cells (noughts 512) 60)) b (.slice (some ⟨g, 0, none⟩) n c) pm fused fuse down ops := h.below (unhide HB) h.lt
  have c0 := h'.c0
  have c1 := h'.c1
  have hl' := hl (.cells (noughts 512) 60)
  have HR := hide (World.rangeAt_alloc hr (.cells (noughts 512) 60))
  clear h h' hl hr
  have H0 := hide (heap_alloc_self w (.cells (noughts 512) 60))
  have HS : Hid (cs.toArray.size = 512) := hide (by simpa using hc)
  by_cases hn : p < 0
  · have ht : -((p + 1).tmod ((L : Int) + 1)) = 0 := by rw [tm_neg p hn L, hp]; rfl
    clear hp
    go_enter Try.func30, Try.ntmps30
    go_wp2_with (first | (refine wpList_alloc_block rfl rfl ?_) | (refine wpList_load_mid rfl 60 (.tmp 32) rfl g (k * 512) rfl cs _ (unhide HR) Try.underlying60 rfl (by rw [hc]; exact sizeBlock) ?_) | (refine wpList_store_row rfl 60 (.tmp 6) (.tmp 33) rfl w.heap.size cs.toArray rfl rfl 60 (noughts 512) (unhide H0) (by rw [unhide HS]; exact sizeBlock) (by rw [unhide HS, size_noughts]) (all_oneCell_toArray h1) ?_))
    refine bodyPost_ret (v := .agg cs.toArray) (results_cell_row rfl _ _ w.heap.size 60 cs.toArray (0, 0) _ rfl (setRow_heap _ _ _ _ _ _ (unhide H0)) Try.underlying60 rfl (by rw [unhide HS]; exact sizeBlock)) rfl ⟨rfl, ?_⟩
    exact (unhide HB).trans (below_setRowD _ _ _ _ (Nat.le_refl _))
  · have ht : p.tmod ((L : Int) + 1) = 0 := by rw [tm_pos p hn L, hp]; rfl
    clear hp
    go_enter Try.func30, Try.ntmps30
    go_wp2_with (first | (refine wpList_alloc_block rfl rfl ?_) | (refine wpList_load_mid rfl 60 (.tmp 32) rfl g (k * 512) rfl cs _ (unhide HR) Try.underlying60 rfl (by rw [hc]; exact sizeBlock) ?_) | (refine wpList_store_row rfl 60 (.tmp 6) (.tmp 33) rfl w.heap.size cs.toArray rfl rfl 60 (noughts 512) (unhide H0) (by rw [unhide HS]; exact sizeBlock) (by rw [unhide HS, size_noughts]) (all_oneCell_toArray h1) ?_))
    refine bodyPost_ret (v := .agg cs.toArray) (results_cell_row rfl _ _ w.heap.size 60 cs.toArray (0, 0) _ rfl (setRow_heap _ _ _ _ _ _ (unhide H0)) Try.underlying60 rfl (by rw [unhide HS]; exact sizeBlock)) rfl ⟨rfl, ?_⟩
    exact (unhide HB).trans (below_setRowD _ _ _ _ (Nat.le_refl _))

set_option maxRecDepth 20000 in
theorem kept_new {b : Nat} {fl pm : Value} {fused : Bool} {fuse : Int} {down : Bool} {ops : Int} (w : World) (k : Nat) (p : Int) (q L cap j : Nat) (cs : List Value)
    (h : DevAt w b fl pm fused fuse down ops) (p1 : -9223372036854775808 ≤ p) (p2 : p < 9223372036854775808) (hL : L < 9223372036854775807)
    (hl : ∀ o, (Instr.lookup 54 pm (.int .i64 k) false).run Try.prog (w.alloc o) = .ok (.slice (some ⟨q, 0, none⟩) L cap) (w.alloc o)) (hp : pickR p L = j + 1)
    (hr : w.rangeAt q (j * 512) cs) (hc : cs.length = 512) (h1 : ∀ v ∈ cs, v.oneCell' = true) :
    Calls Try.prog 30 #[.pointer (some ⟨b, 0, none⟩), .int .i64 k, .int .i64 p] w fun e w' => e = .returned (.agg cs.toArray) ∧ Below w.heap.size w w' := by
  have HB := hide ((Below.refl w.heap.size w).alloc (Nat.le_refl _) (.cells (noughts 512) 60))
  have h' : DevAt (w.alloc (.cells (noughts 512) 60)) b fl pm fused fuse down ops := h.below (unhide HB) h.lt
  have hlt : pickR p L < L + 1 := Nat.mod_lt _ (by omega)
  have hj : j < L := by omega
  clear hlt
  have c1 := h'.c1
  have hl' := hl (.cells (noughts 512) 60)
  have HR := hide (World.rangeAt_alloc hr (.cells (noughts 512) 60))
  clear h h' hl hr
  have H0 := hide (heap_alloc_self w (.cells (noughts 512) 60))
  have HS : Hid (cs.toArray.size = 512) := hide (by simpa using hc)
  by_cases hn : p < 0
  · have ht : -((p + 1).tmod ((L : Int) + 1)) = ((j : Int) + 1) := by rw [tm_neg p hn L, hp]; rfl
    clear hp
    go_enter Try.func30, Try.ntmps30
    go_wp2_with (first | (refine wpList_alloc_block rfl rfl ?_) | (refine wpList_load_mid rfl 60 (.tmp 37) rfl q (j * 512) rfl cs _ (unhide HR) Try.underlying60 rfl (by rw [hc]; exact sizeBlock) ?_) | (refine wpList_store_row rfl 60 (.tmp 6) (.tmp 38) rfl w.heap.size cs.toArray rfl rfl 60 (noughts 512) (unhide H0) (by rw [unhide HS]; exact sizeBlock) (by rw [unhide HS, size_noughts]) (all_oneCell_toArray h1) ?_))
    refine bodyPost_ret (v := .agg cs.toArray) (results_cell_row rfl _ _ w.heap.size 60 cs.toArray (0, 0) _ rfl (setRow_heap _ _ _ _ _ _ (unhide H0)) Try.underlying60 rfl (by rw [unhide HS]; exact sizeBlock)) rfl ⟨rfl, ?_⟩
    exact (unhide HB).trans (below_setRowD _ _ _ _ (Nat.le_refl _))
  · have ht : p.tmod ((L : Int) + 1) = ((j : Int) + 1) := by rw [tm_pos p hn L, hp]; rfl
    clear hp
    go_enter Try.func30, Try.ntmps30
    go_wp2_with (first | (refine wpList_alloc_block rfl rfl ?_) | (refine wpList_load_mid rfl 60 (.tmp 37) rfl q (j * 512) rfl cs _ (unhide HR) Try.underlying60 rfl (by rw [hc]; exact sizeBlock) ?_) | (refine wpList_store_row rfl 60 (.tmp 6) (.tmp 38) rfl w.heap.size cs.toArray rfl rfl 60 (noughts 512) (unhide H0) (by rw [unhide HS]; exact sizeBlock) (by rw [unhide HS, size_noughts]) (all_oneCell_toArray h1) ?_))
    refine bodyPost_ret (v := .agg cs.toArray) (results_cell_row rfl _ _ w.heap.size 60 cs.toArray (0, 0) _ rfl (setRow_heap _ _ _ _ _ _ (unhide H0)) Try.underlying60 rfl (by rw [unhide HS]; exact sizeBlock)) rfl ⟨rfl, ?_⟩
    exact (unhide HB).trans (below_setRowD _ _ _ _ (Nat.le_refl _))

end Go.Proofs.Ytfoanlmmjbclgaa

/-
  DERIVED. The document's Pick, to the letter.
-/
namespace Go.Proofs.Ytfoanlmmjbclgaa
open Go.RowKit
set_option linter.unusedVariables false

theorem Pick_eq (p : Int) (L : Nat) (w : World) (p1 : -9223372036854775808 ≤ p) (p2 : p < 9223372036854775808) (hL : L < 9223372036854775807) :
    Calls Try.prog 31 #[.int .i64 p, .int .i64 ((L : Int) + 1)] w fun e w' => e = .returned (.int .i64 (pickR p L)) ∧ w = w' := by
  have hpos : (L : Int) + 1 ≠ 0 := by omega
  by_cases hn : p < 0
  · have ht := tm_neg p hn L
    go_enter Try.func31, Try.ntmps31
    go_wp2
    go_ret
    exact ⟨rfl, rfl⟩
  · have ht := tm_pos p hn L
    go_enter Try.func31, Try.ntmps31
    go_wp2
    go_ret
    exact ⟨rfl, rfl⟩

theorem Pick_byte (p : Int) (w : World) (p1 : -9223372036854775808 ≤ p) (p2 : p < 9223372036854775808) :
    Calls Try.prog 31 #[.int .i64 p, .int .i64 256] w fun e w' => e = .returned (.int .i64 (pickR p 255)) ∧ w = w' :=
  Pick_eq p 255 w p1 p2 (by omega)
end Go.Proofs.Ytfoanlmmjbclgaa

/-
  DERIVED. A block of memory that holds bytes; make([]byte, 512).
-/
namespace Go.Proofs.Ytfoanlmmjbclgaa
open Go.RowKit
set_option linter.unusedVariables false

/-- A block of memory that holds these bytes and nothing else. -/
def Row (w : World) (g : Nat) (L : List UInt8) : Prop := w.heap[g]? = some (.cells (L.map bv).toArray 5 (0, 0))
theorem Row.cell {w : World} {g : Nat} {L : List UInt8} (h : Row w g L) (i : Nat) (hi : i < L.length) : w.cell? ⟨g, i, none⟩ = some (bv L[i]) := by
  unfold Row at h
  simp [World.cell?, h, List.getElem?_eq_getElem hi]
theorem Row.frozen {w : World} {g : Nat} {L : List UInt8} (h : Row w g L) (i : Nat) : w.frozen? ⟨g, i, none⟩ = false := frozen_of_row w g i _ _ h
theorem Row.set {w : World} {g : Nat} {L : List UInt8} (h : Row w g L) (i : Nat) (x : UInt8) : Row (w.setCell ⟨g, i, none⟩ (bv x)) g (L.set i x) := by
  unfold Row at h ⊢
  rw [heap_setCell_same w g i _ _ _ h]
  congr 2
  apply Array.ext'
  simp [List.map_set]
theorem Row.below {B : Nat} {w w' : World} {g : Nat} {L : List UInt8} (h : Row w g L) (hb : Below B w w') (hg : g < B) : Row w' g L := (hb.block g hg).trans h

theorem fill_set (x : UInt8) (i : Nat) (h : i < 512) : (List.replicate i x ++ List.replicate (512 - i) 0).set i x = List.replicate (i + 1) x ++ List.replicate (512 - (i + 1)) 0 := by
  rw [List.set_append_right _ _ (by simp)]
  have e : 512 - i = (512 - (i + 1)) + 1 := by omega
  rw [e, List.replicate_succ, List.length_replicate, Nat.sub_self, List.set_cons_zero, List.replicate_succ', List.append_assoc]
  rfl

theorem made_bytes : madeCells #[Value.int .u8 0] 512 = ((List.replicate 512 (0 : UInt8)).map bv).toArray := by
  apply Array.ext'
  rw [toList_madeCells_one, List.map_replicate]
  exact congrArg (List.replicate 512) (show Value.int .u8 0 = bv 0 from rfl)

theorem run_make_512 (w : World) : (Instr.makeSlice 47 (.int .i64 512) (.int .i64 512)).run Try.prog w = .ok (.slice (some ⟨w.heap.size, 0, none⟩) 512 512) (w.alloc (.cells ((List.replicate 512 (0 : UInt8)).map bv).toArray 5)) := by
  obtain ⟨i, hi, hh⟩ := Option.map_eq_some_iff.1 Try.info5
  simp only [Prod.mk.injEq] at hh
  have h := run_make (P := Try.prog) w 47 5 i _ Try.underlying47 hi hh.1 .i64 .i64 512 512 (by omega) (Int.le_refl _) (by rw [hh.2.2]; omega) (by omega)
  rw [h, hh.2.1]
  show Result.ok _ (w.alloc (.cells (madeCells #[Value.int .u8 0] 512) 5)) = _
  rw [made_bytes]
  rfl

end Go.Proofs.Ytfoanlmmjbclgaa

/-
  DERIVED. The law's Block: a block of one byte, and a few at its beginning.
-/
namespace Go.Proofs.Ytfoanlmmjbclgaa
open Go.RowKit
set_option linter.unusedVariables false

/-- So many bytes are filled. -/
def fillL (x : UInt8) (k : Nat) : List UInt8 := List.replicate k x ++ List.replicate (512 - k) 0
theorem fillL_len (x : UInt8) (k : Nat) (h : k ≤ 512) : (fillL x k).length = 512 := by simp [fillL]; omega
theorem fillL_set (x : UInt8) (k : Nat) (h : k < 512) : (fillL x k).set k x = fillL x (k + 1) := fill_set x k h

/-- The bytes of a string that go over, and those that stay. -/
def headL (s : ByteArray) (L : List UInt8) : List UInt8 := s.data.toList.take L.length ++ L.drop s.size

theorem run_copy_str (w : World) (ty : TypeId) (g cap : Nat) (L : List UInt8) (s : ByteArray) (hg : Row w g L) :
    ∃ w', (Builtin.copy_ #[47, 9] ty #[.slice (some ⟨g, 0, none⟩) L.length cap, .string s]).run Try.prog w = .ok (goInt (Nat.min s.size L.length)) w' ∧ Row w' g (headL s L) ∧ w' = w.setRow g ((headL s L).map bv).toArray := by
  obtain ⟨m, hm⟩ : ∃ m, m = Nat.min s.size L.length := ⟨_, rfl⟩
  obtain ⟨cs, hcs⟩ : ∃ cs : List Value, cs = List.take m (List.map bv s.data.toList) := ⟨_, rfl⟩
  have hsz : s.data.toList.length = s.size := Array.length_toList
  have hm1 : m ≤ s.size := by rw [hm]; exact Nat.min_le_left _ _
  have hm2 : m ≤ L.length := by rw [hm]; exact Nat.min_le_right _ _
  have hlen : cs.length = m := by rw [hcs, List.length_take, List.length_map, hsz]; exact Nat.min_eq_left hm1
  have h1 : ∀ v ∈ cs, v.oneCell' = true := by
    rw [hcs]
    intro v hv
    obtain ⟨x, _, rfl⟩ := List.mem_map.1 (List.mem_of_mem_take hv)
    rfl
  have hst := run_storeCells_at Try.prog g 0 5 cs 0 (L.map bv).toArray w hg (by simp [hlen]; exact hm2) h1
  have hfin : (cs ++ (L.map bv).drop cs.length) = (headL s L).map bv := by
    unfold headL
    rw [hlen, List.map_append, hcs, List.map_take, List.map_drop]
    rcases Nat.le_total s.size L.length with h | h
    · have e : m = s.size := by rw [hm]; exact Nat.min_eq_left h
      rw [e, List.take_of_length_le (by simp [hsz]), List.take_of_length_le (by simp only [List.length_map, hsz]; exact h)]
    · have e : m = L.length := by rw [hm]; exact Nat.min_eq_right h
      rw [e, List.drop_eq_nil_of_le (i := L.length) (by simp), List.drop_eq_nil_of_le (i := s.size) (by simpa using h)]
  obtain ⟨i, hi, hh⟩ := Option.map_eq_some_iff.1 Try.info5
  simp only [Prod.mk.injEq] at hh
  refine ⟨w.setRow g ((headL s L).map bv).toArray, ?_, setRow_heap _ _ _ _ _ _ hg, rfl⟩
  rw [← hfin]
  simp only [Nat.zero_add, List.take_zero, List.nil_append] at hst
  simp [Builtin.copy_, run_underlying Try.underlying47, Builtin.lenOf, Builtin.firstCells, sizeOf, typeInfo, hi, ← hm]
  rw [← hcs, hst]
  rfl

set_option maxRecDepth 20000 in
theorem Block_any (p : Int) (s : ByteArray) (w : World) (p1 : -9223372036854775808 ≤ p) (p2 : p < 9223372036854775808) :
    Calls Try.prog 14 #[.int .i64 p, .string s] w fun e w' => e = .returned (.slice (some ⟨w.heap.size, 0, none⟩) 512 512) ∧ Row w' w.heap.size (headL s (fillL (UInt8.ofNat (pickR p 255)) 512)) ∧ Below w.heap.size w w' := by
  have mk := run_make_512 w
  have HB := hide ((Below.refl w.heap.size w).alloc (Nat.le_refl _) (.cells ((List.replicate 512 (0 : UInt8)).map bv).toArray 5))
  have HR : Hid (Row (w.alloc (.cells ((List.replicate 512 (0 : UInt8)).map bv).toArray 5)) w.heap.size (fillL (UInt8.ofNat (pickR p 255)) 0)) := hide (heap_alloc_self _ _)
  obtain ⟨w0, hw0⟩ : ∃ w0, w0 = w.alloc (.cells ((List.replicate 512 (0 : UInt8)).map bv).toArray 5) := ⟨_, rfl⟩
  rw [← hw0] at mk HB HR
  clear hw0
  go_enter Try.func14, Try.ntmps14
  go_wp2
  go_loopw [6] (fun i wr => ∃ k : Nat, k ≤ 512 ∧ i = .int .i64 k ∧ Row wr w.heap.size (fillL (UInt8.ofNat (pickR p 255)) k) ∧ Below w.heap.size w wr) (fun i _ => 512 - (intOf i).toNat)
  case atStart => exact ⟨0, by omega, rfl, unhide HR, unhide HB⟩
  case round =>
    obtain ⟨k, hk, rfl, h0, hb⟩ := hrel
    by_cases h5 : k < 512
    · obtain ⟨y, hcl⟩ : ∃ y, wr.cell? ⟨w.heap.size, k, none⟩ = some (.int .u8 y) := ⟨_, h0.cell k (by rw [fillL_len _ _ hk]; exact h5)⟩
      have hfz := h0.frozen k
      have h2 := h0.set k (UInt8.ofNat (pickR p 255))
      rw [fillL_set _ _ h5] at h2
      have H1 := hide h2
      clear h2
      have HB1 := hide (hb.setCell (p := ⟨w.heap.size, k, none⟩) (by simp) (bv (UInt8.ofNat (pickR p 255))))
      clear h0 hb
      go_wp2_with (go_at_call 31; refine (Pick_byte p _ p1 p2).mono ?_; rintro e w' ⟨rfl, rfl⟩)
      have hb8 : ((pickR p 255 : Nat) : Int) % 256 = ((UInt8.ofNat (pickR p 255)).toNat : Int) := by rw [UInt8.toNat_ofNat']; omega
      rw [hb8]
      refine ⟨⟨k + 1, by omega, rfl, unhide H1, unhide HB1⟩, ?_⟩
      simp [intOf]
      omega
    · obtain rfl : k = 512 := by omega
      obtain ⟨w2, hcp, hr2, he2⟩ := run_copy_str wr 3 w.heap.size 512 _ s h0
      rw [fillL_len _ _ hk] at hcp
      have HX := hide (And.intro hr2 (hb.trans (show Below w.heap.size wr w2 by rw [he2]; exact below_setRowD _ _ _ _ (Nat.le_refl _))))
      clear hr2 he2 h0 hb HR mk
      go_wp2
      go_ret
      exact ⟨rfl, unhide HX⟩
end Go.Proofs.Ytfoanlmmjbclgaa

/-
  DERIVED. The device in memory: what is flushed, what is pending, and which blocks of memory are its own.
-/
namespace Go.Proofs.Ytfoanlmmjbclgaa
open Go.RowKit Go.Maps
set_option linter.unusedVariables false

abbrev nilS : Value := .slice none 0 0
/-- A map's element, as it is. -/
def rawE (v : Value) : Option (DataW Value × List MemPlace) := some (.held v, [])
/-- Blocks as cells. -/
def cellsOf (bs : List (List UInt8)) : List Value := bs.flatMap fun L => L.map bv
/-- Each is a whole block. -/
def Wide (bs : List (List UInt8)) : Prop := ∀ L ∈ bs, L.length = 512

theorem cellsOf_cons (L : List UInt8) (bs : List (List UInt8)) : cellsOf (L :: bs) = L.map bv ++ cellsOf bs := rfl
theorem cellsOf_append (xs bs : List (List UInt8)) : cellsOf (xs ++ bs) = cellsOf xs ++ cellsOf bs := by simp [cellsOf]
theorem cellsOf_snoc (xs : List (List UInt8)) (L : List UInt8) : cellsOf (xs ++ [L]) = cellsOf xs ++ L.map bv := by simp [cellsOf]
theorem Wide.cons {L : List UInt8} {bs : List (List UInt8)} (h : Wide (L :: bs)) : L.length = 512 ∧ Wide bs := ⟨h L (by simp), fun M hM => h M (by simp [hM])⟩
theorem Wide.snoc {L : List UInt8} {bs : List (List UInt8)} (h : Wide bs) (hL : L.length = 512) : Wide (bs ++ [L]) := by
  intro M hM
  rcases List.mem_append.1 hM with h1 | h1
  · exact h M h1
  · rw [List.mem_singleton.1 h1]; exact hL
theorem Wide.set {L : List UInt8} {bs : List (List UInt8)} (h : Wide bs) (hL : L.length = 512) (k : Nat) : Wide (bs.set k L) := by
  intro M hM
  rcases List.mem_or_eq_of_mem_set hM with h1 | h1
  · exact h M h1
  · rw [h1]; exact hL
theorem cellsOf_len : ∀ {bs : List (List UInt8)}, Wide bs → (cellsOf bs).length = bs.length * 512
  | [], _ => rfl
  | L :: r, h => by
    rw [cellsOf_cons, List.length_append, List.length_map, h.cons.1, cellsOf_len h.cons.2, List.length_cons]; omega
theorem cellsOf_one (bs : List (List UInt8)) : ∀ v ∈ cellsOf bs, v.oneCell' = true := by
  intro v hv
  obtain ⟨L, _, h⟩ := List.mem_flatMap.1 hv
  exact bv_one L v h
/-- The k-th block among the cells. -/
theorem cellsOf_at : ∀ {bs : List (List UInt8)}, Wide bs → ∀ (k : Nat) (hk : k < bs.length) (j : Nat), j < 512 → (cellsOf bs)[k * 512 + j]? = (bs[k].map bv)[j]?
  | [], _, k, hk, _, _ => by simp at hk
  | L :: r, h, 0, _, j, hj => by
    have hl : (L.map bv).length = 512 := by rw [List.length_map]; exact h.cons.1
    rw [cellsOf_cons, Nat.zero_mul, Nat.zero_add, List.getElem?_append_left (by rw [hl]; exact hj)]; rfl
  | L :: r, h, k + 1, hk, j, hj => by
    have hl : (L.map bv).length = 512 := by rw [List.length_map]; exact h.cons.1
    rw [cellsOf_cons, List.getElem?_append_right (by rw [hl]; omega), hl]
    have e : (k + 1) * 512 + j - 512 = k * 512 + j := by omega
    rw [e, cellsOf_at h.cons.2 k (by simpa using hk) j hj]
    rfl
theorem cellsOf_set : ∀ {bs : List (List UInt8)}, Wide bs → ∀ (k : Nat), k < bs.length → ∀ (L : List UInt8), L.length = 512 → cellsOf (bs.set k L) = (cellsOf bs).take (k * 512) ++ L.map bv ++ (cellsOf bs).drop (k * 512 + 512)
  | [], _, k, hk, _, _ => by simp at hk
  | M :: r, h, 0, _, L, hL => by
    have hl : (M.map bv).length = 512 := by rw [List.length_map]; exact h.cons.1
    have e : (M.map bv ++ cellsOf r).drop (0 * 512 + 512) = cellsOf r := by
      rw [List.drop_append_of_le_length (by rw [hl]; omega), List.drop_eq_nil_of_le (by rw [hl]; omega)]; rfl
    rw [List.set_cons_zero, cellsOf_cons, cellsOf_cons, e, Nat.zero_mul, List.take_zero]
    rfl
  | M :: r, h, k + 1, hk, L, hL => by
    have hl : (M.map bv).length = 512 := by rw [List.length_map]; exact h.cons.1
    rw [List.set_cons_succ, cellsOf_cons, cellsOf_cons, cellsOf_set h.cons.2 k (by simpa using hk) L hL]
    have e1 : (k + 1) * 512 = (M.map bv).length + k * 512 := by omega
    have e2 : (k + 1) * 512 + 512 = (M.map bv).length + (k * 512 + 512) := by rw [e1, Nat.add_assoc]
    rw [e2, e1, List.take_length_add_append, List.drop_length_add_append]
    simp [List.append_assoc]

/-- A row of blocks in memory. -/
abbrev Blks (w : World) (v : Value) (bs : List (List UInt8)) : Prop := w.ownsRow 0 60 512 v bs.length (cellsOf bs)

theorem Blks.range {w : World} {q cap : Nat} {bs : List (List UInt8)} {n : Nat} (hw : Wide bs) (h : Blks w (.slice (some ⟨q, 0, none⟩) n cap) bs) (k : Nat) (hk : k < bs.length) : w.rangeAt q (k * 512) (bs[k].map bv) := by
  intro j v hj
  have hjl : j < 512 := by
    have := (List.getElem?_eq_some_iff.1 hj).1
    rw [List.length_map, hw _ (List.getElem_mem hk)] at this
    exact this
  have h1 := World.ownsRow.cells h (g := q) rfl (k * 512 + j) v (by rw [cellsOf_at hw k hk j hjl]; exact hj)
  rw [addr_add, Nat.zero_add] at h1
  exact h1

/-- The writes that are pending: the map, and for each block the row of its writes. -/
structure PendAt (w : World) (F : Nat → Prop) (m g n N : Nat) (pend : Nat → List (List UInt8)) (vf : Nat → Value) (D : DataW Value) : Prop where
  own : w.ownsMap Try.prog 3 rawE m N D
  at_ : ∀ k : Nat, k < n → D.atKey (.int .i64 k) (.held nilS) = .held (vf k)
  has : ∀ kl, Maps.has D kl = true ↔ ∃ k : Nat, k < n ∧ pend k ≠ [] ∧ kl = .int .i64 k
  rows : ∀ k, Blks w (vf k) (pend k)
  len : ∀ k, (pend k).length ≤ N
  foot : ∀ k q, (vf k).ownBlock = some q → F q ∧ q ≠ g
  apart : ∀ k k' q, (vf k).ownBlock = some q → (vf k').ownBlock = some q → k = k'
  wide : ∀ k, Wide (pend k)
  out : ∀ k, n ≤ k → pend k = []

/-- What a device is. -/
structure St where
  safe : List (List UInt8)
  pend : Nat → List (List UInt8)
  fused : Bool
  fuse : Int
  down : Bool
  ops : Int

structure DevIn (w : World) (b : Nat) (F : Nat → Prop) (N : Nat) (S : St) (g c m : Nat) (vf : Nat → Value) (D : DataW Value) : Prop where
  dev : DevAt w b (.slice (some ⟨g, 0, none⟩) S.safe.length c) (.map (some m)) S.fused S.fuse S.down S.ops
  safe : Blks w (.slice (some ⟨g, 0, none⟩) S.safe.length c) S.safe
  wide : Wide S.safe
  pend : PendAt w F m g S.safe.length N S.pend vf D
  fb : F b
  fg : F g
  fm : F m
  f1 : 0 ≤ S.fuse
  f2 : S.fuse < 9223372036854775808
  o1 : 0 ≤ S.ops
  o2 : S.ops ≤ N
  n1 : 64 ≤ S.safe.length
  n2 : S.safe.length ≤ 512

/-- The device at block b, all that it has among the blocks of F; N: no list is longer. -/
def Dev (w : World) (b : Nat) (F : Nat → Prop) (N : Nat) (S : St) : Prop := ∃ g c m vf D, DevIn w b F N S g c m vf D

/-- Nothing that was there has turned but blocks of F. -/
structure Kept (F : Nat → Prop) (w w' : World) : Prop where
  os : w'.os = w.os
  tape : w'.tape = w.tape
  output : w'.output = w.output
  size : w.heap.size ≤ w'.heap.size
  block : ∀ k, k < w.heap.size → ¬ F k → w'.heap[k]? = w.heap[k]?

theorem Kept.refl (F : Nat → Prop) (w : World) : Kept F w w := ⟨rfl, rfl, rfl, Nat.le_refl _, fun _ _ _ => rfl⟩
theorem Kept.trans {F : Nat → Prop} {a b c : World} (h : Kept F a b) (k : Kept F b c) : Kept F a c :=
  ⟨k.os.trans h.os, k.tape.trans h.tape, k.output.trans h.output, Nat.le_trans h.size k.size, fun i hi hn => (k.block i (Nat.lt_of_lt_of_le hi h.size) hn).trans (h.block i hi hn)⟩
theorem Kept.mono {F G : Nat → Prop} {a b : World} (h : Kept F a b) (hFG : ∀ k, k < a.heap.size → F k → G k) : Kept G a b :=
  ⟨h.os, h.tape, h.output, h.size, fun i hi hn => h.block i hi fun hf => hn (hFG i hi hf)⟩
theorem Kept.below {F : Nat → Prop} {a b : World} {B : Nat} (h : Kept F a b) (hB : B ≤ a.heap.size) (hF : ∀ k, F k → B ≤ k) : Below B a b :=
  ⟨h.os, h.tape, h.output, h.size, fun i hi => h.block i (by omega) fun hf => by have := hF i hf; omega⟩
theorem Kept.of_below {F : Nat → Prop} {a b : World} (h : Below a.heap.size a b) : Kept F a b := ⟨h.os, h.tape, h.output, h.size, fun i hi _ => h.block i hi⟩
theorem Kept.of_only {F : Nat → Prop} {a b : World} {k : Nat} (h : Only k a b) (hk : F k) : Kept F a b :=
  ⟨(h.below 0 (Nat.zero_le _)).os, (h.below 0 (Nat.zero_le _)).tape, (h.below 0 (Nat.zero_le _)).output, by rw [h.size]; exact Nat.le_refl _, fun i hi hn => h.other i fun e => hn (e ▸ hk)⟩
theorem Kept.of_grown {F : Nat → Prop} {a b : World} {row : Option Nat} (h : a.grownBy b row) (hk : ∀ k, row = some k → F k) : Kept F a b :=
  ⟨h.os, h.tape, h.output, h.size, fun i hi hn => h.block i hi fun e => hn (hk i e.symm)⟩

/-- A row of blocks, where its block of memory stands. -/
theorem Blks.frame {w w' : World} {v : Value} {bs : List (List UInt8)} (h : Blks w v bs) (hk : ∀ q, v.ownBlock = some q → q < w.heap.size → w'.heap[q]? = w.heap[q]?) : Blks w' v bs := by
  obtain ⟨h1, h2⟩ := h
  refine ⟨h1, ?_⟩
  rcases h2 with h2 | ⟨q, cap, cur, rfl, hb, hg, r⟩
  · exact .inl h2
  · exact .inr ⟨q, cap, cur, rfl, hb, (hk q rfl (lt_of_block hg)).trans hg, r⟩

theorem ownsMap_frame {H : Type} {P : Program} {k : TypeId} {R : Value → Option (DataW H × List MemPlace)} {w w' : World} {b n : Nat} {D : DataW H} (h : w.ownsMap P k R b n D) (hk : w'.heap[b]? = w.heap[b]?) : w'.ownsMap P k R b n D := by
  obtain ⟨es, clock, hb, r⟩ := h
  exact ⟨es, clock, hk.trans hb, r⟩

theorem PendAt.frame {w w' : World} {F : Nat → Prop} {m g n N : Nat} {pend : Nat → List (List UInt8)} {vf : Nat → Value} {D : DataW Value} (h : PendAt w F m g n N pend vf D) (hm : F m) (hk : ∀ k, F k → k < w.heap.size → w'.heap[k]? = w.heap[k]?) : PendAt w' F m g n N pend vf D :=
  { h with own := ownsMap_frame h.own (hk m hm h.own.lt), rows := fun k => Blks.frame (h.rows k) fun q hq hlt => hk q (h.foot k q hq).1 hlt }

theorem DevIn.frame {w w' : World} {b : Nat} {F : Nat → Prop} {N : Nat} {S : St} {g c m : Nat} {vf : Nat → Value} {D : DataW Value} (h : DevIn w b F N S g c m vf D) (hk : ∀ k, F k → k < w.heap.size → w'.heap[k]? = w.heap[k]?) : DevIn w' b F N S g c m vf D :=
  { h with dev := (hk b h.fb h.dev.lt).trans h.dev, safe := Blks.frame h.safe fun q hq hlt => hk q (by cases hq; exact h.fg) hlt, pend := h.pend.frame h.fm hk }
theorem Dev.frame {w w' : World} {b : Nat} {F : Nat → Prop} {N : Nat} {S : St} (h : Dev w b F N S) (hk : ∀ k, F k → k < w.heap.size → w'.heap[k]? = w.heap[k]?) : Dev w' b F N S := by
  obtain ⟨g, c, m, vf, D, h⟩ := h
  exact ⟨g, c, m, vf, D, h.frame hk⟩
theorem Dev.grown {w w' : World} {b : Nat} {F : Nat → Prop} {N : Nat} {S : St} (h : Dev w b F N S) (hb : Below w.heap.size w w') : Dev w' b F N S := h.frame fun k _ hk => hb.block k hk
theorem PendAt.mono {w : World} {F G : Nat → Prop} {m g n N M : Nat} {pend : Nat → List (List UInt8)} {vf : Nat → Value} {D : DataW Value} (h : PendAt w F m g n N pend vf D) (hF : ∀ k, F k → G k) (hN : N ≤ M) : PendAt w G m g n M pend vf D :=
  { h with own := h.own.mono hN, len := fun k => Nat.le_trans (h.len k) hN, foot := fun k q hq => ⟨hF _ (h.foot k q hq).1, (h.foot k q hq).2⟩ }
theorem Dev.mono {w : World} {b : Nat} {F G : Nat → Prop} {N M : Nat} {S : St} (h : Dev w b F N S) (hF : ∀ k, F k → G k) (hN : N ≤ M) : Dev w b G M S := by
  obtain ⟨g, c, m, vf, D, h⟩ := h
  exact ⟨g, c, m, vf, D, { h with pend := h.pend.mono hF hN, fb := hF _ h.fb, fg := hF _ h.fg, fm := hF _ h.fm, o2 := by have := h.o2; omega }⟩

theorem keyedInt : Keyed Try.prog 3 := int_keyed Try.underlying3
theorem zeroBlocks (w : World) : (zeroValue 53).run Try.prog w = .ok nilS w := by kernel_rfl
theorem key_int (k : Nat) (h : k < 9223372036854775808) : keyOf Try.prog 3 (.int .i64 k) = some (.int .i64 k) := keyOf_int_mk Try.underlying3 (WalkArith.wf_i64 (by omega))

/-- What the map holds at a block's number. -/
theorem look_of {w : World} {m N : Nat} {D : DataW Value} {v : Value} (h : w.ownsMap Try.prog 3 rawE m N D) (k : Nat) (hk : k < 9223372036854775808) (hat : D.atKey (.int .i64 k) (.held nilS) = .held v) :
    (Instr.lookup 54 (.map (some m)) (.int .i64 k) false).run Try.prog w = .ok v w := by
  obtain ⟨u, ps, hrun, hv⟩ := h.lookup keyedInt Try.underlying54 (zeroBlocks w) (zd := .held nilS) (zp := []) rfl (key_int k hk)
  rw [hat] at hv
  simp only [rawE, Option.some.injEq, Prod.mk.injEq, DataW.held.injEq] at hv
  rw [hrun, hv.1]
theorem PendAt.look {w : World} {F : Nat → Prop} {m g n N : Nat} {pend : Nat → List (List UInt8)} {vf : Nat → Value} {D : DataW Value} (h : PendAt w F m g n N pend vf D) (k : Nat) (hk : k < n) (hn : n ≤ 512) :
    (Instr.lookup 54 (.map (some m)) (.int .i64 k) false).run Try.prog w = .ok (vf k) w := look_of h.own k (by omega) (h.at_ k hk)
end Go.Proofs.Ytfoanlmmjbclgaa

/-
  DERIVED. A slice of one block, built.
-/
namespace Go.Proofs.Ytfoanlmmjbclgaa
open Go.RowKit Go.Maps
set_option linter.unusedVariables false

theorem infoBlk : ∃ i, Try.prog.info? 60 = some i ∧ i.zero = some (.agg (noughts 512)) ∧ i.size = 512 ∧ i.bytes = 512 := by
  obtain ⟨i, hi, hh⟩ := Option.map_eq_some_iff.1 infoBlock
  simp only [Prod.mk.injEq] at hh
  exact ⟨i, hi, hh.1, hh.2.1, hh.2.2⟩

/-- A slice of one block, out of that block. -/
def mkOne (parts : Array (Nat × Value)) : Sem Value := Instr.buildSlice 53 1 parts
theorem mkOne_eq (parts : Array (Nat × Value)) : Instr.buildSlice 53 1 parts = mkOne parts := rfl
theorem fill_whole (cs : List Value) (z : Array Value) (hz : z.size = cs.length) : ∀ (a b : List Value), cs = a ++ b → ((b.zipIdx a.length).foldl (fun (r : Array Value) (p : Value × Nat) => r.setIfInBounds p.2 p.1) (a.toArray ++ z.extract a.length z.size)) = cs.toArray
  | a, [], h => by
    rw [List.append_nil] at h
    subst h
    simp [← hz]
  | a, x :: b, h => by
    rw [List.zipIdx_cons, List.foldl_cons]
    have hlen : a.length < z.size := by rw [hz, h]; simp
    have e : ((a.toArray ++ z.extract a.length z.size).setIfInBounds a.length x) = ((a ++ [x]).toArray ++ z.extract (a ++ [x]).length z.size) := by
      apply Array.ext
      · simp; omega
      · intro i h1 h2
        have h3 : i < (a.toArray ++ z.extract a.length z.size).size := by simpa using h1
        simp only [Array.size_setIfInBounds, Array.size_append, List.size_toArray, Array.size_extract] at h1
        rw [Array.getElem_setIfInBounds h3]
        by_cases hi : a.length = i
        · subst hi
          simp
        · rw [if_neg hi]
          by_cases hi2 : i < a.length
          · rw [Array.getElem_append_left (by simpa using hi2), Array.getElem_append_left (by simp; omega)]
            simp [List.getElem_append_left hi2]
          · rw [Array.getElem_append_right (by simpa using hi2), Array.getElem_append_right (by simp; omega)]
            simp only [Array.getElem_extract, List.size_toArray, List.length_append, List.length_singleton]
            congr 1
            omega
    rw [e]
    have := fill_whole cs z hz (a ++ [x]) b (by rw [h]; simp)
    rw [List.length_append, List.length_singleton] at this
    rw [List.length_append, List.length_singleton]
    exact this
theorem fill_one (cs : List Value) (hc : cs.length = 512) (z : Array Value) (hzs : z.size = cs.length) : Instr.fill (fun i => some (i * 512, 512)) z [(0, Value.agg cs.toArray)] = some cs.toArray := by
  have hf := fill_whole cs z hzs [] cs rfl
  have e1 : ¬ (((Value.agg cs.toArray).cells.size ≠ 512 || 0 * 512 + (Value.agg cs.toArray).cells.size > z.size) = true) := by
    show ¬ ((cs.toArray.size ≠ 512 || 0 * 512 + cs.toArray.size > z.size) = true)
    rw [List.size_toArray, hzs, hc]; decide
  unfold Instr.fill
  dsimp only
  rw [if_neg e1]
  unfold Instr.fill
  refine congrArg some (Eq.trans ?_ hf)
  show Array.foldl (fun (r : Array Value) (x : Value × Nat) => r.setIfInBounds (0 * 512 + x.snd) x.fst) z cs.toArray.zipIdx = _
  have e4 : ∀ j, 0 * 512 + j = j := fun j => by rw [Nat.zero_mul, Nat.zero_add]
  simp only [e4]
  have e2 : (#[] ++ z.extract ([] : List Value).length z.size : Array Value) = z := by simp
  rw [e2, ← Array.foldl_toList]
  have e3 : cs.toArray.zipIdx.toList = cs.zipIdx := by simp
  rw [e3]
  rfl
theorem run_zeroBlk (w : World) : (zeroValue 60).run Try.prog w = .ok (.agg (noughts 512)) w := by kernel_rfl
theorem run_sizeBlk (w : World) : (sizeOf 60).run Try.prog w = .ok 512 w := by
  obtain ⟨i, hi, hz, hs, hb⟩ := infoBlk
  simp [sizeOf, typeInfo, hi, hs]
theorem run_mkOne (cs : List Value) (hc : cs.length = 512) (w : World) : (mkOne #[(0, .agg cs.toArray)]).run Try.prog w = .ok (.slice (some ⟨w.heap.size, 0, none⟩) 1 1) (w.alloc (.cells cs.toArray 60)) := by
  have hfl := fun z hz => fill_one cs hc z hz
  have hzs : ((Array.range (1 * 512)).map ((noughts 512)[· % (noughts 512).size]!)).size = cs.length := by rw [Array.size_map, Array.size_range, hc]
  have h0 : ¬ (1 * 512 > 2 ^ 24) := by decide
  have h1 : ¬ (1 * 512 = 0) := by decide
  unfold mkOne Instr.buildSlice
  rw [Sem.run_bind, run_underlying Try.underlying53, Result.andThen_ok]
  dsimp only
  rw [Sem.run_bind, run_sizeBlk, Result.andThen_ok, if_neg h0, if_neg h1, Sem.run_bind, run_zeroBlk, Result.andThen_ok, Sem.run_bind, Sem.run_pure, Result.andThen_ok]
  show Sem.run Try.prog (match Instr.fill (fun i => some (i * 512, 512)) ((Array.range (1 * 512)).map ((noughts 512)[· % (noughts 512).size]!)) [(0, Value.agg cs.toArray)] with | some cells => _ | _ => _) w = _
  rw [hfl _ hzs]
  simp [newRow]
end Go.Proofs.Ytfoanlmmjbclgaa

/-
  DERIVED. Write, where it writes.
-/
namespace Go.Proofs.Ytfoanlmmjbclgaa
open Go.RowKit Go.Maps
set_option linter.unusedVariables false

theorem sizeU8 : (Try.prog.info? 5).map (·.size) = some 1 := by kernel_rfl

/-- A block's copy into a new array. -/
theorem copy_new (w : World) (ty : TypeId) (db off cap : Nat) (L : List UInt8) (hL : L.length = 512) (hlt : db < w.heap.size) (hc : ∀ i, (h : i < L.length) → w.cell? ⟨db, off + i, none⟩ = some (bv L[i])) :
    (Builtin.copy_ #[47, 47] ty #[.slice (some ⟨w.heap.size, 0, none⟩) 512 512, .slice (some ⟨db, off, none⟩) 512 cap]).run Try.prog (w.alloc (.cells (noughts 512) 60)) = .ok (goInt 512) (w.alloc (.cells (L.map bv).toArray 60)) := by
  have hl : (L.map bv).length = 512 := by rw [List.length_map]; exact hL
  have h := run_copy_row (P := Try.prog) (w.alloc (.cells (noughts 512) 60)) 47 47 ty 5 w.heap.size 0 512 512 ⟨db, off, none⟩ 512 cap (noughts 512) 60 (L.map bv) Try.underlying47 sizeU8 (heap_alloc_self w _) hl ?_ (by rw [hl, size_noughts]; exact Nat.le_refl _) (bv_one L)
  · rw [hl] at h
    rw [h, World.setRow_alloc_new]
    have e : ((noughts 512).toList.take 0 ++ L.map bv ++ (noughts 512).toList.drop (0 + 512)) = L.map bv := by
      rw [List.drop_eq_nil_of_le (by rw [Array.length_toList, size_noughts]; omega), List.append_nil]; rfl
    rw [e]
    rfl
  · intro j v hj
    rw [addr_add]
    have hjl : j < L.length := by have := (List.getElem?_eq_some_iff.1 hj).1; simpa using this
    rw [World.cell?_alloc_lt _ _ _ hlt, hc j hjl]
    simpa [hjl] using hj

theorem mark_ne {w : World} {b k : Nat} {A C : Array Value} {s t : TypeId} {p q : Nat × Nat} (h1 : w.heap[b]? = some (.cells A s p)) (h2 : w.heap[k]? = some (.cells C t q)) (hne : s ≠ t) : k ≠ b := by
  rintro rfl
  rw [h1] at h2
  simp only [Option.some.injEq, Obj.cells.injEq] at h2
  exact hne h2.2.1

theorem PendAt.frame' {w w' : World} {F : Nat → Prop} {m g n N : Nat} {pend : Nat → List (List UInt8)} {vf : Nat → Value} {D : DataW Value} (h : PendAt w F m g n N pend vf D) (hm : w'.heap[m]? = w.heap[m]?) (hk : ∀ k q, (vf k).ownBlock = some q → q < w.heap.size → w'.heap[q]? = w.heap[q]?) : PendAt w' F m g n N pend vf D :=
  { h with own := ownsMap_frame h.own hm, rows := fun k => Blks.frame (h.rows k) fun q hq hlt => hk k q hq hlt }

theorem Blks.mark {w : World} {v : Value} {bs : List (List UInt8)} (h : Blks w v bs) {q : Nat} (hq : v.ownBlock = some q) : ∃ cur, w.heap[q]? = some (.cells cur 60 (0, 0)) := by
  rcases h.2 with ⟨rfl, _⟩ | ⟨g, cap, cur, rfl, hb, hg, r⟩
  · cases hq
  · cases hq; exact ⟨cur, hg⟩

/-- The device where only its own six cells have turned. -/
theorem DevIn.turn {w w' : World} {b : Nat} {F : Nat → Prop} {N M : Nat} {S T : St} {g c m : Nat} {vf : Nat → Value} {D : DataW Value} (h : DevIn w b F N S g c m vf D) (ho : Only b w w') (hN : N ≤ M)
    (hd : DevAt w' b (.slice (some ⟨g, 0, none⟩) S.safe.length c) (.map (some m)) T.fused T.fuse T.down T.ops) (hs : T.safe = S.safe) (hp : T.pend = S.pend) (f1 : 0 ≤ T.fuse) (f2 : T.fuse < 9223372036854775808) (o1 : 0 ≤ T.ops) (o2 : T.ops ≤ M) : DevIn w' b F M T g c m vf D := by
  have hne : ∀ q, (∃ cur, w.heap[q]? = some (.cells cur 60 (0, 0))) → q ≠ b := fun q ⟨cur, hq⟩ => mark_ne h.dev hq (by decide)
  have hsm : w'.heap[m]? = w.heap[m]? := ho.other m (by
    rintro rfl
    obtain ⟨es, clock, hb, _⟩ := h.pend.own
    have := h.dev
    unfold DevAt at this
    rw [this] at hb; cases hb)
  have hp2 := (h.pend.frame' hsm fun k q hq _ => ho.other q (hne q ((h.pend.rows k).mark hq))).mono (fun _ hk => hk) hN
  exact { dev := by rw [hs]; exact hd, safe := by rw [hs]; exact Blks.frame h.safe fun q hq _ => ho.other q (hne q (Blks.mark h.safe hq)), wide := by rw [hs]; exact h.wide, pend := by rw [hs, hp]; exact hp2, fb := h.fb, fg := h.fg, fm := h.fm, f1, f2, o1, o2, n1 := by rw [hs]; exact h.n1, n2 := by rw [hs]; exact h.n2 }

/-- A device behind an operation that went, or that did not. -/
def St.burn (S : St) : St := { S with fuse := burnF S.fused S.fuse, down := burnD S.fused S.fuse S.down, ops := burnO S.fused S.fuse S.ops }
theorem burnF_lo (fused : Bool) (fuse : Int) (h : 0 ≤ fuse) : 0 ≤ burnF fused fuse := by
  unfold burnF; cases fused <;> by_cases e : fuse = 0 <;> simp_all; omega
theorem burnF_hi (fused : Bool) (fuse : Int) (h : fuse < 9223372036854775808) : burnF fused fuse < 9223372036854775808 := by
  unfold burnF; split <;> omega
theorem burnO_lo (fused : Bool) (fuse ops : Int) (h : 0 ≤ ops) : 0 ≤ burnO fused fuse ops := by unfold burnO; split <;> omega
theorem burnO_hi (fused : Bool) (fuse ops : Int) (N : Nat) (h : ops ≤ N) : burnO fused fuse ops ≤ ((N + 1 : Nat) : Int) := by unfold burnO; split <;> omega
theorem DevIn.burn {w w' : World} {b : Nat} {F : Nat → Prop} {N : Nat} {S : St} {g c m : Nat} {vf : Nat → Value} {D : DataW Value} (h : DevIn w b F N S g c m vf D) (ho : Only b w w')
    (hd : DevAt w' b (.slice (some ⟨g, 0, none⟩) S.safe.length c) (.map (some m)) S.fused (burnF S.fused S.fuse) (burnD S.fused S.fuse S.down) (burnO S.fused S.fuse S.ops)) : DevIn w' b F (N + 1) S.burn g c m vf D :=
  h.turn ho (Nat.le_succ _) hd rfl rfl (burnF_lo _ _ h.f1) (burnF_hi _ _ h.f2) (burnO_lo _ _ _ h.o1) (burnO_hi _ _ _ _ h.o2)

/-- Pending writes behind one more. -/
def putP (pend : Nat → List (List UInt8)) (k : Nat) (L : List UInt8) : Nat → List (List UInt8) := fun j => if j = k then pend k ++ [L] else pend j
def St.wrote (S : St) (k : Nat) (L : List UInt8) : St := { S with pend := putP S.pend k L }

/-- The map's store behind the append: all that the pending writes are. -/
theorem PendAt.put {w w1 w2 : World} {F : Nat → Prop} {m g n N : Nat} {pend : Nat → List (List UInt8)} {vf : Nat → Value} {D : DataW Value} (h : PendAt w F m g n N pend vf D) (k : Nat) (hk : k < n) (L : List UInt8) (hL : L.length = 512) (q cap : Nat)
    (hF : ∀ j, w.heap.size ≤ j → F j) (hg : g < w.heap.size) (hn : n ≤ 512)
    (hnew : Blks w1 (.slice (some ⟨q, 0, none⟩) ((pend k).length + 1) cap) (pend k ++ [L])) (hgr : w.grownBy w1 (vf k).ownBlock) (hat : (vf k).ownBlock = some q ∨ w.heap.size ≤ q)
    (hown : w2.ownsMap Try.prog 3 rawE m (N + 1) (D.put (.int .i64 k) (.held (.slice (some ⟨q, 0, none⟩) ((pend k).length + 1) cap)))) (hgr2 : w1.grownBy w2 (some m)) :
    PendAt w2 F m g n (N + 1) (putP pend k L) (fun j => if j = k then .slice (some ⟨q, 0, none⟩) ((pend k).length + 1) cap else vf j) (D.put (.int .i64 k) (.held (.slice (some ⟨q, 0, none⟩) ((pend k).length + 1) cap))) := by
  have hmap : IsMap D := by obtain ⟨es, clock, _, _, _, e⟩ := h.own; exact ⟨_, e⟩
  have hkl : WideAt.IsKeyLit (.int .i64 (k : Int)) := keyedInt.key (key_int k (by omega))
  have hne : ∀ j : Nat, j ≠ k → (Lit.int .i64 (j : Int)) ≠ .int .i64 (k : Int) := fun j hj e => hj (by injection e with _ e; omega)
  have hltq : ∀ j p, (vf j).ownBlock = some p → p < w.heap.size := fun j p hp => lt_of_block (Blks.mark (h.rows j) hp).choose_spec
  have hm1 : ∀ j p, j ≠ k → (vf j).ownBlock = some p → w2.heap[p]? = w.heap[p]? := fun j p hj hp => by
    have h1 : some p ≠ (vf k).ownBlock := fun e => hj (h.apart j k p hp e.symm)
    have h2 : p ≠ m := by
      rintro rfl
      obtain ⟨cur, hc⟩ := Blks.mark (h.rows j) hp
      obtain ⟨es, clock, hb, _⟩ := h.own
      rw [hc] at hb; cases hb
    exact (hgr2.block p (Nat.lt_of_lt_of_le (hltq j p hp) hgr.size) (by simpa using h2)).trans (hgr.block p (hltq j p hp) h1)
  have hqm : q ≠ m := by
    rintro rfl
    obtain ⟨cur, hc⟩ := Blks.mark hnew rfl
    obtain ⟨es, clock, hb, _⟩ := hown
    rcases hat with hat | hat
    · obtain ⟨cur2, hc2⟩ := Blks.mark (h.rows k) hat
      obtain ⟨es2, clock2, hb2, _⟩ := h.own
      rw [hc2] at hb2; cases hb2
    · have := h.own.lt; omega
  have hq2 : w2.heap[q]? = w1.heap[q]? := hgr2.block q (lt_of_block (Blks.mark hnew rfl).choose_spec) (by simpa using hqm)
  have hqo : ∀ j, j ≠ k → (vf j).ownBlock ≠ some q := fun j hj e => by
    rcases hat with hat | hat
    · exact hj (h.apart j k q e hat)
    · have := hltq j q e; omega
  refine { own := hown, at_ := ?_, has := ?_, rows := ?_, len := ?_, foot := ?_, apart := ?_, wide := ?_, out := ?_ }
  · intro j hj
    by_cases e : j = k
    · subst e
      rw [atKey_put_same hmap hkl, if_pos rfl]
    · rw [atKey_put_other (hne j e), if_neg e]; exact h.at_ j hj
  · intro kl
    by_cases e : kl = .int .i64 (k : Int)
    · subst e
      refine ⟨fun _ => ⟨k, hk, by simp [putP], rfl⟩, fun _ => has_put_same hmap hkl _⟩
    · rw [has_put_other e, h.has]
      constructor
      · rintro ⟨j, h1, h2, rfl⟩
        have hj : j ≠ k := fun e2 => e (by rw [e2])
        exact ⟨j, h1, by simpa [putP, hj] using h2, rfl⟩
      · rintro ⟨j, h1, h2, rfl⟩
        have hj : j ≠ k := fun e2 => e (by rw [e2])
        exact ⟨j, h1, by simpa [putP, hj] using h2, rfl⟩
  · intro j
    by_cases e : j = k
    · subst e
      simp only [putP, if_true]
      exact Blks.frame (by simpa using hnew) fun p hp _ => by cases hp; exact hq2
    · simp only [putP, if_neg e]
      exact Blks.frame (h.rows j) fun p hp _ => hm1 j p e hp
  · intro j
    by_cases e : j = k
    · subst e
      simp only [putP, if_true, List.length_append, List.length_singleton]
      have := h.len j; omega
    · simp only [putP, if_neg e]
      have := h.len j; omega
  · intro j p hp
    by_cases e : j = k
    · subst e
      simp only [if_true] at hp
      cases hp
      rcases hat with hat | hat
      · exact h.foot j q hat
      · exact ⟨hF q hat, show q ≠ g by omega⟩
    · simp only [if_neg e] at hp
      exact h.foot j p hp
  · intro j j' p hp hp'
    by_cases e : j = k
    · by_cases e' : j' = k
      · rw [e, e']
      · simp only [if_neg e'] at hp'
        rw [if_pos e] at hp
        cases hp
        exact absurd hp' (hqo j' e')
    · by_cases e' : j' = k
      · simp only [if_neg e] at hp
        rw [if_pos e'] at hp'
        cases hp'
        exact absurd hp (hqo j e)
      · simp only [if_neg e] at hp
        simp only [if_neg e'] at hp'
        exact h.apart j j' p hp hp'
  · intro j
    by_cases e : j = k
    · subst e
      simp only [putP, if_true]
      exact (h.wide j).snoc hL
    · simp only [putP, if_neg e]
      exact h.wide j
  · intro j hj
    have e : j ≠ k := by omega
    simp only [putP, if_neg e]
    exact h.out j hj

theorem DevAt.no_byte {w : World} {b : Nat} {fl pm : Value} {fused : Bool} {fuse : Int} {down : Bool} {ops : Int} (h : DevAt w b fl pm fused fuse down ops) (o : Nat) (x : UInt8) (hf : ∃ a n c, fl = .slice a n c) (hp : ∃ r, pm = .map r) : w.cell? ⟨b, o, none⟩ ≠ some (bv x) := by
  unfold DevAt at h
  obtain ⟨_, _, _, rfl⟩ := hf
  obtain ⟨_, rfl⟩ := hp
  simp only [World.cell?, h]
  match o with
  | 0 => simp
  | 1 => simp
  | 2 => simp
  | 3 => simp
  | 4 => simp
  | 5 => simp
  | n + 6 => simp

theorem DevIn.ne_map {w : World} {b : Nat} {F : Nat → Prop} {N : Nat} {S : St} {g c m : Nat} {vf : Nat → Value} {D : DataW Value} (h : DevIn w b F N S g c m vf D) : b ≠ m ∧ g ≠ m ∧ g ≠ b := by
  obtain ⟨es, clock, hb, _⟩ := h.pend.own
  obtain ⟨cur, hg⟩ := Blks.mark h.safe rfl
  have hd := h.dev
  unfold DevAt at hd
  refine ⟨?_, ?_, mark_ne hd hg (by decide)⟩
  · rintro rfl; rw [hd] at hb; cases hb
  · rintro rfl; rw [hg] at hb; cases hb

theorem DevIn.wrote {w W3 W4 : World} {b : Nat} {F : Nat → Prop} {N : Nat} {S : St} {g c m : Nat} {vf : Nat → Value} {D : DataW Value} (h : DevIn w b F N S g c m vf D) (k : Nat) (hk : k < S.safe.length) (L : List UInt8) (hL : L.length = 512) (q cap : Nat)
    (hF : ∀ j, w.heap.size ≤ j → F j)
    (hnew : Blks W3 (.slice (some ⟨q, 0, none⟩) ((S.pend k).length + 1) cap) (S.pend k ++ [L])) (hgr : w.grownBy W3 (vf k).ownBlock) (hat : (vf k).ownBlock = some q ∨ w.heap.size ≤ q)
    (hown : W4.ownsMap Try.prog 3 rawE m (N + 1) (D.put (.int .i64 k) (.held (.slice (some ⟨q, 0, none⟩) ((S.pend k).length + 1) cap)))) (hgr2 : W3.grownBy W4 (some m)) :
    Dev W4 b F (N + 1) (S.wrote k L) ∧ Kept F w W4 := by
  obtain ⟨n1, n2, n3⟩ := h.ne_map
  obtain ⟨cur, hcur⟩ := Blks.mark h.safe rfl
  have hgl : g < w.heap.size := lt_of_block hcur
  have hb2 : ∀ j, j < w.heap.size → j ≠ m → some j ≠ (vf k).ownBlock → W4.heap[j]? = w.heap[j]? := fun j h1 h2 h3 =>
    (hgr2.block j (Nat.lt_of_lt_of_le h1 hgr.size) (by simpa using h2)).trans (hgr.block j h1 h3)
  have hbq : some b ≠ (vf k).ownBlock := fun e => by
    obtain ⟨cur, hcur⟩ := Blks.mark (h.pend.rows k) e.symm
    exact mark_ne h.dev hcur (by decide) rfl
  refine ⟨⟨g, c, m, _, _, { h with dev := (hb2 b h.dev.lt n1 hbq).trans h.dev, safe := ?_, pend := h.pend.put k hk L hL q cap hF hgl h.n2 hnew hgr hat hown hgr2, o2 := ?_ }⟩, ?_⟩
  · exact Blks.frame h.safe fun j hj hl => by
      cases hj
      exact hb2 g hgl n2 fun e => (h.pend.foot k g e.symm).2 rfl
  · have := h.o2; show S.ops ≤ ((N + 1 : Nat) : Int); omega
  · refine (Kept.of_grown hgr fun j hj => (h.pend.foot k j hj).1).trans (Kept.of_grown hgr2 fun j hj => ?_)
    cases hj
    exact h.fm

attribute [local go_sem ↓] mkOne_eq
set_option maxRecDepth 100000 in
set_option maxHeartbeats 3200000 in
theorem Write_in {w : World} {b : Nat} {F : Nat → Prop} {N : Nat} {S : St} {g c m : Nat} {vf : Nat → Value} {D : DataW Value} (k : Nat) (L : List UInt8) (v : Value) (h : DevIn w b F N S g c m vf D) (hk : k < S.safe.length) (hd : S.down = false) (hB : burnE S.fused S.fuse = 0)
    (hv : Sl w v L) (hL : L.length = 512) (hN : N < 1000000) (hF : ∀ j, w.heap.size ≤ j → F j) :
    Calls Try.prog 13 #[.pointer (some ⟨b, 0, none⟩), .int .i64 k, v] w fun e w' => e = .returned (.int .i64 0) ∧ Dev w' b F (N + 2) (S.burn.wrote k L) ∧ Kept F w w' := by
  obtain ⟨db, off, cap, rfl, hdb, hcl⟩ : ∃ db off cap, v = .slice (some ⟨db, off, none⟩) 512 cap ∧ db < w.heap.size ∧ ∀ i, (h : i < L.length) → w.cell? ⟨db, off + i, none⟩ = some (bv L[i]) := by
    rcases hv.cases with ⟨rfl, _⟩ | ⟨db, off, cap, rfl, _, _, h1, h2⟩
    · simp at hL
    · exact ⟨db, off, cap, by rw [hL], h1, h2⟩
  have hE : openE S.safe.length S.down k = 0 := by unfold openE; rw [hd, if_neg (by simp), if_pos (by omega)]
  have HD := hide h
  have HC := hide hcl
  clear h hcl hv
  go_enter Try.func13, Try.ntmps13
  go_wp2_with (first | (go_at_call 32; refine (open_dev k (unhide HD).dev).mono ?_; rintro e w' ⟨rfl, rfl⟩; rw [hE]) | fail)
  refine (burn_dev (unhide HD).dev (unhide HD).f1 (unhide HD).f2 (unhide HD).o1 (by have := (unhide HD).o2; omega)).mono ?_
  rintro e w1 ⟨rfl, d1, o1⟩
  rw [hB]
  have H1 := hide ((unhide HD).burn o1 d1)
  have HK := hide (Kept.of_only (F := F) o1 (unhide HD).fb)
  have hsz : w.heap.size ≤ w1.heap.size := Nat.le_of_eq o1.size.symm
  have hcp := fun ty => copy_new w1 ty db off cap L hL (by omega) (fun i hi => by
    by_cases e : db = b
    · subst e
      exact absurd (unhide HC i hi) (DevAt.no_byte (unhide HD).dev _ _ ⟨_, _, _, rfl⟩ ⟨_, rfl⟩)
    · rw [World.cell?_of_block (o1.other _ (by exact e))]; exact unhide HC i hi)
  clear d1 o1
  obtain ⟨cs, hcs⟩ : ∃ cs, cs = L.map bv := ⟨_, rfl⟩
  have hc5 : cs.length = 512 := by rw [hcs, List.length_map]; exact hL
  have h1c : ∀ v ∈ cs, v.oneCell' = true := by rw [hcs]; exact bv_one L
  rw [← hcs] at hcp
  have HCS := hide hcs
  clear hcs
  obtain ⟨w2, hw2⟩ : ∃ w2, w2 = w1.alloc (.cells cs.toArray 60) := ⟨_, rfl⟩
  rw [← hw2] at hcp
  have hB2 : Below w1.heap.size w1 w2 := by rw [hw2]; exact (Below.refl _ _).alloc (Nat.le_refl _) _
  have H2 := hide ((unhide H1).frame (w' := w2) fun j _ hj => hB2.block j hj)
  have hr2 : w2.rangeAt w1.heap.size 0 cs := by
    have := World.rangeAt_of_block (w := w2) (b := w1.heap.size) (C := cs.toArray) (t := 60) (fr := (0, 0)) (by rw [hw2]; exact heap_alloc_self _ _) 0 512
    have e : (cs.toArray.extract 0 (0 + 512)).toList = cs := by simp [← hc5]
    rw [e] at this; exact this
  have HK2 := hide ((unhide HK).trans (Kept.of_below hB2))
  have hs2 : w1.heap.size < w2.heap.size := by rw [hw2]; simp
  clear hw2 hB2
  have c1 := (unhide H2).dev.c1
  have hl : ∀ W : World, W.heap[m]? = w2.heap[m]? → (Instr.lookup 54 (.map (some m)) (.int .i64 k) false).run Try.prog W = .ok (vf k) W := fun W hW =>
    look_of (ownsMap_frame (unhide H2).pend.own hW) k (by have := (unhide H2).n2; have : k < S.safe.length := hk; have : S.safe.length ≤ 512 := (unhide HD).n2; omega) ((unhide H2).pend.at_ k hk)
  have hu := Try.underlying60
  have hi : (Try.prog.info? 60).map (·.size) = some cs.length := by rw [hc5]; exact sizeBlock
  have hmlt := (unhide H2).pend.own.lt
  have hblt := (unhide H2).dev.lt
  have hlA := hl w2.drew rfl
  have hlB := hl (w2.alloc (.cells cs.toArray 60)).drew (Below.heap_alloc _ _ _ hmlt)
  clear hl
  obtain ⟨i0, hi0, hz0, hz1, hz2⟩ := infoBlk
  have hmk := run_mkOne cs hc5
  have hmark : ∀ q, (vf k).ownBlock = some q → q ≠ b ∧ q ≠ w1.heap.size ∧ q ≠ m := fun q hq => by
    obtain ⟨cur, hcur⟩ := Blks.mark ((unhide H2).pend.rows k) hq
    obtain ⟨cur1, hcur1⟩ := Blks.mark ((unhide H1).pend.rows k) hq
    refine ⟨mark_ne (unhide H2).dev hcur (by decide), Nat.ne_of_lt (lt_of_block hcur1), ?_⟩
    rintro rfl
    obtain ⟨es, clock, hb, _⟩ := (unhide H2).pend.own
    rw [hcur] at hb; cases hb
  have HO : Hid (∀ o, ((w2.alloc o).drew).ownsRow 0 60 512 (vf k) (S.pend k).length (cellsOf (S.pend k))) := hide fun o => World.ownsRow.alloc ((unhide H2).pend.rows k) o
  have HS3 : Hid (∀ W3, (w2.alloc (.cells cs.toArray 60)).drew.grownBy W3 (vf k).ownBlock → W3.cell? ⟨b, 1, none⟩ = some (.map (some m)) ∧ W3.rangeAt w1.heap.size 0 cs) := hide fun W3 hg => by
    refine ⟨(hg.cell_far ⟨b, 1, none⟩ (by show b < (w2.alloc _).heap.size; simp; omega) (fun e => (hmark b e.symm).1 rfl)).trans ((World.cell?_alloc_lt _ _ _ hblt).trans c1), fun j v hj => ?_⟩
    exact (hg.cell_far ⟨w1.heap.size, 0 + j, none⟩ (by show w1.heap.size < (w2.alloc _).heap.size; simp; omega) (fun e => (hmark _ e.symm).2.1 rfl)).trans ((World.cell?_alloc_lt _ _ _ hs2).trans (hr2 j v hj))
  have hbm : b ≠ m := by
    rintro rfl
    obtain ⟨es, clock, hb, _⟩ := (unhide H2).pend.own
    have := (unhide H2).dev
    unfold DevAt at this
    rw [this] at hb; cases hb
  have hwm : w1.heap.size ≠ m := by have := (unhide H1).pend.own.lt; omega
  have HU : Hid (∀ (W3 : World) (u : Value), (w2.alloc (.cells cs.toArray 60)).drew.grownBy W3 (vf k).ownBlock → ∃ W4, (Instr.mapUpdate 54 (.map (some m)) (.int .i64 k) u).run Try.prog W3 = .ok () W4 ∧ W4.ownsMap Try.prog 3 rawE m (N + 1 + 1) (D.put (.int .i64 k) (.held u)) ∧ W3.grownBy W4 (some m)) := hide fun W3 u hg =>
    (ownsMap_frame (unhide H2).pend.own ((hg.block m (by show m < (w2.alloc _).heap.size; simp; omega) (fun e => (hmark m e.symm).2.2 rfl)).trans (Below.heap_alloc _ _ _ hmlt))).update keyedInt Try.underlying54 (by unfold maxLen; omega) (key_int k (by have : S.safe.length ≤ 512 := (unhide HD).n2; omega)) rfl
  have hpl : (S.pend k).length ≤ N + 1 := (unhide H1).pend.len k
  go_wp2_with (first | (refine wpList_alloc_block rfl rfl ?_) | fail)
  go_region_held3 (fun w' => w'.cell? ⟨b, 1, none⟩ = some (.map (some m)) ∧ w'.rangeAt w1.heap.size 0 cs)
    (first | exact ⟨c1, hr2⟩ | exact ⟨(World.cell?_alloc_lt _ _ _ hblt).trans c1, World.rangeAt_alloc hr2 _⟩ | exact unhide HS3 _ hgrow | exact ⟨(hmg.cell_far ⟨b, 1, none⟩ (by have := hgrow.size; simp at this; show b < W3.heap.size; omega) (fun e => hbm (Option.some.inj e))).trans (unhide HS3 _ hgrow).1, fun j v hj => (hmg.cell_far ⟨w1.heap.size, 0 + j, none⟩ (by have := hgrow.size; simp at this; show w1.heap.size < W3.heap.size; omega) (fun e => hwm (Option.some.inj e))).trans ((unhide HS3 _ hgrow).2 j v hj)⟩)
    ((refine step_append_lies _ (by rfl) _ _ _ (by rfl) 0 60 i0 _ 512 512 Try.underlying53 hi0 hz0 hz1 hz2 (by rfl) (by omega) (vf k) (S.pend k).length (cellsOf (S.pend k)) (by rfl) (unhide HO _) ⟨w2.heap.size, 0, none⟩ 1 1 cs (by rfl) (by rw [hc5]) (World.news_of_block (cs := cs.toArray) (t := 60) (fr := (0, 0)) (heap_alloc_new w2 _)) h1c (by omega) (by unfold maxLen; omega) (by omega) (Nat.zero_le _) (w2.heap.size + 1) (by simp) ?_; intro gg cap2 W3 hown3 hgrow hat hlt; obtain ⟨W4, hmu, hmo, hmg⟩ := unhide HU W3 (.slice (some ⟨gg, 0, none⟩) ((S.pend k).length + 1) cap2) hgrow))
  all_goals
    have hX : Dev W4 b F (N + 2) (S.burn.wrote k L) ∧ Kept F w W4 := by
      have hb3 : Below w2.heap.size w2 (w2.alloc (.cells cs.toArray 60)).drew := ((Below.refl _ _).alloc (Nat.le_refl _) _).drew
      have h3 := (unhide H2).frame (w' := (w2.alloc (.cells cs.toArray 60)).drew) fun j _ hj => hb3.block j hj
      have e : cellsOf (S.pend k ++ [L]) = cellsOf (S.pend k) ++ cs := by rw [cellsOf_snoc, unhide HCS]
      have hz := (unhide HK2).size
      obtain ⟨r1, r2⟩ := h3.wrote k hk L hL gg cap2 (fun j hj => hF j (by have := hb3.size; omega)) (by show W3.ownsRow 0 60 512 (.slice (some ⟨gg, 0, none⟩) ((S.pend k).length + 1) cap2) (S.pend k ++ [L]).length (cellsOf (S.pend k ++ [L])); rw [e, List.length_append]; exact hown3) hgrow (hat.imp id (fun h => by show (w2.alloc _).heap.size ≤ gg; simp; omega)) hmo hmg
      exact ⟨r1, (unhide HK2).trans ((Kept.of_below hb3).trans r2)⟩
    clear hmu hmo hmg hgrow hown3
    go_wp2
    go_ret
    exact ⟨rfl, hX⟩
end Go.Proofs.Ytfoanlmmjbclgaa

/-
  DERIVED. The numbers of this dump for the library's slices.Sorted(maps.Keys(m)), written out by the guide's own tool.
-/
namespace Go.Proofs.Ytfoanlmmjbclgaa
open Go.Shelf
def Try.keysA_ren : Go.Shelf.Ren := ⟨fun | 7 => 36 | 10 => 41 | n => n, fun | 23 => 54 | 26 => 3 | 3 => 53 | 28 => 73 | 0 => 0 | 27 => 72 | 33 => 76 | 4 => 4 | n => n, fun | n => n⟩
theorem Try.keysA : Go.Proofs.SlLaysZI.n7 Try.prog Try.keysA_ren := {
  mixed := by kernel_rfl
  f7 := ⟨Try.f36.name, by decide, Try.func36.trans (congrArg some (by kernel_rfl))⟩
  f10 := ⟨Try.f41.name, by decide, Try.func41.trans (congrArg some (by kernel_rfl))⟩
  t0 := Try.underlying0
  a0 := Try.isAgg0
  z0 := Try.sizeOf0
  v0 := Try.zeroValue0
  t4 := Try.underlying4
  a4 := Try.isAgg4
  z4 := Try.sizeOf4
  v4 := Try.zeroValue4
  t23 := Try.underlying54
  a23 := Try.isAgg54
  z23 := Try.sizeOf54
  v23 := Try.zeroValue54
  t26 := Try.underlying3
  a26 := Try.isAgg3
  z26 := Try.sizeOf3
  v26 := Try.zeroValue3
  t27 := Try.underlying72
  a27 := Try.isAgg72
  z27 := Try.sizeOf72
  v27 := Try.zeroValue72
  t28 := Try.underlying73
  a28 := Try.isAgg73
  z28 := Try.sizeOf73
  v28 := Try.zeroValue73
  t33 := Try.underlying76
  a33 := Try.isAgg76
  z33 := Try.sizeOf76
  v33 := Try.zeroValue76 }
def Try.sortedA_ren : Go.Shelf.Ren := ⟨fun | 6 => 35 | 8 => 39 | 9 => 40 | 11 => 42 | 13 => 44 | 12 => 43 | 23 => 54 | 24 => 55 | 14 => 45 | 15 => 46 | 16 => 47 | 17 => 48 | 18 => 49 | 19 => 50 | 20 => 51 | 21 => 52 | 22 => 53 | 25 => 56 | 26 => 57 | 27 => 58 | 28 => 59 | 29 => 60 | 30 => 61 | 31 => 62 | n => n, fun | 26 => 3 | 28 => 73 | 24 => 35 | 0 => 0 | 3 => 3 | 37 => 80 | 48 => 91 | 50 => 93 | 4 => 4 | 40 => 83 | 39 => 82 | 45 => 88 | 5 => 5 | 9 => 9 | 51 => 94 | 55 => 98 | 57 => 100 | 58 => 101 | 33 => 76 | n => n, fun | n => n⟩
theorem Try.sortedA : Go.Proofs.SlLaysZI.n6 Try.prog Try.sortedA_ren := {
  mixed := by kernel_rfl
  f6 := ⟨Try.f35.name, by decide, Try.func35.trans (congrArg some (by kernel_rfl))⟩
  f8 := ⟨Try.f39.name, by decide, Try.func39.trans (congrArg some (by kernel_rfl))⟩
  f11 := ⟨Try.f42.name, by decide, Try.func42.trans (congrArg some (by kernel_rfl))⟩
  t0 := Try.underlying0
  a0 := Try.isAgg0
  z0 := Try.sizeOf0
  v0 := Try.zeroValue0
  t24 := Try.underlying35
  a24 := Try.isAgg35
  z24 := Try.sizeOf35
  v24 := Try.zeroValue35
  t26 := Try.underlying3
  a26 := Try.isAgg3
  z26 := Try.sizeOf3
  v26 := Try.zeroValue3
  t28 := Try.underlying73
  a28 := Try.isAgg73
  z28 := Try.sizeOf73
  v28 := Try.zeroValue73
  i26 := by kernel_rfl }
def Try.sortA_ren : Go.Shelf.Ren := ⟨fun | 5 => 40 | 8 => 44 | 7 => 43 | 19 => 54 | 20 => 55 | 10 => 45 | 11 => 46 | 12 => 47 | 13 => 48 | 14 => 49 | 15 => 50 | 16 => 51 | 17 => 52 | 18 => 53 | 30 => 56 | 31 => 57 | 32 => 58 | 33 => 59 | 34 => 60 | 35 => 61 | 40 => 62 | n => n, fun | 23 => 35 | 25 => 3 | 3 => 3 | 32 => 80 | 22 => 35 | 0 => 0 | 44 => 91 | 46 => 93 | 4 => 4 | 36 => 83 | 35 => 82 | 41 => 88 | 5 => 5 | 9 => 9 | 53 => 94 | 57 => 98 | 63 => 100 | 64 => 101 | n => n, fun | n => n⟩
theorem Try.sortA : Go.Proofs.SlLaysM.n5 Try.prog Try.sortA_ren := {
  mixed := by kernel_rfl
  f5 := ⟨Try.f40.name, by decide, Try.func40.trans (congrArg some (by kernel_rfl))⟩
  f7 := ⟨Try.f43.name, by decide, Try.func43.trans (congrArg some (by kernel_rfl))⟩
  f8 := Try.func44.trans (congrArg some (by kernel_rfl))
  f10 := ⟨Try.f45.name, by decide, Try.func45.trans (congrArg some (by kernel_rfl))⟩
  f11 := ⟨Try.f46.name, by decide, Try.func46.trans (congrArg some (by kernel_rfl))⟩
  f12 := ⟨Try.f47.name, by decide, Try.func47.trans (congrArg some (by kernel_rfl))⟩
  f13 := ⟨Try.f48.name, by decide, Try.func48.trans (congrArg some (by kernel_rfl))⟩
  f14 := ⟨Try.f49.name, by decide, Try.func49.trans (congrArg some (by kernel_rfl))⟩
  f15 := ⟨Try.f50.name, by decide, Try.func50.trans (congrArg some (by kernel_rfl))⟩
  f16 := ⟨Try.f51.name, by decide, Try.func51.trans (congrArg some (by kernel_rfl))⟩
  f17 := ⟨Try.f52.name, by decide, Try.func52.trans (congrArg some (by kernel_rfl))⟩
  f18 := ⟨Try.f53.name, by decide, Try.func53.trans (congrArg some (by kernel_rfl))⟩
  f19 := Try.func54.trans (congrArg some (by kernel_rfl))
  f20 := Try.func55.trans (congrArg some (by kernel_rfl))
  f30 := ⟨Try.f56.name, by decide, Try.func56.trans (congrArg some (by kernel_rfl))⟩
  f31 := Try.func57.trans (congrArg some (by kernel_rfl))
  f32 := Try.func58.trans (congrArg some (by kernel_rfl))
  f33 := ⟨Try.f59.name, by decide, Try.func59.trans (congrArg some (by kernel_rfl))⟩
  f34 := ⟨Try.f60.name, by decide, Try.func60.trans (congrArg some (by kernel_rfl))⟩
  f35 := ⟨Try.f61.name, by decide, Try.func61.trans (congrArg some (by kernel_rfl))⟩
  f40 := ⟨Try.f62.name, by decide, Try.func62.trans (congrArg some (by kernel_rfl))⟩
  t0 := Try.underlying0
  a0 := Try.isAgg0
  z0 := Try.sizeOf0
  v0 := Try.zeroValue0
  t3 := Try.underlying3
  a3 := Try.isAgg3
  z3 := Try.sizeOf3
  v3 := Try.zeroValue3
  t4 := Try.underlying4
  a4 := Try.isAgg4
  z4 := Try.sizeOf4
  v4 := Try.zeroValue4
  t5 := Try.underlying5
  a5 := Try.isAgg5
  z5 := Try.sizeOf5
  v5 := Try.zeroValue5
  t9 := Try.underlying9
  a9 := Try.isAgg9
  z9 := Try.sizeOf9
  v9 := Try.zeroValue9
  t22 := Try.underlying35
  a22 := Try.isAgg35
  z22 := Try.sizeOf35
  v22 := Try.zeroValue35
  t23 := Try.underlying35
  a23 := Try.isAgg35
  z23 := Try.sizeOf35
  v23 := Try.zeroValue35
  t25 := Try.underlying3
  a25 := Try.isAgg3
  z25 := Try.sizeOf3
  v25 := Try.zeroValue3
  t32 := Try.underlying80
  a32 := Try.isAgg80
  z32 := Try.sizeOf80
  v32 := Try.zeroValue80
  t35 := Try.underlying82
  a35 := Try.isAgg82
  z35 := Try.sizeOf82
  v35 := Try.zeroValue82
  t36 := Try.underlying83
  a36 := Try.isAgg83
  z36 := Try.sizeOf83
  v36 := Try.zeroValue83
  t41 := Try.underlying88
  a41 := Try.isAgg88
  z41 := Try.sizeOf88
  v41 := Try.zeroValue88
  t44 := Try.underlying91
  a44 := Try.isAgg91
  z44 := Try.sizeOf91
  v44 := Try.zeroValue91
  t46 := Try.underlying93
  a46 := Try.isAgg93
  z46 := Try.sizeOf93
  v46 := Try.zeroValue93
  t53 := Try.underlying94
  a53 := Try.isAgg94
  z53 := Try.sizeOf94
  v53 := Try.zeroValue94
  t57 := Try.underlying98
  a57 := Try.isAgg98
  z57 := Try.sizeOf98
  v57 := Try.zeroValue98
  t63 := Try.underlying100
  a63 := Try.isAgg100
  z63 := Try.sizeOf100
  v63 := Try.zeroValue100
  t64 := Try.underlying101
  a64 := Try.isAgg101
  z64 := Try.sizeOf101
  v64 := Try.zeroValue101 }
end Go.Proofs.Ytfoanlmmjbclgaa

/-
  DERIVED. Pending: the blocks with writes, rising: the library's maps.Keys, slices.Sorted, slices.Sort by the shelf's contracts.
-/
namespace Go.Proofs.Ytfoanlmmjbclgaa
open Go.RowKit Go.Maps Go.Sort Go.Shelf
set_option linter.unusedVariables false

/-- slices.Sort's two contracts here, at the fence that asks nothing. -/
theorem Try.sortsA (m : Nat) : AnyZI.SortsIn Try.prog Try.sortedA_ren Fence.wide m :=
  ⟨fun blk off cap ss W hH hblk hsz => callsIn_wide.2 (AnyM.slices_Sort_int Try.sortA blk off cap ss W hH hblk hsz),
   fun p cap W => callsIn_wide.2 (AnyM.slices_Sort_int_none Try.sortA p cap W)⟩

set_option maxHeartbeats 1000000 in
theorem Pending_map {H : Type} (b mb nn : Nat) (D0 : DataW H) (R : Value → Option (DataW H × List MemPlace)) (w : World) (hc : w.cell? ⟨b, 1, none⟩ = some (.map (some mb))) (hown : w.ownsMap Try.prog 3 R mb nn D0) (hmax : Maps.size D0 ≤ maxLen) (hbytes : Maps.size D0 * 8 ≤ 140737488355328) :
    Calls Try.prog 16 #[.pointer (some ⟨b, 0, none⟩)] w fun e w' => ∃ (v : Value) (ss : List Int), e = .returned v ∧ ss.Perm (intKeys D0) ∧
      w'.ownsRow w.heap.size 3 1 v ss.length ((ss.mergeSort (fun x y => decide (x ≤ y))).map encZ) ∧ (v = .slice none 0 0 ↔ ss = []) ∧ Below w.heap.size w w' := by
  refine (callsIn_wide (n := 6)).1 ?_
  have hbl := hown.lt
  have hseq : SeqGives Fence.wide 2 Try.prog 41 #[.pointer (some ⟨w.heap.size, 0, none⟩)] encZ (fun ss => ss.Perm (intKeys D0)) (Maps.size D0) (w.alloc (.cells #[.map (some mb)] 54)) :=
    AnyZI.keys_gives (ρ := Try.keysA_ren) { Try.keysA with } Fence.wide _ trivial rfl (by omega) w.heap.size mb nn D0 _ (by simp) (by simp) (by
      obtain ⟨es, clock, hb, Ft, hs, hD⟩ := hown
      exact ⟨es, clock, (Below.heap_alloc _ _ mb hbl).trans hb, Ft, hs, hD⟩)
  have cK : ∀ q W, CallsIn Fence.wide 5 Try.prog 36 #[.map q] W fun e w' => e = .returned (.func (.func 41) #[] #[.pointer (some ⟨W.heap.size, 0, none⟩)]) ∧ w' = W.alloc (.cells #[.map q] 54) := fun q W => AnyZI.keys_in Try.keysA Fence.wide 5 trivial rfl q W
  have cS := AnyZI.sorted_in Try.sortedA Fence.wide 5 trivial trivial trivial trivial rfl (by omega) (Try.sortsA _) (enters_of Try.func40 (by kernel_rfl) rfl) 41 #[.pointer (some ⟨w.heap.size, 0, none⟩)] trivial (enters_of Try.func41 (by kernel_rfl) rfl) _ _ hmax hbytes _ hseq
  change CallsIn _ _ Try.prog 35 _ _ _ at cS
  have hfK : Fence.wide.fn 36 := trivial
  have hfS : Fence.wide.fn 35 := trivial
  refine callsIn_of_wp Try.func16 rfl trivial ?_ rfl
  simp only [Try.ntmps16, List.size_toArray, List.length_cons, List.length_nil, Nat.reduceAdd, Nat.reduceSub, Array.replicate_succ, Array.replicate_zero, List.push_toArray, List.append_toArray, List.nil_append, List.cons_append]
  gi_wp2_with (first
    | (gi_at_call 36; refine (cK _ _).mono ?_; rintro e w' ⟨rfl, rfl⟩)
    | (gi_at_call 35; refine cS.mono ?_; rintro e w' ⟨v, ss, rfl, hS, hrow, hnil, hb⟩))
  go_ret
  exact ⟨v, ss, rfl, hS, ownsRow_base_a hrow (by simp), hnil, ((Below.refl _ w).alloc (Nat.le_refl _) _).trans (hb.mono (by simp))⟩
end Go.Proofs.Ytfoanlmmjbclgaa

/-
  DERIVED. A block stored into a row of blocks; a map cleared; which blocks have writes.
-/
namespace Go.Proofs.Ytfoanlmmjbclgaa
open Go.RowKit Go.Maps Go.Sort Go.Shelf
open Go.ChangeMaps (setBlock)
set_option linter.unusedVariables false

theorem grown_setCells (g : Nat) : ∀ (vs : List Value) (o : Nat) (w : World), w.grownBy (w.setCells g o vs) (some g)
  | [], o, w => ⟨rfl, rfl, rfl, Nat.le_refl _, fun _ _ _ => rfl⟩
  | v :: r, o, w => by
    have h : w.grownBy (w.setCell ⟨g, o, none⟩ v) (some g) := ⟨rfl, rfl, rfl, by simp [World.setCell], fun k _ hk => heap_setCell_other _ _ _ _ (fun e => hk (by rw [e]))⟩
    exact h.trans (grown_setCells g r (o + 1) _)

theorem heap_setCells_row (g : Nat) (t : TypeId) : ∀ (vs : List Value) (o : Nat) (w : World) (cur : Array Value), w.heap[g]? = some (.cells cur t (0, 0)) → o + vs.length ≤ cur.size →
    (w.setCells g o vs).heap[g]? = some (.cells (cur.toList.take o ++ vs ++ cur.toList.drop (o + vs.length)).toArray t (0, 0))
  | [], o, w, cur, h, hl => by
    rw [World.setCells, h]
    simp
  | v :: r, o, w, cur, h, hl => by
    rw [List.length_cons] at hl
    have h1 := heap_setCell_same w g o cur t v h
    have h2 := heap_setCells_row g t r (o + 1) _ _ h1 (by rw [Array.size_setIfInBounds]; omega)
    rw [World.setCells, h2, Array.toList_setIfInBounds]
    have hlt : o < cur.toList.length := by rw [Array.length_toList]; omega
    have e1 : (cur.toList.set o v).take (o + 1) = cur.toList.take o ++ [v] := by
      rw [List.take_succ_eq_append_getElem (by rw [List.length_set]; exact hlt), List.getElem_set_self, List.take_set_of_le (Nat.le_refl _)]
    have e2 : (cur.toList.set o v).drop (o + 1 + r.length) = cur.toList.drop (o + (v :: r).length) := by
      rw [List.drop_set_of_lt (by omega), List.length_cons]
      congr 1
      omega
    rw [e1, e2, List.append_assoc, List.append_assoc, List.append_assoc]
    rfl

set_option maxRecDepth 20000 in
theorem Blks.set {w : World} {g c n : Nat} {bs : List (List UInt8)} (h : Blks w (.slice (some ⟨g, 0, none⟩) n c) bs) (hw : Wide bs) (k : Nat) (hk : k < bs.length) (L : List UInt8) (hL : L.length = 512) :
    Blks (w.setCells g (k * 512) (L.map bv)) (.slice (some ⟨g, 0, none⟩) n c) (bs.set k L) := by
  obtain ⟨h1, h2⟩ := h
  rcases h2 with ⟨h2, _⟩ | ⟨g', cap, cur, hv, hb, hg, hn, hm, hs, ht⟩
  · cases h2
  · cases hv
    have hl : (L.map bv).length = 512 := by rw [List.length_map]; exact hL
    have hset := cellsOf_set hw k hk L hL
    have hlen := cellsOf_len hw
    have hlen2 := cellsOf_len (hw.set hL k)
    rw [List.length_set] at hlen2
    have hk2 : k * 512 + 512 ≤ bs.length * 512 := by omega
    have q1 : k * 512 ≤ (cellsOf bs).length := Nat.le_trans (Nat.mul_le_mul_right 512 (Nat.le_of_lt hk)) (Nat.le_of_eq hlen.symm)
    have q2 : k * 512 + 512 ≤ (cellsOf bs).length := Nat.le_trans hk2 (Nat.le_of_eq hlen.symm)
    have hr := heap_setCells_row g 60 (L.map bv) (k * 512) w cur hg (by omega)
    have hcut : cur.toList = cellsOf bs ++ cur.toList.drop (bs.length * 512) := by rw [← ht, List.take_append_drop]
    have e : cur.toList.take (k * 512) ++ L.map bv ++ cur.toList.drop (k * 512 + (L.map bv).length) = cellsOf (bs.set k L) ++ cur.toList.drop (bs.length * 512) := by
      rw [hset, hl]
      conv => lhs; rw [hcut]
      rw [List.take_append_of_le_length q1, List.drop_append_of_le_length q2]
      simp only [List.append_assoc]
    rw [e] at hr
    refine ⟨by rw [List.length_set]; exact hlen2, .inr ⟨g, c, _, by rw [List.length_set], hb, hr, by rw [List.length_set]; exact hn, hm, ?_, ?_⟩⟩
    · have e3 : (cur.toList.drop (bs.length * 512)).length = cur.size - bs.length * 512 := by rw [List.length_drop, Array.length_toList]
      rw [List.size_toArray, List.length_append]
      omega
    · rw [List.length_set, ← hlen2]
      exact List.take_left

theorem Blks.there {w : World} {g c n : Nat} {bs : List (List UInt8)} (h : Blks w (.slice (some ⟨g, 0, none⟩) n c) bs) (hw : Wide bs) (k : Nat) (hk : k < bs.length) : w.there g (k * 512) 512 := by
  intro j hj
  have hr := Blks.range hw h k hk j
  obtain ⟨cur, hc⟩ := Blks.mark h rfl
  have hl : (bs[k].map bv).length = 512 := by rw [List.length_map]; exact hw _ (List.getElem_mem hk)
  refine ⟨?_, frozen_of_row w g _ cur 60 hc⟩
  rw [hr _ (List.getElem?_eq_getElem (by rw [hl]; exact hj))]
  rfl

/-- A map cleared. -/
theorem clear_own {w : World} {m N : Nat} {D : DataW Value} (h : w.ownsMap Try.prog 3 rawE m N D) (ty : TypeId) : ∃ w', (Builtin.clear_ #[54] ty #[.map (some m)]).run Try.prog w = .ok (.tuple #[]) w' ∧ w'.ownsMap Try.prog 3 rawE m 0 (.map []) ∧ w.grownBy w' (some m) := by
  obtain ⟨es, clock, hb, F, hs, rfl⟩ := h
  refine ⟨setBlock w m (.map #[] clock), ?_, ⟨#[], clock, ChangeMaps.heap_setBlock_same hb _, ⟨by simp, MapKept.stamped_empty _, by simp⟩, Nat.le_refl _, rfl⟩, ⟨rfl, rfl, rfl, by simp [setBlock], fun i _ hi => ChangeMaps.heap_setBlock_other hb _ (fun e => hi (by rw [e]))⟩⟩
  simp [Builtin.clear_, run_underlying Try.underlying54, MapKept.run_getObj_map hb, MapKept.run_setObj_map _ hb, Result.andThen, setBlock]

theorem PendAt.cleared {w w' : World} {F : Nat → Prop} {m g n N : Nat} {pend : Nat → List (List UInt8)} {vf : Nat → Value} {D : DataW Value} (h : PendAt w F m g n N pend vf D) (hc : w'.ownsMap Try.prog 3 rawE m 0 (.map [])) :
    PendAt w' F m g n N (fun _ => []) (fun _ => nilS) (.map []) :=
  { own := hc.mono (Nat.zero_le _), at_ := fun _ _ => rfl, has := fun kl => ⟨fun h => (by cases h), fun ⟨k, _, h, _⟩ => absurd rfl h⟩, rows := fun _ => World.ownsRow_nil _ _ _ _, len := fun _ => Nat.zero_le _, foot := fun _ _ h => (by cases h), apart := fun _ _ _ h => (by cases h), wide := fun _ L hL => (by cases hL), out := fun _ _ => rfl }

/-- The blocks with writes, rising. -/
def pk (n : Nat) (pend : Nat → List (List UInt8)) : List Nat := (List.range n).filter fun k => !(pend k).isEmpty
theorem mem_pk {n : Nat} {pend : Nat → List (List UInt8)} {k : Nat} : k ∈ pk n pend ↔ k < n ∧ pend k ≠ [] := by
  simp [pk]
theorem pk_rising (n : Nat) (pend : Nat → List (List UInt8)) : (pk n pend).Pairwise (· < ·) := List.Pairwise.filter _ List.pairwise_lt_range
theorem pk_len (n : Nat) (pend : Nat → List (List UInt8)) : (pk n pend).length ≤ n := by
  have := List.length_filter_le (fun k => !(pend k).isEmpty) (List.range n)
  rw [List.length_range] at this
  exact this

theorem PendAt.keys {w : World} {F : Nat → Prop} {m g n N : Nat} {pend : Nat → List (List UInt8)} {vf : Nat → Value} {D : DataW Value} (h : PendAt w F m g n N pend vf D) (ss : List Int) (hs : ss.Perm (intKeys D)) :
    ss.mergeSort (fun x y => decide (x ≤ y)) = (pk n pend).map Int.ofNat ∧ ss.length = (pk n pend).length := by
  obtain ⟨es, rfl, hp, hk⟩ := h.own.entries keyedInt
  have hk2 : ∀ p ∈ es, ∃ x, p.1 = Lit.int .i64 x := fun p hpe => by
    obtain ⟨k, _, _, e⟩ := (h.has p.1).1 (by rw [has_eq, List.any_eq_true]; exact ⟨p, hpe, WideAt.sameKey_self (hk p hpe)⟩)
    exact ⟨_, e⟩
  have hnd : ((pk n pend).map Int.ofNat).Nodup := List.pairwise_map.2 ((pk_rising n pend).imp fun {a b} hab e => by have : (a : Int) = b := e; omega)
  have hperm : ((pk n pend).map Int.ofNat).Perm (intKeys (.map es)) := perm_intKeys hp hk2 hnd fun x => by
    rw [h.has, List.mem_map]
    constructor
    · rintro ⟨k, hk, rfl⟩
      exact ⟨k, (mem_pk.1 hk).1, (mem_pk.1 hk).2, rfl⟩
    · rintro ⟨k, h1, h2, e⟩
      exact ⟨k, mem_pk.2 ⟨h1, h2⟩, by injection e with _ e; exact e.symm⟩
  have hp3 := hs.trans hperm.symm
  refine ⟨?_, by rw [hp3.length_eq, List.length_map]⟩
  have e := mergeSort_of_perm_i hp3
  rw [show ss.mergeSort (fun x y => decide (x ≤ y)) = ss.mergeSort leI from rfl, e]
  refine List.mergeSort_of_pairwise (List.pairwise_map.2 ((pk_rising n pend).imp fun {a b} hab => ?_))
  simp only [leI, decide_eq_true_eq, Int.ofNat_eq_natCast]
  omega

/-- Pending. -/
theorem Pending_dev {w : World} {b : Nat} {F : Nat → Prop} {N : Nat} {S : St} (h : Dev w b F N S) (hN : N < 1000000) :
    Calls Try.prog 16 #[.pointer (some ⟨b, 0, none⟩)] w fun e w' => ∃ v, e = .returned v ∧ w'.ownsRow w.heap.size 3 1 v (pk S.safe.length S.pend).length ((pk S.safe.length S.pend).map fun k => Value.int .i64 (k : Nat)) ∧ Below w.heap.size w w' := by
  obtain ⟨g, c, m, vf, D, h⟩ := h
  have hz := h.pend.own.size_le
  refine (Pending_map b m N D rawE w h.dev.c1 h.pend.own (by unfold maxLen; omega) (by omega)).mono ?_
  rintro e w' ⟨v, ss, rfl, hs, hrow, hnil, hb⟩
  obtain ⟨e1, e2⟩ := h.pend.keys ss hs
  rw [e1, e2] at hrow
  refine ⟨v, rfl, ?_, hb⟩
  rw [List.map_map] at hrow
  exact hrow
end Go.Proofs.Ytfoanlmmjbclgaa
