/-
  DERIVED. The walks of layUint, closed, PutUint, layInt, PutInt.
-/
import Derived.Test.YtgdplmbchoogiaaM1
import Derived.Deep.RegionHeld3
import Derived.Test.YtgdplmbchoogiaaM2
import Derived.RegionCalls
import Derived.Deep.Cut
import Derived.Deep.CutRange
import Derived.Deep.RegionWith
import Derived.Deep.RegionLaw
import Derived.Test.YtgdplmbchoogiaaRows
import Derived.OpenShut
import Derived.ShutString
import Derived.SizedLaws
import Derived.Deep.Slices
import Derived.Deep.Lists
namespace Go.Proofs.Ytgdplmbchoogiaa
open Go.RowKit

theorem closed_any (v : Value) (l : List UInt8) (w : World) (hv : Sl w v l) :
    Calls Try.prog 44 #[v] w fun e w' => ∃ v', e = .returned v' ∧ (Sl w v' l ∧ ∃ ao, v' = .slice ao l.length l.length) ∧ w = w' := by
  obtain ⟨ao, cap, rfl, h1, h2, h4⟩ := hv
  have H4 := hide h4
  clear h4
  go_enter Try.func44, Try.ntmps44
  go_wp2
  go_ret
  exact ⟨_, rfl, ⟨⟨ao, l.length, rfl, Nat.le_refl _, by omega, fun h => unhide H4 (by omega)⟩, ao, rfl⟩, rfl⟩

set_option maxHeartbeats 400000 in
theorem layUint_any (base : Nat) (v : Value) (l : List UInt8) (n : Int) (w : World) (hb : base ≤ w.heap.size) (hv : Room w base v l) (hn0 : 0 ≤ n) (hn1 : n ≤ 18446744073709551615) (hl : l.length + 10 ≤ 140737488355328) :
    Calls Try.prog 43 #[v, .int .u64 n] w fun e w' => ∃ v', e = .returned v' ∧ Own w' base v' (l ++ lay n.toNat) ∧ Below base w w' := by
  go_enter Try.func43, Try.ntmps43
  go_wp2
  go_loopw [0, 1] (fun u k wr => ∃ (m : Int) (l' : List UInt8), k = .int .u64 m ∧ 0 ≤ m ∧ m ≤ 18446744073709551615 ∧ Hid (lay n.toNat = l' ++ lay m.toNat) ∧ Room wr base u (l ++ l') ∧ Below base w wr) (fun _ k _ => (intOf k).toNat)
  case atStart => exact ⟨n, [], rfl, hn0, hn1, hide (by simp), by simpa using hv, Below.refl _ _⟩
  case round =>
    obtain ⟨m, l', rfl, hm0, hm1, HL, hroom, hbel⟩ := hrel
    have hsz : l'.length + 1 ≤ 10 := by
      have := congrArg List.length (unhide HL)
      have h1 := lay_len n.toNat
      have h2 := lay_len m.toNat
      simp at this
      omega
    have hbs := hbel.size
    by_cases hlt : 128 ≤ m
    · obtain ⟨c, hc⟩ : ∃ c, c = UInt8.ofNat (128 + m.toNat % 128) := ⟨_, rfl⟩
      have Hc : Hid (bits BinOp.or IntKind.u8 (m % 256) 128 = (c.toNat : Int)) := hide (by rw [hc]; exact or128 m hm0)
      have HL2 : Hid (lay n.toNat = (l' ++ [c]) ++ lay (m / 128).toNat) := hide (by
        rw [unhide HL, lay_big (by omega) (by omega), hc]
        have : m.toNat / 128 = (m / 128).toNat := by omega
        simp [this])
      clear hc HL
      go_wp2_with (at_builtin; refine wpList_append_room rfl (.tmp 7) (.tmp 11) rfl base _ (l ++ l') rfl ?hroom _ [c] rfl ?hy (by simp) ?hlen ?hbase ?_)
      case hroom => exact hroom.alloc _
      case hy => rw [unhide Hc]; exact Sl.new wr [c] (by simp [maxLen]) (0, 0)
      case hlen => simp; omega
      case hbase => simp; omega
      intro v' w1 hown hb1
      have R : Room w1 base v' (l ++ (l' ++ [c])) := Or.inl (by simpa using hown)
      have hb2 : Below base w w1 := (hbel.alloc (by omega) _).trans hb1
      clear hown hb1 hroom hbel
      go_wp2
      go_roundw
      case rel => exact ⟨m / 128, l' ++ [c], rfl, by omega, by omega, HL2, R, hb2⟩
      case measure => simp [intOf]; omega
    · obtain ⟨c, hc⟩ : ∃ c, c = UInt8.ofNat m.toNat := ⟨_, rfl⟩
      have Hc : Hid (m = (c.toNat : Int)) := hide (by have := byte_of m hm0 (by omega); rw [hc, ← this]; omega)
      have HL2 : Hid (lay n.toNat = l' ++ [c]) := hide (by
        rw [unhide HL, lay_small (by omega), hc])
      clear hc HL
      go_wp2_with (at_builtin; refine wpList_append_room rfl (.tmp 15) (.tmp 18) rfl base _ (l ++ l') rfl ?hroom2 _ [c] rfl ?hy2 (by simp) ?hlen2 ?hbase2 ?_)
      case hroom2 => exact hroom.alloc _
      case hy2 => rw [unhide Hc]; exact Sl.new wr [c] (by simp [maxLen]) (0, 0)
      case hlen2 => (try simp); omega
      case hbase2 => (try simp); omega
      intro v' w1 hown hb1
      have R : Own w1 base v' (l ++ lay n.toNat) := by rw [unhide HL2]; simpa using hown
      have hb2 : Below base w w1 := (hbel.alloc (by omega) _).trans hb1
      clear hown hb1 hroom hbel
      go_wp2
      go_ret
      exact ⟨_, rfl, R, hb2⟩

theorem layUint_at (base : Nat) (v : Value) (l : List UInt8) (x : Int) (n : Nat) (w : World) (hb : base ≤ w.heap.size) (hv : Room w base v l) (hl : l.length + 10 ≤ 140737488355328) (hn : n ≤ 18446744073709551615) (hx : x = n) :
    Calls Try.prog 43 #[v, .int .u64 x] w fun e w' => ∃ v', e = .returned v' ∧ Own w' base v' (l ++ lay n) ∧ Below base w w' := by
  subst hx
  exact layUint_any base v l n w hb hv (by omega) (by omega) hl

theorem zig_neg (n : Int) (h : n < 0) (h2 : -9223372036854775808 ≤ n) : IntKind.u64.wrap (IntKind.u64.wrap (2 * IntKind.u64.wrap (-n - 1)) + 1) = (zig n : Int) := by
  unfold zig; rw [if_pos h]; simp only [IntKind.wrap_u64]; omega
theorem zig_pos (n : Int) (h : ¬ n < 0) (h2 : n ≤ 9223372036854775807) : 2 * n = (zig n : Int) := by
  unfold zig; rw [if_neg h]; omega
theorem zig_le (n : Int) (h : -9223372036854775808 ≤ n) (h2 : n ≤ 9223372036854775807) : zig n ≤ 18446744073709551615 := by
  unfold zig; split <;> omega

end Go.Proofs.Ytgdplmbchoogiaa

/-
  DERIVED. bits, Bytes.
-/
namespace Go.Proofs.Ytgdplmbchoogiaa
open Go.RowKit
set_option linter.unusedVariables false

/-- The i-th byte, of the first n blocks. -/
def byteAt (U : Nat → Bool) (n i : Nat) : Nat := ((List.range 8).map fun k => if 8 * i + k < n ∧ U (8 * i + k) = true then 2 ^ k else 0).sum
theorem byteAt_eq (U : Nat → Bool) (n i : Nat) : byteAt U n i = (if 8 * i + 0 < n ∧ U (8 * i + 0) = true then 1 else 0) + (if 8 * i + 1 < n ∧ U (8 * i + 1) = true then 2 else 0) + (if 8 * i + 2 < n ∧ U (8 * i + 2) = true then 4 else 0) + (if 8 * i + 3 < n ∧ U (8 * i + 3) = true then 8 else 0) + (if 8 * i + 4 < n ∧ U (8 * i + 4) = true then 16 else 0) + (if 8 * i + 5 < n ∧ U (8 * i + 5) = true then 32 else 0) + (if 8 * i + 6 < n ∧ U (8 * i + 6) = true then 64 else 0) + (if 8 * i + 7 < n ∧ U (8 * i + 7) = true then 128 else 0) := by
  simp [byteAt, List.range_succ]
  omega
theorem cond_far {U : Nat → Bool} {n j : Nat} (h : n ≤ j) (x : Nat) : (if j < n ∧ U j = true then x else 0) = 0 := by rw [if_neg (by omega)]
theorem cond_near {U : Nat → Bool} {n j : Nat} (h : j < n) (x : Nat) : (if j < n ∧ U j = true then x else 0) = (if U j = true then x else 0) := by simp [h]
theorem cond_le (p : Prop) [Decidable p] (x : Nat) : (if p then x else 0) ≤ x := by split <;> omega

theorem byteAt_next (U : Nat → Bool) (q r : Nat) (hr : r < 8) : byteAt U (8 * q + r) q < 2 ^ r ∧ byteAt U (8 * q + r + 1) q = byteAt U (8 * q + r) q + (if U (8 * q + r) = true then 2 ^ r else 0) := by
  rw [byteAt_eq, byteAt_eq]
  have hc : r = 0 ∨ r = 1 ∨ r = 2 ∨ r = 3 ∨ r = 4 ∨ r = 5 ∨ r = 6 ∨ r = 7 := by omega
  have e0 := cond_le (U (8 * q + 0) = true) 1
  have e1 := cond_le (U (8 * q + 1) = true) 2
  have e2 := cond_le (U (8 * q + 2) = true) 4
  have e3 := cond_le (U (8 * q + 3) = true) 8
  have e4 := cond_le (U (8 * q + 4) = true) 16
  have e5 := cond_le (U (8 * q + 5) = true) 32
  have e6 := cond_le (U (8 * q + 6) = true) 64
  have d : ∀ k, (8 * q + k < 8 * q + r) = (k < r) := fun k => propext (by omega)
  have d' : ∀ k, (8 * q + k < 8 * q + r + 1) = (k < r + 1) := fun k => propext (by omega)
  simp only [d, d']
  clear d d'
  rcases hc with rfl | rfl | rfl | rfl | rfl | rfl | rfl | rfl <;>
    (simp only [Nat.reduceAdd, Nat.reduceLT, Nat.reducePow, true_and, false_and, ↓reduceIte, Nat.lt_irrefl]
     first | omega | (constructor <;> omega))
theorem byteAt_other (U : Nat → Bool) (q r i : Nat) (hr : r < 8) (hi : i ≠ q) : byteAt U (8 * q + r + 1) i = byteAt U (8 * q + r) i := by
  rw [byteAt_eq, byteAt_eq]
  rcases Nat.lt_or_gt_of_ne hi with h | h
  · rw [cond_near (by omega), cond_near (by omega), cond_near (by omega), cond_near (by omega), cond_near (by omega), cond_near (by omega), cond_near (by omega), cond_near (by omega), cond_near (by omega), cond_near (by omega), cond_near (by omega), cond_near (by omega), cond_near (by omega), cond_near (by omega), cond_near (by omega), cond_near (by omega)]
  · rw [cond_far (by omega), cond_far (by omega), cond_far (by omega), cond_far (by omega), cond_far (by omega), cond_far (by omega), cond_far (by omega), cond_far (by omega), cond_far (by omega), cond_far (by omega), cond_far (by omega), cond_far (by omega), cond_far (by omega), cond_far (by omega), cond_far (by omega), cond_far (by omega)]

/-- The bytes, of the first n blocks. -/
def bitsN (U : Nat → Bool) (m n : Nat) : List UInt8 := (List.range m).map fun i => UInt8.ofNat (byteAt U n i)
theorem bitsN_len (U : Nat → Bool) (m n : Nat) : (bitsN U m n).length = m := by simp [bitsN]
theorem bitsN_zero (U : Nat → Bool) (m : Nat) : bitsN U m 0 = List.replicate m 0 := by
  apply List.ext_getElem
  · simp [bitsN]
  · intro i h1 h2
    have : byteAt U 0 i = 0 := by rw [byteAt_eq]; simp
    simp [bitsN, this]
theorem bitsN_step (U : Nat → Bool) (m q r : Nat) (hr : r < 8) (hq : q < m) : bitsN U m (8 * q + r + 1) = (bitsN U m (8 * q + r)).set q (UInt8.ofNat (byteAt U (8 * q + r) q + (if U (8 * q + r) = true then 2 ^ r else 0))) := by
  apply List.ext_getElem
  · simp [bitsN]
  · intro i h1 h2
    by_cases e : i = q
    · subst e
      simp [bitsN, (byteAt_next U i r hr).2]
    · rw [List.getElem_set_ne (fun h => e h.symm)]
      simp [bitsN, byteAt_other U q r i hr e]
theorem or_bit : ∀ r : Nat, r < 8 → ∀ x : Nat, x < 2 ^ r → bits BinOp.or IntKind.u8 (x : Int) ((2 ^ r : Nat) : Int) = ((x + 2 ^ r : Nat) : Int) := by
  have h : (List.range 8).all (fun r => (List.range (2 ^ r)).all fun x => bits BinOp.or IntKind.u8 (x : Int) ((2 ^ r : Nat) : Int) == ((x + 2 ^ r : Nat) : Int)) = true := by decide +kernel
  intro r hr x hx
  have h1 := List.all_eq_true.1 h r (List.mem_range.2 hr)
  have h2 := List.all_eq_true.1 h1 x (List.mem_range.2 hx)
  exact beq_iff_eq.1 h2

theorem made_zero (n : Nat) : madeCells #[Value.int .u8 0] n = ((List.replicate n (0 : UInt8)).map bv).toArray := by
  apply Array.ext'
  rw [toList_madeCells_one, List.map_replicate]
  exact congrArg (List.replicate n) (show Value.int .u8 0 = bv 0 from rfl)
theorem run_make_bytes (w : World) (m : Nat) (hm : m ≤ 512) : (Instr.makeSlice 42 (.int .i64 (m : Int)) (.int .i64 (m : Int))).run Try.prog w = .ok (.slice (some ⟨w.heap.size, 0, none⟩) m m) (w.alloc (.cells ((List.replicate m (0 : UInt8)).map bv).toArray 5)) := by
  obtain ⟨i, hi, hh⟩ := Option.map_eq_some_iff.1 Try.info5
  simp only [Prod.mk.injEq] at hh
  have h := run_make (P := Try.prog) w 42 5 i _ Try.underlying42 hi hh.1 .i64 .i64 m m (by omega) (Int.le_refl _) (by rw [hh.2.2]; omega) (by omega)
  rw [h, hh.2.1, Int.toNat_natCast, Nat.mul_one]
  show Result.ok _ (w.alloc (.cells (madeCells #[Value.int .u8 0] m) 5)) = _
  rw [made_zero]

def BRow (w : World) (g : Nat) (L : List UInt8) : Prop := w.heap[g]? = some (.cells (L.map bv).toArray 5 (0, 0))
theorem BRow.cell {w : World} {g : Nat} {L : List UInt8} (h : BRow w g L) {i : Nat} (hi : i < L.length) : w.cell? ⟨g, i, none⟩ = some (bv L[i]) := by
  rw [cell_of_row _ _ _ _ _ _ h]; simp [hi]
theorem BRow.set {w : World} {g : Nat} {L : List UInt8} (h : BRow w g L) (i : Nat) (c : UInt8) : BRow (w.setCell ⟨g, i, none⟩ (bv c)) g (L.set i c) := by
  unfold BRow
  rw [heap_setCell_same w g i _ _ _ h]
  simp [List.map_set]

set_option maxHeartbeats 2000000 in
set_option maxRecDepth 20000 in
theorem bits_any (w : World) (b B : Nat) (U V : Nat → Bool) (h : MapAt w b B U V) :
    Calls Try.prog 39 #[.pointer (some ⟨b, 0, none⟩)] w fun e w' => ∃ v, e = .returned v ∧ Own w' w.heap.size v (bitsN U ((B + 7) / 8) B) ∧ w.grownBy w' none := by
  have hB := h.le
  have hBi : (B : Int) ≤ 512 := by omega
  have c0 := h.num
  obtain ⟨m, hm⟩ : ∃ m, m = (B + 7) / 8 := ⟨_, rfl⟩
  have hq : ((B : Int) + 8 - 1) / 8 = (m : Int) := by omega
  have hq2 : ((B : Int) + 7) / 8 = (m : Int) := by omega
  have mk := run_make_bytes w m (by omega)
  have hg0 : w.grownBy (w.alloc (.cells ((List.replicate m (0 : UInt8)).map bv).toArray 5)) none := World.grownBy_alloc _ _ _
  have hr0 : BRow (w.alloc (.cells ((List.replicate m (0 : UInt8)).map bv).toArray 5)) w.heap.size (bitsN U m 0) := by rw [bitsN_zero]; exact heap_alloc_new _ _
  obtain ⟨W1, hW1⟩ : ∃ W1, W1 = w.alloc (.cells ((List.replicate m (0 : UInt8)).map bv).toArray 5) := ⟨_, rfl⟩
  rw [← hW1] at mk hg0 hr0
  have c1 := (h.grown hg0 (by simp)).num
  have HM := hide h
  have HG0 := hide hg0
  have HR0 := hide hr0
  rw [← hm]
  have Hm := hide hm
  clear h hW1 hg0 hr0 hm
  go_enter Try.func39, Try.ntmps39
  go_wp2
  go_loopw [17] (fun i wr => ∃ n : Nat, i = .int .i64 (n : Int) ∧ n ≤ B ∧ BRow wr w.heap.size (bitsN U m n) ∧ w.grownBy wr none) (fun i _ => B - (intOf i).toNat)
  case atStart => exact ⟨0, rfl, by omega, unhide HR0, unhide HG0⟩
  case round =>
    obtain ⟨n, rfl, hn, hr, hg⟩ := hrel
    have hmp := (unhide HM).grown hg (by simp)
    by_cases hlt : n < B
    · have hlt' : (n : Int) < (B : Int) := by omega
      have hn5 : (n : Int) < 512 := by omega
      have cU := hmp.used (n := n) (by omega)
      have hqm : n / 8 < m := by have := unhide Hm; omega
      have hqi : ((n : Int) / 8) < (m : Int) := by omega
      have hq0 : (0 : Int) ≤ (n : Int) / 8 := by omega
      have cB := hr.cell (i := n / 8) (by rw [bitsN_len]; exact hqm)
      have cF : wr.frozen? ⟨w.heap.size, n / 8, none⟩ = false := by simp [World.frozen?, show wr.heap[w.heap.size]? = _ from hr]
      have hr8 : n % 8 < 8 := by omega
      have en : n = 8 * (n / 8) + n % 8 := by omega
      have HST := hide (bitsN_step U m (n / 8) (n % 8) hr8 hqm)
      rw [← en] at HST
      have hby : ((bitsN U m n)[n / 8]'(by rw [bitsN_len]; exact hqm)) = UInt8.ofNat (byteAt U n (n / 8)) := by simp [bitsN]
      have hbl := (byteAt_next U (n / 8) (n % 8) hr8).1
      rw [← en] at hbl
      rw [hby] at cB
      cases hU : U n with
      | false =>
        rw [hU] at cU
        have HR : Hid (BRow wr w.heap.size (bitsN U m (n + 1))) := hide (by
          rw [unhide HST]
          have e : (bitsN U m n).set (n / 8) (UInt8.ofNat (byteAt U n (n / 8) + 0)) = bitsN U m n := by rw [Nat.add_zero, ← hby]; exact List.set_getElem_self _
          simp only [hU]
          rw [show (if false = true then 2 ^ (n % 8) else 0) = 0 from rfl, e]
          exact hr)
        have HG := hide hg
        clear HST hby hr hg en hmp
        go_wp2
        go_roundw
        case rel => exact ⟨n + 1, rfl, by omega, unhide HR, unhide HG⟩
        case measure => simp [intOf]; omega
      | true =>
        rw [hU] at cU
        obtain ⟨x, hx⟩ : ∃ x, x = byteAt U n (n / 8) := ⟨_, rfl⟩
        rw [← hx] at cB hbl HST hby
        have hxs : x < 256 := Nat.lt_of_lt_of_le hbl (by have : 2 ^ (n % 8) ≤ 2 ^ 7 := Nat.pow_le_pow_right (by omega) (by omega); omega)
        have hxv : ((UInt8.ofNat x).toNat : Int) = (x : Int) := by simp; omega
        have HEN := hide en
        have HX := hide hx
        have HR := hide hr
        have HG := hide hg
        have HBL := hide hbl
        clear hby en hx hr hg hmp hbl
        go_wp2_with fail
        go_region
        have hp : (2 : Int) ^ (n % 8) = ((2 ^ (n % 8) : Nat) : Int) := by push_cast; rfl
        have hp7 : 2 ^ (n % 8) ≤ 2 ^ 7 := Nat.pow_le_pow_right (by omega) (by omega)
        have hval : bits BinOp.or IntKind.u8 ((x : Int) % 256) ((2 : Int) ^ (n % 8) % 256) = ((UInt8.ofNat (x + 2 ^ (n % 8))).toNat : Int) := by
          have hb := unhide HBL
          rw [hp, show (x : Int) % 256 = (x : Int) by omega, show ((2 ^ (n % 8) : Nat) : Int) % 256 = ((2 ^ (n % 8) : Nat) : Int) by omega, or_bit (n % 8) hr8 x hb]
          simp only [UInt8.toNat_ofNat']
          congr 1
          omega
        rw [hval]
        have HR2 : Hid (BRow (wr.setCell ⟨w.heap.size, n / 8, none⟩ (bv (UInt8.ofNat (x + 2 ^ (n % 8))))).drew w.heap.size (bitsN U m (n + 1))) := hide (by
          have := (unhide HR).set (n / 8) (UInt8.ofNat (x + 2 ^ (n % 8)))
          rw [unhide HST]
          simp only [hU, if_true]
          exact this)
        have HG2 : Hid (w.grownBy (wr.setCell ⟨w.heap.size, n / 8, none⟩ (bv (UInt8.ofNat (x + 2 ^ (n % 8))))).drew none) := hide (by
          have hgs := (unhide HG).andThen (setCell_grown wr w.heap.size (n / 8) (bv (UInt8.ofNat (x + 2 ^ (n % 8))))) (fun j e => by cases e; exact .inl (Nat.le_refl _))
          exact ⟨hgs.os, hgs.tape, hgs.output, hgs.size, hgs.block⟩)
        clear hval hp hp7
        go_wp2
        go_roundw
        case rel => exact ⟨n + 1, rfl, by omega, unhide HR2, unhide HG2⟩
        case measure => simp [intOf]; omega
    · have hlt' : ¬ (n : Int) < (B : Int) := by omega
      obtain rfl : n = B := by omega
      have HR := hide hr
      have HG := hide hg
      clear hr hg hmp
      go_wp2
      go_ret
      refine ⟨.slice (some ⟨w.heap.size, 0, none⟩) m m, rfl, ?_, unhide HG⟩
      have hr' := unhide HR
      refine ⟨by simp, .inr ⟨w.heap.size, m, _, by rw [bitsN_len], Nat.le_refl _, hr', by rw [bitsN_len]; omega, by unfold maxLen; have := unhide Hm; omega, by simp [bitsN_len], by simp [bitsN_len]; exact List.take_of_length_le (by simp [bitsN_len])⟩⟩

theorem PutUint_nil (n : Nat) (w : World) (hn : n ≤ 18446744073709551615) :
    Calls Try.prog 38 #[.slice none 0 0, .int .u64 n] w fun e w' => ∃ v', e = .returned v' ∧ Own w' w.heap.size v' (lay n) ∧ Below w.heap.size w w' := by
  have hv : Sl w (.slice none 0 0) [] := ⟨none, 0, rfl, by simp, by simp [maxLen], fun h => absurd rfl h⟩
  go_enter Try.func38, Try.ntmps38
  go_wp2_with (first | (go_at_call 44; refine (closed_any _ [] _ hv).mono ?_; rintro e w' ⟨v1, rfl, hroom, rfl⟩) | (go_at_call 43; refine (layUint_at w.heap.size _ [] _ n _ (Nat.le_refl _) (Or.inr hroom) (by simp) hn rfl).mono ?_; rintro e w' ⟨v2, rfl, hown, hbel⟩))
  go_ret
  exact ⟨_, rfl, by simpa using hown, hbel⟩

/-- A map as bytes. -/
def tell (B : Nat) (U : Nat → Bool) : List UInt8 := lay B ++ bitsN U ((B + 7) / 8) B

set_option maxHeartbeats 1000000 in
theorem Bytes_any (w : World) (b B : Nat) (U V : Nat → Bool) (h : MapAt w b B U V) :
    Calls Try.prog 23 #[.pointer (some ⟨b, 0, none⟩)] w fun e w' => ∃ v, e = .returned v ∧ Own w' w.heap.size v (tell B U) ∧ w.grownBy w' none := by
  have c0 := h.num
  have hB := h.le
  have hBi : (B : Int) ≤ 512 := by omega
  have HM := hide h
  clear h
  go_enter Try.func23, Try.ntmps23
  go_wp2_with fail
  refine (PutUint_nil B w (by omega)).mono ?_
  rintro e w1 ⟨v1, rfl, o1, b1⟩
  have g1 := grown_of_below b1
  have HM1 := hide ((unhide HM).grown g1 (by simp))
  have HO1 := hide o1
  have HG1 := hide g1
  clear o1 b1 g1 c0
  go_wp2_with fail
  refine (bits_any w1 b B U V (unhide HM1)).mono ?_
  rintro e w2 ⟨v2, rfl, o2, g2⟩
  have HO2 : Hid (Own w2 w.heap.size v1 (lay B)) := hide ((unhide HO1).below (below_of_grown g2) (Nat.le_refl _))
  have HS2 := hide o2.sl
  have HG2 : Hid (w.grownBy w2 none) := hide ((unhide HG1).trans g2)
  have hl1 := lay_len B
  have hl2 := bitsN_len U ((B + 7) / 8) B
  have HLn : Hid ((lay B).length + (bitsN U ((B + 7) / 8) B).length ≤ 140737488355328) := hide (by omega)
  have HBs : Hid (w.heap.size ≤ w2.heap.size) := hide (unhide HG2).size
  clear o2 g2 hl1 hl2
  go_wp2_with (at_builtin; refine wpList_append_mine rfl (.tmp 10) (.tmp 12) rfl w.heap.size _ (lay B) rfl (unhide HO2) _ (bitsN U ((B + 7) / 8) B) rfl (unhide HS2) (unhide HLn) (unhide HBs) ?_; intro v' w3 ho hb3; have HO3 := hide ho; have HB3 := hide hb3; clear ho hb3)
  go_ret
  exact ⟨_, rfl, unhide HO3, grown_of_below ((below_of_grown (unhide HG2)).trans (unhide HB3))⟩
theorem Bytes_nil (w : World) : Calls Try.prog 23 #[.pointer none] w fun e w' => e = .returned (.slice none 0 0) ∧ w' = w := by
  go_enter Try.func23, Try.ntmps23
  go_wp2
  go_ret
  exact ⟨rfl, rfl⟩
end Go.Proofs.Ytgdplmbchoogiaa

/-
  DERIVED. The document's PutUint.
-/
namespace Go.Proofs.Ytgdplmbchoogiaa
open Go.RowKit
set_option linter.unusedVariables false

theorem byte_128 (m : Int) (h : 0 ≤ m) : (128 + m % 128) % 256 = ((UInt8.ofNat (128 + m.toNat % 128)).toNat : Int) := by
  simp only [UInt8.toNat_ofNat']
  omega
theorem byte_128' (m : Int) (h : 0 ≤ m) : 128 + m % 128 = ((UInt8.ofNat (128 + m.toNat % 128)).toNat : Int) := by
  simp only [UInt8.toNat_ofNat']
  omega

set_option maxHeartbeats 1000000 in
theorem rPutUint_any (n : Int) (w : World) (hn0 : 0 ≤ n) (hn1 : n ≤ 18446744073709551615) :
    Calls Try.prog 42 #[.int .u64 n] w fun e w' => ∃ v', e = .returned v' ∧ Own w' w.heap.size v' (lay n.toNat) ∧ Below w.heap.size w w' := by
  go_enter Try.func42, Try.ntmps42
  go_wp2
  go_loopw [0, 3] (fun k u wr => ∃ (m : Int) (l' : List UInt8), k = .int .u64 m ∧ 0 ≤ m ∧ m ≤ 18446744073709551615 ∧ Hid (lay n.toNat = l' ++ lay m.toNat) ∧ Own wr w.heap.size u l' ∧ Below w.heap.size w wr) (fun k _ _ => (intOf k).toNat)
  case atStart => exact ⟨n, [], rfl, hn0, hn1, hide (by simp), World.ownsRow_nil _ _ _ _, Below.refl _ _⟩
  case round =>
    obtain ⟨m, l', rfl, hm0, hm1, HL, hown, hbel⟩ := hrel
    have hsz : l'.length + 1 ≤ 10 := by
      have := congrArg List.length (unhide HL)
      have h1 := lay_len n.toNat
      have h2 := lay_len m.toNat
      simp at this
      omega
    have hbs := hbel.size
    by_cases hlt : 128 ≤ m
    · obtain ⟨c, hc⟩ : ∃ c, c = UInt8.ofNat (128 + m.toNat % 128) := ⟨_, rfl⟩
      have Hc : Hid (128 + m % 128 = (c.toNat : Int)) := hide (by rw [hc]; exact byte_128' m hm0)
      have HL2 : Hid (lay n.toNat = (l' ++ [c]) ++ lay (m / 128).toNat) := hide (by
        rw [unhide HL, lay_big (by omega) (by omega), hc]
        have : m.toNat / 128 = (m / 128).toNat := by omega
        simp [this])
      clear hc HL
      go_wp2_with (at_builtin; refine wpList_append_mine rfl (.tmp 6) (.tmp 11) rfl w.heap.size _ l' rfl ?hown _ [c] rfl ?hy ?hlen ?hbase ?_)
      case hown => exact hown.alloc _
      case hy => rw [unhide Hc]; exact Sl.new wr [c] (by simp [maxLen]) (0, 0)
      case hlen => (try simp); omega
      case hbase => (try simp); omega
      intro v' w1 hown1 hb1
      have R : Own w1 w.heap.size v' (l' ++ [c]) := by simpa using hown1
      have hb2 : Below w.heap.size w w1 := (hbel.alloc (by omega) _).trans hb1
      clear hown hown1 hb1 hbel
      go_wp2
      go_roundw
      case rel => exact ⟨m / 128, l' ++ [c], rfl, by omega, by omega, HL2, R, hb2⟩
      case measure => simp [intOf]; omega
    · obtain ⟨c, hc⟩ : ∃ c, c = UInt8.ofNat m.toNat := ⟨_, rfl⟩
      have Hc : Hid (m = (c.toNat : Int)) := hide (by have := byte_of m hm0 (by omega); rw [hc, ← this]; omega)
      have HL2 : Hid (lay n.toNat = l' ++ [c]) := hide (by
        rw [unhide HL, lay_small (by omega), hc])
      clear hc HL
      go_wp2_with (at_builtin; refine wpList_append_mine rfl (.tmp 15) (.tmp 18) rfl w.heap.size _ l' rfl ?hown2 _ [c] rfl ?hy2 ?hlen2 ?hbase2 ?_)
      case hown2 => exact hown.alloc _
      case hy2 => rw [unhide Hc]; exact Sl.new wr [c] (by simp [maxLen]) (0, 0)
      case hlen2 => (try simp); omega
      case hbase2 => (try simp); omega
      intro v' w1 hown1 hb1
      have R : Own w1 w.heap.size v' (lay n.toNat) := by rw [unhide HL2]; simpa using hown1
      have hb2 : Below w.heap.size w w1 := (hbel.alloc (by omega) _).trans hb1
      clear hown hown1 hb1 hbel
      go_wp2
      go_ret
      exact ⟨_, rfl, R, hb2⟩
theorem rPutUint_at (x : Int) (n : Nat) (w : World) (hn : n ≤ 18446744073709551615) (hx : x = n) :
    Calls Try.prog 42 #[.int .u64 x] w fun e w' => ∃ v', e = .returned v' ∧ Own w' w.heap.size v' (lay n) ∧ Below w.heap.size w w' := by
  subst hx
  exact rPutUint_any n w (by omega) (by omega)
end Go.Proofs.Ytgdplmbchoogiaa

/-
  DERIVED. The document's map: Bytes.
-/
namespace Go.Proofs.Ytgdplmbchoogiaa
open Go.RowKit
set_option linter.unusedVariables false

def bit1 (U : Nat → Bool) (B j : Nat) : Nat := if j < B ∧ U j = true then 1 else 0
theorem bit1_le (U : Nat → Bool) (B j : Nat) : bit1 U B j ≤ 1 := by unfold bit1; split <;> omega
/-- A byte as the document makes it: m of its bits, from above. -/
def hx (U : Nat → Bool) (B i : Nat) : Nat → Nat
  | 0 => 0
  | m + 1 => 2 * hx U B i m + bit1 U B (8 * i + (7 - m))
theorem hx_lt (U : Nat → Bool) (B i : Nat) : ∀ m, hx U B i m < 2 ^ m
  | 0 => by simp [hx]
  | m + 1 => by
    have h1 := hx_lt U B i m
    have h2 := bit1_le U B (8 * i + (7 - m))
    rw [hx, Nat.pow_succ]
    omega
theorem cond_bit (U : Nat → Bool) (B j x : Nat) : (if j < B ∧ U j = true then x else 0) = x * bit1 U B j := by unfold bit1; split <;> simp
theorem hx_full (U : Nat → Bool) (B i : Nat) : hx U B i 8 = byteAt U B i := by
  rw [byteAt_eq]
  simp only [cond_bit, hx]
  simp only [show 7 - 0 = 7 from rfl, show 7 - 1 = 6 from rfl, show 7 - 2 = 5 from rfl, show 7 - 3 = 4 from rfl, show 7 - 4 = 3 from rfl, show 7 - 5 = 2 from rfl, show 7 - 6 = 1 from rfl, show 7 - 7 = 0 from rfl]
  omega
theorem hx_255 (U : Nat → Bool) (B i m : Nat) (hm : m ≤ 8) : hx U B i m ≤ 255 := by
  have h1 := hx_lt U B i m
  have h2 : 2 ^ m ≤ 2 ^ 8 := Nat.pow_le_pow_right (by omega) hm
  omega
theorem bitsN_snoc (U : Nat → Bool) (m n : Nat) : bitsN U (m + 1) n = bitsN U m n ++ [UInt8.ofNat (byteAt U n m)] := by simp [bitsN, List.range_succ]

set_option maxHeartbeats 4000000 in
theorem rBytes_any (w : World) (N b B : Nat) (v1 v2 : Value) (U V : Nat → Bool) (h : RmAt w N b B v1 v2 U V) :
    Calls Try.prog 32 #[.pointer (some ⟨b, 0, none⟩)] w fun e w' => ∃ v, e = .returned v ∧ Own w' w.heap.size v (tell B U) ∧ w.grownBy w' none := by
  have HM := hide h
  have hle := h.le
  have hBI : (B : Int) ≤ 512 := by omega
  have c0 := h.c0
  obtain ⟨o1, p1, hv1, q1, q2, _⟩ := h.now.form
  subst hv1
  clear h
  go_enter Try.func32, Try.ntmps32
  go_wp2_with fail
  refine (rPutUint_at _ B w (by omega) (by first | rfl | omega)).mono ?_
  rintro e w1 ⟨u1, rfl, o1', b1⟩
  have HO1 := hide o1'
  have HG1 := hide (grown_of_below b1)
  clear o1' b1 c0
  go_wp2
  go_loopw [3, 4] (fun a j wr => ∃ (i e : Nat), j = .int .i64 (e : Int) ∧ e ≤ 519 ∧ Hid (e = 8 * i ∧ i ≤ (B + 7) / 8) ∧ Own wr w.heap.size a (lay B ++ bitsN U i B) ∧ w.grownBy wr none) (fun _ j _ => 520 - (intOf j).toNat)
  case atStart => exact ⟨0, 0, rfl, by omega, hide ⟨rfl, by omega⟩, by simpa [bitsN] using unhide HO1, unhide HG1⟩
  case round =>
    obtain ⟨i, e, rfl, he, HE, hO, hG⟩ := hrel
    have HO := hide hO
    have HG := hide hG
    have M2 := hide ((unhide HM).grown hG)
    have c0 := (unhide M2).c0
    clear hO hG HO1 HG1
    by_cases hlt : e < B
    · have hlt' : (e : Int) < (B : Int) := by omega
      rename World => W0
      obtain ⟨oo, pp, ee, -, -, hh⟩ := (unhide M2).now.form
      injection ee with ee1 _ ee2
      subst ee1 ee2
      obtain ⟨g, eg, -, -, -, cz⟩ := hh (by omega)
      subst eg
      have HC := hide cz
      clear cz hh
      go_wp2_with fail
      go_loopw [5, 6] (fun x j wq => ∃ (m : Nat) (xx : Nat), j = .int .i64 ((7 : Int) - (m : Int)) ∧ m ≤ 8 ∧ x = .int .i64 (xx : Int) ∧ Hid (xx = hx U B i m) ∧ wq = W0) (fun _ j _ => (intOf j + 1).toNat)
      case atStart => exact ⟨0, 0, rfl, by omega, rfl, hide rfl, rfl⟩
      case round =>
        obtain ⟨m, xx, rfl, hm8, rfl, HX, hW⟩ := hrel
        subst wr
        have hx255 : xx ≤ 255 := by rw [unhide HX]; exact hx_255 U B i m hm8
        by_cases hm : m ≤ 7
        · obtain ⟨kk, hkk⟩ : ∃ kk : Nat, (7 : Int) - (m : Int) = (kk : Int) := ⟨7 - m, by omega⟩
          have HK : Hid (kk = 7 - m) := hide (by omega)
          have hk7 : kk ≤ 7 := by omega
          rw [hkk]
          clear hkk
          have hj : (e : Int) + (kk : Int) ≤ 600 := by omega
          by_cases hb : e + kk < B
          · have hb' : (e : Int) + (kk : Int) < (B : Int) := by omega
            have z5 := unhide HC (e + kk) hb
            cases hu : U (e + kk) with
            | true =>
              rw [hu] at z5
              have HX2 : Hid (2 * xx + 1 = hx U B i (m + 1)) := hide (by rw [hx, ← unhide HX, bit1, if_pos ⟨by have := (unhide HE).1; have := unhide HK; omega, by rw [← unhide HK, ← (unhide HE).1]; exact hu⟩])
              clear hu HX
              go_wp2
              go_roundw
              case rel => exact ⟨m + 1, 2 * xx + 1, by congr 1; have := unhide HK; omega, by omega, by congr 1, HX2, trivial⟩
              case measure => simp [intOf]
            | false =>
              rw [hu] at z5
              have HX2 : Hid (2 * xx = hx U B i (m + 1)) := hide (by rw [hx, ← unhide HX, bit1, if_neg (fun h => by rw [← unhide HK, ← (unhide HE).1, hu] at h; exact absurd h.2 (by simp))]; rfl)
              clear hu HX
              go_wp2
              go_roundw
              case rel => exact ⟨m + 1, 2 * xx, by congr 1; have := unhide HK; omega, by omega, by congr 1, HX2, trivial⟩
              case measure => simp [intOf]
          · have hb' : ¬ (e : Int) + (kk : Int) < (B : Int) := by omega
            have HX2 : Hid (2 * xx = hx U B i (m + 1)) := hide (by rw [hx, ← unhide HX, bit1, if_neg (fun h => by have := (unhide HE).1; have := unhide HK; omega)]; rfl)
            clear HX
            go_wp2
            go_roundw
            case rel => exact ⟨m + 1, 2 * xx, by congr 1; have := unhide HK; omega, by omega, by congr 1, HX2, trivial⟩
            case measure => simp [intOf]
        · have hm9 : m = 8 := by omega
          subst hm9
          obtain ⟨c, hc⟩ : ∃ c, c = UInt8.ofNat (byteAt U B i) := ⟨_, rfl⟩
          have Hc : Hid ((xx : Int) = (c.toNat : Int)) := hide (by rw [hc, ← hx_full, ← unhide HX]; simp; omega)
          have HL : Hid (lay B ++ bitsN U (i + 1) B = (lay B ++ bitsN U i B) ++ [c]) := hide (by rw [bitsN_snoc, hc, List.append_assoc])
          have hlen : (lay B ++ bitsN U i B).length ≤ 200 := by
            have := lay_len B
            have := (unhide HE).2
            rw [List.length_append, bitsN_len]
            omega
          clear hc HX
          go_wp2_with (at_builtin; refine wpList_append_mine rfl (.tmp 51) (.tmp 54) rfl w.heap.size _ (lay B ++ bitsN U i B) rfl ?hown _ [c] rfl ?hy ?hlen ?hbase ?_)
          case hown => exact (unhide HO).alloc _
          case hy => rw [unhide Hc]; exact Sl.new W0 [c] (by simp [maxLen]) (0, 0)
          case hlen => have : [c].length = 1 := rfl; omega
          case hbase => have := (unhide HG).size; simp; omega
          intro v' w5 hown1 hb1
          have O5 : Hid (Own w5 w.heap.size v' (lay B ++ bitsN U (i + 1) B)) := hide (by rw [unhide HL, List.append_assoc]; exact hown1)
          have G5 := hide (grown_of_below (((below_of_grown (unhide HG)).alloc (unhide HG).size _).trans hb1))
          have HE2 : Hid (e + 8 = 8 * (i + 1) ∧ i + 1 ≤ (B + 7) / 8) := hide (by have := unhide HE; omega)
          clear hown1 hb1 HG HO HE M2 c0
          go_wp2
          go_roundw
          case rel => exact ⟨i + 1, e + 8, rfl, by omega, HE2, unhide O5, unhide G5⟩
          case measure => simp [intOf]; omega
    · have hlt' : ¬ (e : Int) < (B : Int) := by omega
      have HE2 : Hid (i = (B + 7) / 8) := hide (by have := unhide HE; omega)
      go_wp2
      go_ret
      exact ⟨_, rfl, by rw [tell, ← unhide HE2]; exact unhide HO, unhide HG⟩
end Go.Proofs.Ytgdplmbchoogiaa

/-
  DERIVED. The law's used: some of the blocks that are in use, as runs.
-/
namespace Go.Proofs.Ytgdplmbchoogiaa
open Go.RowKit
set_option linter.unusedVariables false

def usedF (U : Nat → Bool) (n : Nat) : Nat → Bool := fun k => U k && decide ((k + n) % 3 ≠ 0)
set_option maxRecDepth 20000 in
set_option maxHeartbeats 2000000 in
theorem used_any (w : World) (N b B n : Nat) (v1 v2 : Value) (U V : Nat → Bool) (h : RmAt w N b B v1 v2 U V) (hn : n < 3) :
    Calls Try.prog 11 #[.pointer (some ⟨b, 0, none⟩), .int .i64 (n : Int)] w fun e w' => ∃ u X, e = .returned u ∧ ROwn w' w.heap.size u X ∧ (∀ x ∈ X, x.1 ≤ 512 ∧ x.2 ≤ 512) ∧ w.grownBy w' none := by
  have HM := hide h
  have hle := h.le
  have hBI : (B : Int) ≤ 512 := by omega
  have hnI : (n : Int) ≤ 2 := by omega
  obtain ⟨o1, p1, hv1, q1, q2, _⟩ := h.now.form
  subst hv1
  clear h
  go_enter Try.func11, Try.ntmps11
  go_wp2
  go_loopw [5, 6] (fun a i wr => ∃ k : Nat, i = .int .i64 (k : Int) ∧ k ≤ B ∧ NOwn wr w.heap.size a ((List.range' 0 k).filter (usedF U n)) ∧ w.grownBy wr none) (fun _ i _ => B - (intOf i).toNat)
  case atStart => exact ⟨0, rfl, by omega, by simpa using NOwn.nil w w.heap.size, World.grownBy.refl _ _⟩
  case round =>
    obtain ⟨k, rfl, hk, hN, hG⟩ := hrel
    have HN := hide hN
    have HG := hide hG
    have M2 := hide ((unhide HM).grown hG)
    have c0 := (unhide M2).c0
    clear hN hG
    have HFs := hide (filter_range_succ (usedF U n) k)
    by_cases hlt : k < B
    · have hlt' : (k : Int) < (B : Int) := by omega
      have hidx : (0 : Int) ≤ (k : Int) ∧ (k : Int) < (B : Int) := ⟨by omega, hlt'⟩
      obtain ⟨o', cap', e', _, _, h4⟩ := (unhide M2).now.form
      cases e'
      obtain ⟨g, rfl, _, hgl, _, hcell⟩ := h4 (by omega)
      have ck := hcell k hlt
      clear h4 hcell
      have skip : Hid (usedF U n k = false → NOwn wr w.heap.size u5 ((List.range' 0 (k + 1)).filter (usedF U n))) := hide (fun hf => by rw [unhide HFs, hf]; simpa using unhide HN)
      cases hU : U k with
      | false =>
        rw [hU] at ck
        have hf : usedF U n k = false := by simp [usedF, hU]
        have N5 := hide (unhide skip hf)
        clear hU hf skip
        go_wp2
        go_roundw
        case rel => exact ⟨k + 1, rfl, by omega, unhide N5, unhide HG⟩
        case measure => simp [intOf]; omega
      | true =>
        rw [hU] at ck
        by_cases hz : (k + n) % 3 = 0
        · have hf : usedF U n k = false := by simp [usedF, hz]
          have N5 := hide (unhide skip hf)
          have hzi : ((k : Int) + (n : Int)) % 3 = 0 := by omega
          have hzb : (((k : Int) + (n : Int)) % 3 != 0) = false := by simp [hzi]
          clear hU hf skip hz hzi
          go_wp2
          go_roundw
          case rel => exact ⟨k + 1, rfl, by omega, unhide N5, unhide HG⟩
          case measure => simp [intOf]; omega
        · have hf : usedF U n k = true := by simp [usedF, hU, hz]
          rw [hf, if_pos rfl] at HFs
          have hzi : ¬ ((k : Int) + (n : Int)) % 3 = 0 := by omega
          have hzb : (((k : Int) + (n : Int)) % 3 != 0) = true := by simp [hzi]
          have hll : ((List.range' 0 k).filter (usedF U n)).length ≤ 65536 := by have := filter_len_le (usedF U n) k; omega
          clear hU hf skip hz hzi
          go_wp2_with (at_builtin; refine wpList_append_int rfl (.tmp 30) (.tmp 32) rfl w.heap.size _ ((List.range' 0 k).filter (usedF U n)) rfl ?ho ?hb hll ⟨_, 0, none⟩ 1 k rfl ?hc ?_)
          case ho => exact (unhide HN).grown (World.grownBy_alloc _ _ _)
          case hb => have := (unhide HG).size; simp; omega
          case hc => exact (cell_of_row _ _ _ _ _ _ (heap_alloc_new _ _)).trans rfl
          intro v5 w5 o5 g5
          have N5 : Hid (NOwn w5 w.heap.size v5 ((List.range' 0 (k + 1)).filter (usedF U n))) := hide (by rw [unhide HFs]; exact o5)
          have G5 : Hid (w.grownBy w5 none) := hide (((unhide HG).trans (World.grownBy_alloc _ _ _)).andThen g5 (fun z e => .inl ((unhide HN).row e).1))
          clear o5 g5 HN HG M2 c0 ck
          go_wp2
          go_roundw
          case rel => exact ⟨k + 1, rfl, by omega, unhide N5, unhide G5⟩
          case measure => simp [intOf]; omega
    · have hlt' : ¬ (k : Int) < (B : Int) := by omega
      have hlow : low ((List.range' 0 k).filter (usedF U n)) := fun x hx => by
        have h1 := (List.mem_filter.1 hx).1
        rw [List.mem_range'] at h1
        obtain ⟨i, hi, rfl⟩ := h1
        omega
      have HLow := hide hlow
      clear hlow
      go_wp2_with fail
      refine (Whole_any wr u5 _ (unhide HN).nr (unhide HLow) (by have := filter_len_le (usedF U n) k; omega)).mono ?_
      rintro e w6 ⟨u6, rfl, o6, g6⟩
      have O6 : Hid (ROwn w6 w.heap.size u6 (canon ((List.range' 0 k).filter (usedF U n)))) := hide (by
        obtain ⟨h1, h2⟩ := o6
        refine ⟨h1, ?_⟩
        have hsz := (unhide HG).size
        rcases h2 with h2 | ⟨g, cap, cur, a, b', c⟩
        · exact .inl h2
        · exact .inr ⟨g, cap, cur, a, by omega, c⟩)
      have G6 : Hid (w.grownBy w6 none) := hide ((unhide HG).trans g6)
      clear o6 g6 HG M2 c0
      go_wp2
      go_ret
      exact ⟨_, _, rfl, unhide O6, fun x hx => by have := low_canon (unhide HLow) x hx; omega, unhide G6⟩
end Go.Proofs.Ytgdplmbchoogiaa

/-
  DERIVED. The law's asked.
-/
namespace Go.Proofs.Ytgdplmbchoogiaa
open Go.RowKit
set_option linter.unusedVariables false

theorem runs_small (B : Nat) (U V : Nat → Bool) (hB : B ≤ 512) : ∀ x ∈ runsOf B U V, x.1 ≤ 512 ∧ x.2 ≤ 512 := fun x hx => by
  have := runsOf_in hB x hx
  omega
theorem grown_rn {w w' : World} {base : Nat} {v : Value} {xs : List (Nat × Nat)} (h : ROwn w base v xs) (hg : w.grownBy w' none) (hs : ∀ x ∈ xs, x.1 ≤ 512 ∧ x.2 ≤ 512) : Rn w' v (xs.map toI) := (h.rn hs).kept hg
/-- The first ones of a slice of runs. -/
theorem Rn.take {w : World} {ao : Option Addr} {n c : Nat} {l : List (Int × Int)} (h : Rn w (.slice ao n c) l) (k : Nat) (hk : k ≤ l.length) : Rn w (.slice ao k c) (l.take k) := by
  obtain ⟨ao', cap, e, h1, h2, h3, h4⟩ := h
  cases e
  have e : (l.take k).length = k := by rw [List.length_take]; omega
  refine ⟨ao, c, by rw [e], by omega, h2, fun x hx => h3 x (List.mem_of_mem_take hx), fun hl => ?_⟩
  obtain ⟨b, off, e2, hb, hc⟩ := h4 (by omega)
  refine ⟨b, off, e2, hb, fun i hi => ?_⟩
  rw [List.getElem_take]
  exact hc i (by omega)
theorem str_of {w : World} {v : Value} {l : List UInt8} (h : Sl w v l) : (convert 42 9 v).run Try.prog w = .ok (.string ⟨l.toArray⟩) w := by
  rcases h.cases with ⟨rfl, ao, rfl⟩ | ⟨b, off, cap, rfl, h1, h2, hb, hc⟩
  · cases ao with
    | none => exact run_convert_bytes_nil w 42 5 Try.underlying42 Try.underlying5 0 0 9 Try.underlying9
    | some a => exact run_convert_bytes_back w 42 9 5 a 0 [] Try.underlying42 Try.underlying5 Try.underlying9 (fun j hj => by simp at hj)
  · exact run_convert_bytes_back w 42 9 5 ⟨b, off, none⟩ cap l Try.underlying42 Try.underlying5 Try.underlying9 (fun j hj => by rw [addr_add]; exact hc j hj)
theorem Sl.grownN {w w' : World} {v : Value} {l : List UInt8} (h : Sl w v l) (hg : w.grownBy w' none) : Sl w' v l := h.below (below_of_grown hg) (Nat.le_refl _)

/-- A row of bytes to be written over. -/
def WrB (B : Nat) (ao : Option Addr) (n : Nat) (W : World) : Prop := n ≠ 0 → ∃ g cur, ao = some ⟨g, 0, none⟩ ∧ B ≤ g ∧ W.heap[g]? = some (.cells cur 5 (0, 0)) ∧ n ≤ cur.size
theorem WrB.low {B B' : Nat} {ao : Option Addr} {n : Nat} {W : World} (h : WrB B ao n W) (hb : B' ≤ B) : WrB B' ao n W := fun hn => by
  obtain ⟨g, cur, e, h1, h2, h3⟩ := h hn
  exact ⟨g, cur, e, by omega, h2, h3⟩
theorem WrB.set {B : Nat} {ao : Option Addr} {n : Nat} {W : World} (h : WrB B ao n W) (g i : Nat) (v : Value) : WrB B ao n (W.setCell ⟨g, i, none⟩ v) := fun hn => by
  obtain ⟨g', cur, e, h1, h2, h3⟩ := h hn
  by_cases hg : g' = g
  · subst hg
    exact ⟨g', _, e, h1, heap_setCell_same W g' i cur _ v h2, by simpa using h3⟩
  · exact ⟨g', cur, e, h1, (Below.heap_setCell W ⟨g, i, none⟩ v g' hg).trans h2, h3⟩
theorem Own.wrB {w : World} {base cap : Nat} {v : Value} {ao : Option Addr} {l : List UInt8} (h : Own w base v l) (e : v = .slice ao l.length cap) : WrB base ao l.length w := fun h0 => by
  rcases h.2 with ⟨e2, h1⟩ | ⟨g, cap', cur, e2, hb, hg, h1, h2, h3, h4⟩
  · omega
  · rw [e] at e2
    cases e2
    exact ⟨g, cur, rfl, hb, hg, by omega⟩
set_option maxRecDepth 20000 in
set_option maxHeartbeats 4000000 in
theorem asked_any (w : World) (N b rb B : Nat) (v1 v2 : Value) (U V : Nat → Bool) (h : MapAt w b B U V) (hr : RmAt w N rb B v1 v2 U V) :
    Calls Try.prog 19 #[.pointer (some ⟨b, 0, none⟩), .pointer (some ⟨rb, 0, none⟩)] w fun e w' => e = .returned (.bool true) ∧ w.grownBy w' none := by
  have HM := hide h
  have HR := hide hr
  have hB := h.le
  have hrl := runs_len B U V hB
  have HSm := hide (runs_small B U V hB)
  obtain ⟨X, hX⟩ : ∃ X, X = runsOf B U V := ⟨_, rfl⟩
  have HX := hide hX
  rw [← hX] at hrl HSm
  clear h hr hX
  go_enter Try.func19, Try.ntmps19
  go_wp2_with fail
  refine (rAll_any w N rb B v1 v2 U V (unhide HR)).mono ?_
  rintro e w1 ⟨uw, rfl, o1, g1⟩
  rw [← unhide HX] at o1
  have O1 := hide o1
  have G1 := hide g1
  clear o1 g1
  go_wp2_with fail
  refine (listed_any w1 b B 600 U V ((unhide HM).grown (unhide G1) (by simp)) (by omega) (by omega)).mono ?_
  rintro e w2 ⟨u2, rfl, o2, g2⟩
  rw [← unhide HX, List.take_of_length_le (by omega)] at o2
  have O2 := hide o2
  have G2 := hide ((unhide G1).trans g2)
  have R12 := hide (grown_rn (unhide O1) g2 (unhide HSm))
  clear o2 g2
  go_wp2_with fail
  refine (SameRuns_any w2 u2 uw _ _ ((unhide O2).rn (unhide HSm)) (unhide R12)).mono ?_
  rintro e w3 ⟨rfl, g3⟩
  have hd3 : decide (X.map toI = X.map toI) = true := by simp
  have G3 := hide ((unhide G2).trans g3)
  have R3 := hide ((unhide R12).kept g3)
  clear g3 O2 R12 G2 G1 O1
  obtain ⟨wo, wcap, hwf, hw1, hw2⟩ : ∃ ao cap, uw = .slice ao (X.map toI).length cap ∧ (X.map toI).length ≤ cap ∧ cap ≤ 9223372036854775807 := by
    obtain ⟨ao, cap, e, h1, h2, _⟩ := unhide R3
    exact ⟨ao, cap, e, h1, h2⟩
  obtain ⟨n, hn⟩ : ∃ n, n = (X.map toI).length := ⟨_, rfl⟩
  have hnx : n ≤ 512 := by rw [hn, List.length_map]; exact hrl
  rw [← hn] at hwf hw1
  subst hwf
  have HN := hide hn
  have hki1 : Hid (1 ≤ n → Rn w3 (.slice wo 1 wcap) ((X.take 1).map toI)) := hide (fun h1 => by
    have h2 := (unhide R3).take 1 (by rw [← hn]; omega)
    rw [← List.map_take] at h2
    exact h2)
  have hki0 : Hid (n < 1 → Rn w3 (.slice wo n wcap) ((X.take 1).map toI)) := hide (fun h1 => by
    have e0 : X = [] := List.eq_nil_of_length_eq_zero (by rw [List.length_map] at hn; omega)
    have h2 := (unhide R3)
    subst e0
    simpa using h2)
  have G3d : Hid (w.grownBy w3.drew none) := hide ⟨(unhide G3).os, (unhide G3).tape, (unhide G3).output, (unhide G3).size, (unhide G3).block⟩
  have g3d : Hid (w3.grownBy w3.drew none) := hide ⟨rfl, rfl, rfl, Nat.le_refl _, fun _ _ _ => rfl⟩
  have HS1 : Hid (∀ x ∈ X.take 1, x.1 ≤ 512 ∧ x.2 ≤ 512) := hide (fun x hx => unhide HSm x (List.mem_of_mem_take hx))
  have LA : Hid (∀ W, w.grownBy W none → Calls Try.prog 31 #[.pointer (some ⟨b, 0, none⟩), .int .i64 1] W fun e w' => ∃ v, e = .returned v ∧ ROwn w' W.heap.size v (X.take 1) ∧ W.grownBy w' none) := hide (fun W hW => by
    rw [unhide HX]
    exact listed_any W b B 1 U V ((unhide HM).grown hW (by simp)) (by omega) (by omega))
  have hd4 : decide ((X.take 1).map toI = (X.take 1).map toI) = true := by simp
  have hnw : n ≤ wcap := hw1
  clear hn R3
  go_upto_region 3 with fail
  go_cut [7] from 17 to 24 (fun t wx => t = .bool true ∧ w.grownBy wx none)
  case first =>
    by_cases hm1 : (1 : Int) ≤ (n : Int)
    all_goals
      try have hwc : 1 ≤ wcap := by omega
      try have hwc2 : (1 : Int) ≤ (wcap : Int) := by omega
      go_region_law (first | (go_simp; go_wp2_with (first
        | (go_at_call 31; refine (unhide LA _ (unhide G3d)).mono ?_; rintro e w4 ⟨u4, rfl, o4, g4⟩; have O4 := hide o4; have G4 : Hid (w.grownBy w4 none) := hide ((unhide G3d).trans g4); have K4 : Hid (w3.grownBy w4 none) := hide ((unhide g3d).trans g4); clear o4 g4)
        | (go_at_call 10; refine (SameRuns_any w4 u4 _ _ ((X.take 1).map toI) ((unhide O4).rn (unhide HS1)) (by first | exact (unhide hki1 (by omega)).kept (unhide K4) | exact (unhide hki0 (by omega)).kept (unhide K4))).mono ?_; rintro e w5 ⟨rfl, g5⟩; have G5 : Hid (w.grownBy w5 none) := hide ((unhide G4).trans g5); clear g5)
        | fail)))
      all_goals go_wp2_with fail
      all_goals go_meet
      all_goals exact ⟨rfl, unhide G5⟩
  case rest =>
    obtain ⟨rfl, g5⟩ := hcut
    obtain ⟨w5, hw5⟩ : ∃ w5, w5 = wc := ⟨_, rfl⟩
    rw [← hw5] at g5 ⊢
    have G5 := hide g5
    clear hki1 hki0 G3d g3d LA HS1 G3 g5 hw5
    go_wp2_with fail
    refine (Bytes_any w5 b B U V ((unhide HM).grown (unhide G5) (by simp))).mono ?_
    rintro e w6 ⟨vb, rfl, o6, g6⟩
    have O6 := hide o6
    have G6 : Hid (w.grownBy w6 none) := hide ((unhide G5).trans g6)
    have Z6 : Hid (w.heap.size ≤ w5.heap.size) := hide (unhide G5).size
    obtain ⟨T, hT⟩ : ∃ T, T = tell B U := ⟨_, rfl⟩
    have HT := hide hT
    rw [← hT] at O6
    have s6 := str_of (w := w6.drew) (Own.sl (World.ownsRow.drew (unhide O6)))
    have RB : Hid (∀ W, w.grownBy W none → Calls Try.prog 32 #[.pointer (some ⟨rb, 0, none⟩)] W fun e w' => ∃ v, e = .returned v ∧ Own w' W.heap.size v T ∧ W.grownBy w' none) := hide (fun W hW => by rw [hT]; exact rBytes_any W N rb B v1 v2 U V ((unhide HR).grown hW))
    have G6d : Hid (w.grownBy w6.drew none) := hide ⟨(unhide G6).os, (unhide G6).tape, (unhide G6).output, (unhide G6).size, (unhide G6).block⟩
    clear hT o6 g6
    go_upto_region 5 with fail
    go_cut [9] from 27 to 32 (fun t wx => t = .bool true ∧ Own wx w5.heap.size vb T ∧ w.grownBy wx none)
    case first =>
      go_region_law (first | (go_simp; go_wp2_with (first
        | (go_at_call 32; refine (unhide RB _ (unhide G6d)).mono ?_; rintro e w7 ⟨v7, rfl, o7, g7⟩; have s7 := str_of (Own.sl o7); have O7 : Hid (Own w7 w5.heap.size vb T) := hide (Own.below (World.ownsRow.drew (unhide O6)) (below_of_grown g7) (Nat.le_refl _)); have s67 := str_of (Own.sl (unhide O7)); have G7 : Hid (w.grownBy w7 none) := hide ((unhide G6d).trans g7); clear o7 g7)
        | fail)))
      all_goals go_wp2_with fail
      all_goals go_meet
      all_goals exact ⟨rfl, unhide O7, unhide G7⟩
    case rest =>
      obtain ⟨rfl, o7, g7⟩ := hcut
      obtain ⟨w7, hw7⟩ : ∃ w7, w7 = wc := ⟨_, rfl⟩
      rw [← hw7] at o7 g7 ⊢
      have O7 := hide o7
      have G7 := hide g7
      obtain ⟨bo, bcap, hbf, hb1, hb2⟩ : ∃ ao cap, vb = .slice ao T.length cap ∧ T.length ≤ cap ∧ cap ≤ 9223372036854775807 := by
        obtain ⟨ao, cap, e, h1, h2, _⟩ := (unhide O7).sl
        exact ⟨ao, cap, e, h1, by unfold maxLen at h2; omega⟩
      obtain ⟨nb, hnb⟩ : ∃ n, n = T.length := ⟨_, rfl⟩
      have hnb2 : (nb : Int) ≤ 9223372036854775807 := by omega
      have W7 : Hid (WrB w.heap.size bo nb w7) := hide (by
        have h1 := (unhide O7).wrB hbf
        rw [← hnb] at h1
        exact h1.low (unhide Z6))
      rw [← hnb] at hbf hb1
      subst hbf
      clear s6 O7 O6 RB G6d hnb o7 g7 hw7
      go_wp2
      go_loopw [10] (fun i wr => ∃ j : Nat, i = .int .i64 (j : Int) ∧ j ≤ nb ∧ Hid (WrB w.heap.size bo nb wr) ∧ Hid (w.grownBy wr none)) (fun i _ => nb - (intOf i).toNat)
      case atStart => exact ⟨0, rfl, by omega, W7, G7⟩
      case round =>
        obtain ⟨j, rfl, hj, HW, HG⟩ := hrel
        have hji : (j : Int) ≤ 9223372036854775807 := by omega
        by_cases hlt : j < nb
        · have hlt' : (j : Int) < (nb : Int) := by omega
          have hidx : (0 : Int) ≤ (j : Int) ∧ (j : Int) < (nb : Int) := ⟨by omega, hlt'⟩
          obtain ⟨g, cur, rfl, hgB, hg, hgs⟩ := unhide HW (by omega)
          have cg : wr.cell? ⟨g, j, none⟩ = some (cur[j]'(by omega)) := by rw [cell_of_row _ _ _ _ _ _ hg]; simp
          have fg : ∀ i, wr.frozen? ⟨g, i, none⟩ = false := fun i => by simp [World.frozen?, hg]
          have HW2 := hide ((unhide HW).set g j (.int .u8 255))
          have HG2 : Hid (w.grownBy (wr.setCell ⟨g, j, none⟩ (.int .u8 255)) none) := hide (own_stepW (unhide HG) hgB (setCell_grown wr g j _))
          obtain ⟨y, hy⟩ : ∃ y, y = cur[j]'(by omega) := ⟨_, rfl⟩
          rw [← hy] at cg
          clear hg hgs hy
          go_wp2
          go_roundw
          case rel => exact ⟨j + 1, by go_num, by omega, HW2, HG2⟩
          case measure => simp [intOf]; omega
        · obtain rfl : j = nb := by omega
          have hlt' : ¬ (j : Int) < (j : Int) := by omega
          clear hj hlt
          obtain ⟨o1, p1, hv1, _⟩ := (unhide HR).now.form
          have r0 := ((unhide HR).grown (unhide HG)).c0
          rw [hv1] at r0
          have FA : Hid (∀ W, w.grownBy W none → Calls Try.prog 22 #[.pointer (some ⟨b, 0, none⟩)] W fun e w' => e = .returned (.int .i64 (total X : Int)) ∧ W.grownBy w' none) := hide (fun W hW => by rw [unhide HX]; exact Free_any W b B U V ((unhide HM).grown hW (by simp)))
          have RF : Hid (∀ W, w.grownBy W none → Calls Try.prog 26 #[.pointer (some ⟨rb, 0, none⟩)] W fun e w' => e = .returned (.int .i64 (total X : Int)) ∧ w' = W) := hide (fun W hW => by rw [unhide HX]; exact rFree_any W N rb B v1 v2 U V ((unhide HR).grown hW))
          have BA : Hid (∀ W, w.grownBy W none → Calls Try.prog 33 #[.pointer (some ⟨b, 0, none⟩)] W fun e w' => e = .returned (.int .i64 (B : Int)) ∧ w' = W) := hide (fun W hW => Blocks_any W b B U V ((unhide HM).grown hW (by simp)))
          have RC0 : Hid (∀ W, w.grownBy W none → W.cell? ⟨rb, 0, none⟩ = some (.slice o1 B p1)) := hide (fun W hW => by rw [← hv1]; exact ((unhide HR).grown hW).c0)
          have GD : Hid (w.grownBy wr.drew none) := hide ⟨(unhide HG).os, (unhide HG).tape, (unhide HG).output, (unhide HG).size, (unhide HG).block⟩
          obtain ⟨t, ht⟩ : ∃ t, t = total X := ⟨_, rfl⟩
          rw [← ht] at FA RF
          have htt : ((t : Int) == (t : Int)) = true := by simp
          have hbb : ((B : Int) == (B : Int)) = true := by simp
          clear ht HW hv1
          have S0 : Hid (w.grownBy wr.drew none ∧ wr.drew.cell? ⟨rb, 0, none⟩ = some (.slice o1 B p1)) := hide ⟨unhide GD, unhide RC0 _ (unhide GD)⟩
          go_wp2_with fail
          go_region_held3 (fun w' => w.grownBy w' none ∧ w'.cell? ⟨rb, 0, none⟩ = some (.slice o1 B p1))
            (first | exact unhide S0 | exact unhide S8)
            (first
            | (go_at_call 22; refine (unhide FA _ (unhide GD)).mono ?_; rintro e w8 ⟨rfl, g8⟩; have G8 : Hid (w.grownBy w8 none) := hide ((unhide GD).trans g8); have S8 : Hid (w.grownBy w8 none ∧ w8.cell? ⟨rb, 0, none⟩ = some (.slice o1 B p1)) := hide ⟨unhide G8, unhide RC0 w8 (unhide G8)⟩; clear g8)
            | (go_at_call 26; refine (unhide RF _ (unhide G8)).mono ?_; rintro e w9 ⟨rfl, rfl⟩)
            | (go_at_call 33; refine (unhide BA _ (unhide G8)).mono ?_; rintro e w9 ⟨rfl, rfl⟩))
          all_goals go_wp2
          all_goals go_ret
          all_goals exact ⟨rfl, unhide G8⟩

end Go.Proofs.Ytgdplmbchoogiaa

/-
  DERIVED. Take.
-/
namespace Go.Proofs.Ytgdplmbchoogiaa
open Go.RowKit Go.Shelf
set_option linter.unusedVariables false
attribute [local go_sem] Oper.semAt_some

/-- A statement that is left at its end alone. -/
def onlyN (Q : Exit → Act → World → Prop) : Exit → Act → World → Prop
  | .normal, a, w => Q .normal a w
  | _, _, _ => False
theorem wp_onlyN {n : Nat} {P : Program} {c : Code} {Q : Exit → Act → World → Prop} {a : Act} {w : World} (h : c.wp P (onlyN Q) a w) : c.wpIn Fence.wide n P Q a w :=
  wpIn_mono (wpIn_wide.2 h) fun e a w h => by cases e <;> first | exact h | exact h.elim

set_option maxRecDepth 100000 in
set_option maxHeartbeats 2000000 in
theorem Take_ok (w : World) (b B n : Nat) (U V : Nat → Bool) (h : MapAt w b B U V) (hn : n ≤ total (runsOf B U V)) :
    Calls Try.prog 8 #[.pointer (some ⟨b, 0, none⟩), .int .i64 (n : Int)] w fun e w' => ∃ v, e = .returned (.tuple #[v, .int .i64 0]) ∧ ROwn w' w.heap.size v (cut n (runsOf B U V)) ∧ MapAt w' b B (marks U (cut n (runsOf B U V))) V ∧ w.grownBy w' (some b) := by
  have hB := h.le
  have htot := runsOf_total B U V
  have hn' : (n : Int) ≤ 512 := by omega
  have hn0 : ¬ (n : Int) < 0 := by omega
  refine (callsIn_wide (n := 3)).1 ?_
  refine callsIn_of_wp_marks Try.func8 rfl trivial ?_ rfl
  simp only [Try.ntmps8, List.size_toArray, List.length_cons, List.length_nil, Nat.reduceAdd, Nat.reduceSub, Array.replicate_succ, Array.replicate_zero, List.push_toArray, List.append_toArray, List.nil_append, List.cons_append]
  have HM := hide h
  clear h
  gi_wp2_with fail
  have bM := Boxed.new w 24 (.pointer (some ⟨b, 0, none⟩))
  have bN := Boxed.new (w.alloc (.cells #[.pointer (some ⟨b, 0, none⟩)] 24)) 3 (.int .i64 (n : Int))
  rw [World.size_alloc] at bN
  obtain ⟨W1, hW1⟩ : ∃ W1, W1 = (w.alloc (.cells #[.pointer (some ⟨b, 0, none⟩)] 24)).alloc (.cells #[.int .i64 (n : Int)] 3) := ⟨_, rfl⟩
  have hg1 : w.grownBy W1 none := by rw [hW1]; exact (World.grownBy_alloc _ _ _).trans (World.grownBy_alloc _ _ _)
  have hs1 : W1.heap.size = w.heap.size + 2 := by rw [hW1]; simp
  have bM1 : Boxed W1 w.heap.size 24 (.pointer (some ⟨b, 0, none⟩)) := by rw [hW1]; exact bM.alloc _
  have HM1 := hide ((unhide HM).grown hg1 (by simp))
  rw [← hW1] at bN ⊢
  clear hW1 bM
  have cM := bM1.cell
  have cN := bN.cell
  have HbM := hide bM1
  have HbN := hide bN
  have HG1 := hide hg1
  have HS1 := hide hs1
  clear bM1 bN hg1 hs1
  refine wp_onlyN ?_
  have hgt : decide ((total (runsOf B U V) : Int) < (n : Int)) = false := decide_eq_false (by omega)
  go_region_with (go_at_call 22; refine (Free_any _ b B U V ((unhide HM1).drewN _)).mono ?_; rintro e w2 ⟨rfl, hg2⟩; have c2 : w2.cell? ⟨w.heap.size + 1, 0, none⟩ = some (.int .i64 (n : Int)) := hg2.cell cN (by simp); have c3 : (w2.alloc (.cells #[.slice none 0 0] 28)).cell? ⟨w.heap.size, 0, none⟩ = some (.pointer (some ⟨b, 0, none⟩)) := (World.grownBy_alloc _ _ none).cell (hg2.cell cM (by simp)) (by simp); have HG2 := hide hg2; clear hg2)
  all_goals simp only [onlyN]
  all_goals gi_wp2_with fail
  all_goals refine ⟨trivial, (callsIn_wide.2 (All_any _ _)).mono ?_⟩
  all_goals rintro e w' ⟨rfl, rfl⟩
  all_goals gi_wp2
  all_goals
    have hgw2 : w.grownBy w2 none := (unhide HG1).trans ⟨(unhide HG2).os, (unhide HG2).tape, (unhide HG2).output, (unhide HG2).size, (unhide HG2).block⟩
    have hs2 : w.heap.size + 2 ≤ w2.heap.size := by have := (unhide HG2).size; have := unhide HS1; simp at *; omega
    have HbM2 : Boxed w2 w.heap.size 24 (.pointer (some ⟨b, 0, none⟩)) := ((unhide HG2).block _ (by have := unhide HS1; simp; omega) (by simp)).trans (unhide HbM)
    have HbN2 : Boxed w2 (w.heap.size + 1) 3 (.int .i64 (n : Int)) := ((unhide HG2).block _ (by have := unhide HS1; simp; omega) (by simp)).trans (unhide HbN)
    obtain ⟨Wl, hWl⟩ : ∃ Wl, Wl = (w2.alloc (.cells #[.slice none 0 0] 28)).alloc (.cells #[.pointer (some ⟨b, 0, none⟩)] 24) := ⟨_, rfl⟩
    have hgl : w2.grownBy Wl none := by rw [hWl]; exact (World.grownBy_alloc _ _ _).trans (World.grownBy_alloc _ _ _)
    have hsl : Wl.heap.size = w2.heap.size + 2 := by rw [hWl]; simp
    have bT : Boxed Wl w2.heap.size 28 (.slice none 0 0) := by rw [hWl]; exact (Boxed.new w2 28 _).alloc _
    have bA : Boxed Wl (w2.heap.size + 1) 24 (.pointer (some ⟨b, 0, none⟩)) := by
      rw [hWl]
      have := Boxed.new (w2.alloc (.cells #[.slice none 0 0] 28)) 24 (.pointer (some ⟨b, 0, none⟩))
      rwa [World.size_alloc] at this
    have hbw := (unhide HM).lt
    have hml : MapAt Wl b B U V := (unhide HM).grown (hgw2.trans hgl) (by simp)
    have bNl : Boxed Wl (w.heap.size + 1) 3 (.int .i64 (n : Int)) := HbN2.kept hgl (by simp)
    have bMl : Boxed Wl w.heap.size 24 (.pointer (some ⟨b, 0, none⟩)) := HbM2.kept hgl (by simp)
    rw [← hWl]
    obtain ⟨tb, htb⟩ : ∃ tb, tb = w2.heap.size := ⟨_, rfl⟩
    rw [← htb] at hs2 hsl bT bA ⊢
    have hgwl : w.grownBy Wl none := hgw2.trans hgl
    have hcut0 : cut n [] = [] := rfl
    have hst0 : TSt w b B n w.heap.size (w.heap.size + 1) tb U V [] Wl := ⟨by rw [hcut0]; exact hml, by simpa [total] using bNl, bMl, ⟨_, bT, by rw [hcut0]; exact World.ownsRow_nil _ _ _ _⟩, hgwl.but _, by omega⟩
    clear hgw2 HbM2 HbN2 hWl htb hgl HG1 HG2 HbM HbN HS1 HM1 c2 c3 cM cN bNl bMl
    refine range_boxed (n := 3) (gf := 40) (lb := #[.pointer (some ⟨tb + 1, 0, none⟩)]) rfl (enters_of Try.func40 (by kernel_rfl) rfl)
      (AllIt_stops 2 b B (tb + 1) tb (tb + 1) U V Wl bA.cell bA.lt hml (by omega) (by omega) (fun j => by rintro ⟨len, cap, e⟩; rw [bT.cell] at e; cases e)) (fun _ => rfl)
      (fun pre => TSt w b B n w.heap.size (w.heap.size + 1) tb U V (pre.map cl))
      (fun c pre W => (c = .exit 1 ∧ n ≤ total (pre.map cl)) ∧ TSt w b B n w.heap.size (w.heap.size + 1) tb U V (pre.map cl) W)
      (fun x W0 a' W => (RBox W W0.heap.size (cl x) ∧ (∀ (j : Nat) (C : Array Value) (t : TypeId) (fr : Nat × Nat), W0.heap[j]? = some (Obj.cells C t fr) → W.heap[j]? = W0.heap[j]?)) ∧ (∃ pre, TSt w b B n w.heap.size (w.heap.size + 1) tb U V pre W0) ∧ a' = { tmps := #[.pointer (some ⟨b, 0, none⟩), .int .i64 (n : Int), .pointer (some ⟨w.heap.size, 0, none⟩), .pointer (some ⟨w.heap.size + 1, 0, none⟩), .slice none 0 0, .int .i64 0, .pointer (some ⟨tb, 0, none⟩), .pointer (some ⟨W0.heap.size, 0, none⟩), .bool false, .pointer (some ⟨b, 0, none⟩), .bool false, .bool false, .int .i64 (n : Int), .bool false, .bool false, .bool false, .int .i64 (n : Int), .pointer (some ⟨b, 0, none⟩), .int .i64 (total (runsOf B U V) : Int), .bool false, .pointer (some ⟨b, 0, none⟩), .func (.func 40) #[] #[.pointer (some ⟨tb + 1, 0, none⟩)], rv (cl x), undef, undef, undef, undef, undef, undef, undef, undef, undef, undef, undef, undef, undef, undef, undef, undef, undef, undef, undef], defers := [] })
      (TSt.own w b B n _ _ tb U V _ (by have := hgwl.size; omega))
      (fun c => OwnFrom.and (ownFrom_pure _ _) (TSt.own w b B n _ _ tb U V _ (by have := hgwl.size; omega)))
      (fun x W0 a' s A A' row hs hg hr => by
        obtain ⟨⟨h1, h2⟩, h3⟩ := hs
        have kc : ∀ (j : Nat) (C : Array Value) (t : TypeId) (fr : Nat × Nat), A.heap[j]? = some (Obj.cells C t fr) → A'.heap[j]? = A.heap[j]? := fun j C t fr hj => hg.block j (lt_of_block hj) (fun e => by
          obtain ⟨_, o, ho, hc⟩ := hr j e.symm
          rw [hj] at ho
          cases ho
          cases hc)
        exact ⟨⟨(kc _ _ _ _ h1).trans h1, fun j C t fr hj => (kc j C t fr ((h2 j C t fr hj).trans hj)).trans (h2 j C t fr hj)⟩, h3⟩)
      (fun W0 W l o o' hl ho hc hk => Kp.turn (N := Wl.heap.size) (by omega) W l o o' hl ho hc hk)
      hst0 ?assign ?body ?done ?stop
    case assign =>
      rintro l pre x W K hst hK
      have HK := hide hK
      have HS := hide hst
      have hx := cl_in x
      obtain ⟨y, hy⟩ : ∃ y, y = cl x := ⟨_, rfl⟩
      rw [← hy] at hx HK ⊢
      obtain ⟨y1, y2⟩ := y
      unfold rv at HK ⊢
      simp only at hx HK ⊢
      clear hy hK hst
      gi_wp2
      refine unhide HK _ _ ((KeepsOthers.alloc _ _).from _) ((TSt.own w b B n _ _ tb U V (w.heap.size) (Nat.le_refl _)).alloc (s := pre) _ (unhide HS)) ⟨⟨heap_alloc_new _ _, fun j C t fr hj => Below.heap_alloc _ _ _ (lt_of_block hj)⟩, ⟨_, unhide HS⟩, rfl⟩
    case body =>
      rintro l pre x W0 a' W hst ⟨⟨hbx, hkc⟩, ⟨pre0, hst0'⟩, rfl⟩ hlt
      have hlen := runs_len B U V hB
      have hyin := cl_in x
      obtain ⟨y, hy⟩ : ∃ y, y = cl x := ⟨_, rfl⟩
      obtain ⟨xs, hxs⟩ : ∃ xs, xs = pre.map cl := ⟨_, rfl⟩
      have hxl : xs.length = pre.length := by rw [hxs]; simp
      have hmap : (pre ++ [x]).map cl = xs ++ [y] := by rw [hxs, hy]; simp
      have HMp := hide hmap
      rw [← hy] at hyin hbx ⊢
      rw [← hxs] at hst
      clear hy hxs hmap
      by_cases hful : total xs < n
      · obtain ⟨v, hv1, hv2⟩ := hst.got
        obtain ⟨v0, hv01, hv02⟩ := hst0'.got
        obtain rfl : v0 = v := by
          have h1 := (hkc _ _ _ _ hv01).trans hv01
          have h2 := h1.symm.trans (show W.heap[tb]? = _ from hv1)
          simpa using h2
        have R : TRd w b B n w.heap.size (w.heap.size + 1) tb U V xs y v0 W0 W := ⟨hst, hbx, hkc, hv01, by omega, by omega, by omega, hv1, hv2, fun g hg => by obtain ⟨_, cur, hq⟩ := hv02.row hg; exact lt_of_block hq, hst0'.size, hful, hyin, by omega, by omega, hbw⟩
        have hzin := tz_in R
        have cN := hst.num.cell
        have c0 := hbx.c0
        have c1 := hbx.c1
        have cf := hbx.frozen 1
        have cM := hst.ptr.cell
        have hr1 : ((n - total xs : Nat) : Int) ≤ 512 := by omega
        have hr0 : ((n - total xs : Nat) : Int) ≠ 0 := by omega
        have hy2 : (y.2 : Int) ≤ 512 := by omega
        by_cases hmin : y.2 ≤ n - total xs
        · have ez : tz n xs y = (y.1, y.2) := by simp only [tz]; rw [Nat.min_eq_left hmin]
          have hmi : (y.2 : Int) ≤ ((n - total xs : Nat) : Int) := by omega
          gi_wp2_with fail
          refine ⟨trivial, (CallsIn.inRound l (callsIn_wide.2 (use_any _ b B (y.1, y.2) (marks U (cut n xs)) V (by have := R.set; rw [ez] at this; exact this) (by simp only; omega)))).mono ?_⟩
          rintro e Wu ⟨⟨ve, rfl⟩, hm, hg⟩
          have HU : TUse b B n U V xs y W0 W Wu := ⟨by rw [ez]; exact hm, by rw [ez]; exact hg⟩
          have rb := HU.box R
          rw [ez] at rb
          have d0 := rb.c0
          have d1 := rb.c1
          have tvc := (HU.tv R).cell
          have HO := hide (HU.to R)
          clear hm hg
          have hcl := cut_len xs n
          have HB : Hid (w.heap.size ≤ (Wu.alloc (.cells #[.int .i64 (y.1 : Int), .int .i64 ((y.2 : Nat) : Int)] 36)).heap.size) := hide (by have := R.tlt; have := HU.size R; simp; omega)
          have HL : Hid ((cut n xs).length ≤ 512) := hide (by omega)
          have HC : Hid (∀ j u, ([.int .i64 (y.1 : Int), .int .i64 ((y.2 : Nat) : Int)] : List Value)[j]? = some u → (Wu.alloc (.cells #[.int .i64 (y.1 : Int), .int .i64 ((y.2 : Nat) : Int)] 36)).cell? ((⟨Wu.heap.size, 0, none⟩ : Addr).add j) = some u) := hide (fun j u hj => by
            rw [addr_add, cell_of_row _ _ _ _ _ _ (heap_alloc_new _ _)]
            simpa using hj)
          gi_wp2_with (gi_at_builtin; refine wpListIn_append_run rfl (.tmp 33) (.tmp 35) rfl w.heap.size v0 (cut n xs) rfl (World.ownsRow.alloc (unhide HO) _) (unhide HB) (unhide HL) ⟨Wu.heap.size, 0, none⟩ 1 (y.1, y.2) rfl (unhide HC) ?_; intro v' X ho hgr hbk; have HA : TApp w n xs y v0 v' Wu X := ⟨by rw [ez]; exact ho, by rw [ez]; exact hgr, hbk.imp id (fun ⟨g, h1, h2⟩ => ⟨g, h1, by simp at h2; omega⟩)⟩; obtain ⟨g', cap', rfl⟩ := ownsRow_succ (k := (cut n xs).length) (show X.ownsRow w.heap.size 36 2 v' ((cut n xs).length + 1) _ by have := ho; unfold ROwn at this; rw [List.length_append] at this; exact this); have bt := HA.tv R HU; have bn := HA.num R HU; have hnt : w.heap.size + 1 ≠ tb := box_ne bn bt (by decide); have e1 := bt.cell; have e2 := bt.frozen; have bn' := bn.other hnt (.slice (some ⟨g', 0, none⟩) ((cut n xs).length + 1) cap'); have e3 := bn'.cell; have e4 := bn'.frozen; have rx := HA.box R HU; rw [ez] at rx; have hrt : W0.heap.size ≠ tb := (by have := R.tlt; omega); have rx' : RBox (X.setCell ⟨tb, 0, none⟩ (.slice (some ⟨g', 0, none⟩) ((cut n xs).length + 1) cap')) W0.heap.size (y.1, y.2) := (Below.heap_setCell _ _ _ _ hrt).trans rx; have e5 := rx'.c1; have T := take_round R HU HA (tb + 2) (by omega); simp only [ez] at T; (try rw [Int.sub_self] at T); have HT := hide T; clear T HA ho hgr hbk)
          exact ⟨⟨(unhide HT).2.1, (unhide HT).2.2⟩, by show TSt w b B n w.heap.size (w.heap.size + 1) tb U V ((pre ++ [x]).map cl) _; rw [unhide HMp]; exact (unhide HT).1⟩
        · have ez : tz n xs y = (y.1, n - total xs) := by simp only [tz]; rw [Nat.min_eq_right (by omega)]
          have hmi : ¬ (y.2 : Int) ≤ ((n - total xs : Nat) : Int) := by omega
          gi_wp2_with fail
          refine ⟨trivial, (CallsIn.inRound l (callsIn_wide.2 (use_any _ b B (y.1, n - total xs) (marks U (cut n xs)) V (by have := R.set; rw [ez] at this; exact this) (by simp only; omega)))).mono ?_⟩
          rintro e Wu ⟨⟨ve, rfl⟩, hm, hg⟩
          have HU : TUse b B n U V xs y W0 W Wu := ⟨by rw [ez]; exact hm, by rw [ez]; exact hg⟩
          have rb := HU.box R
          rw [ez] at rb
          have d0 := rb.c0
          have d1 := rb.c1
          have tvc := (HU.tv R).cell
          have HO := hide (HU.to R)
          clear hm hg
          have hcl := cut_len xs n
          have HB : Hid (w.heap.size ≤ (Wu.alloc (.cells #[.int .i64 (y.1 : Int), .int .i64 ((n - total xs : Nat) : Int)] 36)).heap.size) := hide (by have := R.tlt; have := HU.size R; simp; omega)
          have HL : Hid ((cut n xs).length ≤ 512) := hide (by omega)
          have HC : Hid (∀ j u, ([.int .i64 (y.1 : Int), .int .i64 ((n - total xs : Nat) : Int)] : List Value)[j]? = some u → (Wu.alloc (.cells #[.int .i64 (y.1 : Int), .int .i64 ((n - total xs : Nat) : Int)] 36)).cell? ((⟨Wu.heap.size, 0, none⟩ : Addr).add j) = some u) := hide (fun j u hj => by
            rw [addr_add, cell_of_row _ _ _ _ _ _ (heap_alloc_new _ _)]
            simpa using hj)
          gi_wp2_with (gi_at_builtin; refine wpListIn_append_run rfl (.tmp 33) (.tmp 35) rfl w.heap.size v0 (cut n xs) rfl (World.ownsRow.alloc (unhide HO) _) (unhide HB) (unhide HL) ⟨Wu.heap.size, 0, none⟩ 1 (y.1, n - total xs) rfl (unhide HC) ?_; intro v' X ho hgr hbk; have HA : TApp w n xs y v0 v' Wu X := ⟨by rw [ez]; exact ho, by rw [ez]; exact hgr, hbk.imp id (fun ⟨g, h1, h2⟩ => ⟨g, h1, by simp at h2; omega⟩)⟩; obtain ⟨g', cap', rfl⟩ := ownsRow_succ (k := (cut n xs).length) (show X.ownsRow w.heap.size 36 2 v' ((cut n xs).length + 1) _ by have := ho; unfold ROwn at this; rw [List.length_append] at this; exact this); have bt := HA.tv R HU; have bn := HA.num R HU; have hnt : w.heap.size + 1 ≠ tb := box_ne bn bt (by decide); have e1 := bt.cell; have e2 := bt.frozen; have bn' := bn.other hnt (.slice (some ⟨g', 0, none⟩) ((cut n xs).length + 1) cap'); have e3 := bn'.cell; have e4 := bn'.frozen; have rx := HA.box R HU; rw [ez] at rx; have hrt : W0.heap.size ≠ tb := (by have := R.tlt; omega); have rx' : RBox (X.setCell ⟨tb, 0, none⟩ (.slice (some ⟨g', 0, none⟩) ((cut n xs).length + 1) cap')) W0.heap.size (y.1, n - total xs) := (Below.heap_setCell _ _ _ _ hrt).trans rx; have e5 := rx'.c1; have T := take_round R HU HA (tb + 2) (by omega); simp only [ez] at T; (try rw [Int.sub_self] at T); have HT := hide T; clear T HA ho hgr hbk)
          exact ⟨⟨(unhide HT).2.1, (unhide HT).2.2⟩, by show TSt w b B n w.heap.size (w.heap.size + 1) tb U V ((pre ++ [x]).map cl) _; rw [unhide HMp]; exact (unhide HT).1⟩
      · have h0 : n - total xs = 0 := by omega
        have cN := hst.num.cell
        rw [h0] at cN
        have HS := hide (hst.stay (by omega) y)
        have HT : Hid (n ≤ total (xs ++ [y])) := hide (by rw [total_append]; omega)
        clear hst hst0' hkc
        gi_wp2
        exact ⟨KeepsFrom.refl _ _, ⟨rfl, by rw [unhide HMp]; exact unhide HT⟩, by rw [unhide HMp]; exact unhide HS⟩
    case done =>
      rintro D ys W hD rfl hst hK
      rw [cl_map (runsOf_in hB)] at hst
      obtain ⟨v, hv1, hv2⟩ := hst.got
      have c := hv1.cell
      gi_wp2
      refine ⟨by simp, .inl ⟨_, _, rfl, run_takeDeferred hK, ?_⟩⟩
      refine ⟨_, results_tmp2 rfl _ _ _, v, rfl, ownsRow_putObj hv2 _ hK rfl, ?_, ?_⟩
      · refine hst.map.of (World.putObj_heap_other ?_)
        rintro rfl
        have := hst.map.blk.symm.trans hK
        cases this
      · exact hst.grown.andThen (grownBy_putObj' W D _) (fun j e => .inl (by cases e; have := hgwl.size; omega))
    case stop =>
      rintro D c pre W hD hpre ⟨⟨rfl, hful⟩, hst⟩ hK
      have hpin : ∀ x ∈ pre, 1 ≤ x.2 ∧ x.1 + x.2 ≤ 512 := fun x hx => runsOf_in hB x (hpre.subset hx)
      rw [cl_map hpin] at hst hful
      have hcut : cut n pre = cut n (runsOf B U V) := by
        obtain ⟨r, hr⟩ := hpre
        rw [← hr, cut_full pre r n hful]
      obtain ⟨v, hv1, hv2⟩ := hst.got
      have hm := hst.map
      rw [hcut] at hv2 hm
      have c := hv1.cell
      gi_wp2
      refine ⟨by simp, .inl ⟨_, _, rfl, run_takeDeferred hK, ?_⟩⟩
      refine ⟨_, results_tmp2 rfl _ _ _, v, rfl, ownsRow_putObj hv2 _ hK rfl, ?_, ?_⟩
      · refine hm.of (World.putObj_heap_other ?_)
        rintro rfl
        have := hm.blk.symm.trans hK
        cases this
      · exact hst.grown.andThen (grownBy_putObj' W D _) (fun j e => .inl (by cases e; have := hgwl.size; omega))
end Go.Proofs.Ytgdplmbchoogiaa

/-
  DERIVED. Take where nothing is taken; Free of no map.
-/
namespace Go.Proofs.Ytgdplmbchoogiaa
open Go.RowKit Go.Shelf
set_option linter.unusedVariables false
attribute [local go_sem] Oper.semAt_some

theorem Take_nil (w : World) (n : Int) : Calls Try.prog 8 #[.pointer none, .int .i64 n] w fun e w' => e = .returned (.tuple #[.slice none 0 0, .int .i64 1]) ∧ w.grownBy w' none := by
  go_enter Try.func8, Try.ntmps8
  go_wp2
  go_ret2
  exact ⟨rfl, (World.grownBy_alloc _ _ _).trans (World.grownBy_alloc _ _ _)⟩
theorem Take_neg (w : World) (b : Nat) (n : Int) (h : n < 0) : Calls Try.prog 8 #[.pointer (some ⟨b, 0, none⟩), .int .i64 n] w fun e w' => e = .returned (.tuple #[.slice none 0 0, .int .i64 1]) ∧ w.grownBy w' none := by
  go_enter Try.func8, Try.ntmps8
  go_wp2
  go_ret2
  exact ⟨rfl, (World.grownBy_alloc _ _ _).trans (World.grownBy_alloc _ _ _)⟩

set_option maxRecDepth 100000 in
set_option maxHeartbeats 2000000 in
theorem Free_nil (w : World) : Calls Try.prog 22 #[.pointer none] w fun e w' => e = .returned (.int .i64 0) ∧ w.grownBy w' none := by
  refine (callsIn_wide (n := 3)).1 ?_
  refine callsIn_of_wp_marks Try.func22 rfl trivial ?_ rfl
  simp only [Try.ntmps22, List.size_toArray, List.length_cons, List.length_nil, Nat.reduceAdd, Nat.reduceSub, Array.replicate_succ, Array.replicate_zero, List.push_toArray, List.append_toArray, List.nil_append, List.cons_append]
  gi_wp2_with fail
  refine ⟨trivial, (callsIn_wide.2 (All_any _ _)).mono ?_⟩
  rintro e w' ⟨rfl, rfl⟩
  gi_wp2
  have bO := Boxed.new w 3 (.int .i64 0)
  have bN := Boxed.new (w.alloc (.cells #[.int .i64 0] 3)) 24 (.pointer none)
  rw [World.size_alloc] at bN
  obtain ⟨Wl, hWl⟩ : ∃ Wl, Wl = (w.alloc (.cells #[.int .i64 0] 3)).alloc (.cells #[.pointer none] 24) := ⟨_, rfl⟩
  have hB0 : Below w.heap.size w Wl := by rw [hWl]; exact ((Below.refl _ w).alloc (Nat.le_refl _) _).alloc (by simp) _
  have hsz : Wl.heap.size = w.heap.size + 2 := by rw [hWl]; simp
  have bO' : Boxed Wl w.heap.size 3 (.int .i64 0) := by rw [hWl]; exact bO.alloc _
  rw [← hWl] at bN ⊢
  clear hWl bO
  refine wpIn_rangeFunc_ownH rfl (by omega) (gf := 40) (lb := #[.pointer (some ⟨w.heap.size + 1, 0, none⟩)]) rfl trivial (enters_of Try.func40 (by kernel_rfl) rfl)
    (AllIt_nil 2 (w.heap.size + 1) (fun _ _ => True) Wl bN.cell bN.lt) (fun _ _ => trivial) (fun _ _ _ _ _ _ _ _ => trivial) (Below.refl _ _) (fun _ => rfl)
    (fun pre W => Boxed W w.heap.size 3 (.int .i64 0) ∧ Below w.heap.size w W)
    (fun _ _ _ => False)
    (OwnFrom.and (Own.from (boxed_own w.heap.size 3 (fun pre : List (Nat × Nat) => .int .i64 0)) _) (ownFrom_below (Nat.le_refl _) (by omega)))
    (fun _ _ _ _ _ hs _ _ => hs)
    ⟨bO', hB0⟩
    (fun x a' W => True)
    (fun x a' s A A' row hs hg hr => trivial)
    ?assign ?body ?done ?stop
  case assign =>
    rintro l pre x W K ⟨hb1, hb2⟩ hK
    have HK := hide hK
    obtain ⟨y, hy⟩ : ∃ y, y = cl x := ⟨_, rfl⟩
    rw [← hy]
    obtain ⟨y1, y2⟩ := y
    unfold rv
    simp only
    clear hy hK
    gi_wp2
    exact unhide HK _ _ ((KeepsOthers.alloc _ _).from _) trivial ⟨hb1.alloc _, hb2.alloc hb2.size _⟩ trivial
  case body =>
    rintro l pre x a' W hl hr _ _ hlt
    omega
  case done =>
    rintro D ys W hD rfl ⟨hb1, hb2⟩ hK
    have c := hb1.cell
    gi_wp2
    refine ⟨by simp, .inl ⟨_, _, rfl, run_takeDeferred hK, ?_⟩⟩
    exact ⟨_, results_tmp rfl _ _ _, rfl, grown_of_below (hb2.trans (belowK_b (w := w) (Nat.le_refl _) W D _ _ (by omega) hK rfl rfl))⟩
  case stop =>
    rintro D c pre W _ _ h _
    exact h.elim
end Go.Proofs.Ytgdplmbchoogiaa

/-
  DERIVED. The chapter's examples: awake.
-/
namespace Go.Proofs.Ytgdplmbchoogiaa
open Go.RowKit
set_option linter.unusedVariables false

def ex1 : Nat → Bool := marks none? [(0, 3)]
def ex2 : Nat → Bool := fun j => if j = 2 then false else if j = 1 then false else ex1 j
def ex3 : Nat → Bool := marks ex2 [(1, 2)]
theorem ex_cut1 : cut 3 (runsOf 10 none? none?) = [(0, 3)] := by decide +kernel
theorem ex_tot1 : 3 ≤ total (runsOf 10 none? none?) := by decide +kernel
theorem ex_give : giveL 10 ex1 [(1, 2)] = some ex2 := rfl
theorem ex_cut2 : cut 2 (runsOf 10 ex2 ex2) = [(1, 2)] := by decide +kernel
theorem ex_tot2 : 2 ≤ total (runsOf 10 ex2 ex2) := by decide +kernel
theorem ex_free : total (runsOf 10 ex3 ex2) = 7 := by decide +kernel
theorem ex_tell : tell 10 ex3 = [10, 7, 0] := by decide +kernel


theorem New_10 (w : World) : Calls Try.prog 6 #[.int .i64 10] w fun e w' => e = .returned (.pointer (some ⟨w.heap.size, 0, none⟩)) ∧ MapAt w' w.heap.size 10 none? none? ∧ w.grownBy w' none := New_any 10 w (by omega)
theorem Take_3 (w : World) (b : Nat) (h : MapAt w b 10 none? none?) : Calls Try.prog 8 #[.pointer (some ⟨b, 0, none⟩), .int .i64 3] w fun e w' => ∃ v, e = .returned (.tuple #[v, .int .i64 0]) ∧ ROwn w' w.heap.size v [(0, 3)] ∧ MapAt w' b 10 ex1 none? ∧ w.grownBy w' (some b) := by
  refine (Take_ok w b 10 3 none? none? h ex_tot1).mono fun e w' h => ?_
  rw [ex_cut1] at h
  exact h
theorem Take_2 (w : World) (b : Nat) (h : MapAt w b 10 ex2 ex2) : Calls Try.prog 8 #[.pointer (some ⟨b, 0, none⟩), .int .i64 2] w fun e w' => ∃ v, e = .returned (.tuple #[v, .int .i64 0]) ∧ ROwn w' w.heap.size v [(1, 2)] ∧ MapAt w' b 10 ex3 ex2 ∧ w.grownBy w' (some b) := by
  refine (Take_ok w b 10 2 ex2 ex2 h ex_tot2).mono fun e w' h => ?_
  rw [ex_cut2] at h
  exact h
theorem Give_12 (w : World) (b : Nat) (v : Value) (h : MapAt w b 10 ex1 none?) (hv : Rn w v [(1, 2)]) : Calls Try.prog 13 #[.pointer (some ⟨b, 0, none⟩), v] w fun e w' => e = .returned (.int .i64 0) ∧ MapAt w' b 10 ex2 none? ∧ w.grownBy w' (some b) := by
  refine (Give_any w b 10 v [(1, 2)] ex1 none? h hv).mono fun e w' h => ?_
  obtain ⟨h1 | h1, h2⟩ := h
  · obtain ⟨U', e1, e2, e3⟩ := h1
    rw [ex_give] at e1
    cases e1
    exact ⟨e2, e3, h2⟩
  · obtain ⟨e1, _⟩ := h1
    rw [ex_give] at e1
    cases e1
theorem Free_7 (w : World) (b : Nat) (h : MapAt w b 10 ex3 ex2) : Calls Try.prog 22 #[.pointer (some ⟨b, 0, none⟩)] w fun e w' => e = .returned (.int .i64 7) ∧ w.grownBy w' none := by
  refine (Free_any w b 10 ex3 ex2 h).mono fun e w' h => ?_
  rw [ex_free] at h
  exact h
theorem Bytes_10 (w : World) (b : Nat) (h : MapAt w b 10 ex3 ex2) : Calls Try.prog 23 #[.pointer (some ⟨b, 0, none⟩)] w fun e w' => ∃ v, e = .returned v ∧ Own w' w.heap.size v [10, 7, 0] ∧ w.grownBy w' none := by
  refine (Bytes_any w b 10 ex3 ex2 h).mono fun e w' h => ?_
  rw [ex_tell] at h
  exact h

theorem Sl.str {w : World} {v : Value} {l : List UInt8} (h : Sl w v l) : (convert 42 9 v).run Try.prog w = .ok (.string ⟨l.toArray⟩) w := by
  rcases h.cases with ⟨rfl, ao, rfl⟩ | ⟨b, off, cap, rfl, h1, h2, hb, hc⟩
  · cases ao with
    | none => exact run_convert_bytes_nil w 42 5 Try.underlying42 Try.underlying5 0 0 9 Try.underlying9
    | some a => exact run_convert_bytes_back w 42 9 5 a 0 [] Try.underlying42 Try.underlying5 Try.underlying9 (fun j hj => by simp at hj)
  · exact run_convert_bytes_back w 42 9 5 ⟨b, off, none⟩ cap l Try.underlying42 Try.underlying5 Try.underlying9 (fun j hj => by rw [addr_add]; exact hc j hj)

theorem ROwn.far {W W' : World} {base b B : Nat} {U V : Nat → Bool} {v : Value} {xs : List (Nat × Nat)} (h : ROwn W base v xs) (hm : MapAt W b B U V) (hg : W.grownBy W' (some b)) : ROwn W' base v xs :=
  h.kept hg (fun q hq e => h.ne hq hm.blk (by decide) (by simpa using e))

set_option maxHeartbeats 2000000 in
set_option maxRecDepth 20000 in
theorem awake_ok (w : World) : Calls Try.prog 5 #[] w fun e w' => e = .returned (.bool true) ∧ w.grownBy w' none := by
  go_enter Try.func5, Try.ntmps5
  go_wp2_with fail
  refine (New_10 w).mono ?_
  rintro e w1 ⟨rfl, m1, g1⟩
  obtain ⟨b, hb⟩ : ∃ b, b = w.heap.size := ⟨_, rfl⟩
  rw [← hb] at m1 ⊢
  have M1 := hide m1
  have G1 := hide g1
  have HBB : Hid (w.heap.size ≤ b) := hide (by omega)
  clear m1 g1 hb
  go_wp2_with fail
  refine (Take_3 w1 b (unhide M1)).mono ?_
  rintro e w2 ⟨va, rfl, o2, m2, g2⟩
  have M2 := hide m2
  have O2 := hide o2
  have G2 : Hid (w.grownBy w2 none) := hide ((unhide G1).andThen g2 (fun j e => by cases e; exact .inl (unhide HBB)))
  clear m2 o2 g2 G1 M1
  go_wp2_with fail
  have mA := (unhide M2).alloc (.cells #[.int .i64 1, .int .i64 2] 36)
  refine (Give_12 (w2.alloc (.cells #[.int .i64 1, .int .i64 2] 36)) b _ mA (Rn.one w2 1 2 (by simp [fits]))).mono ?_
  rintro e w3 ⟨rfl, m3, g3⟩
  have M3 := hide m3
  have O3 : Hid (ROwn w3 w1.heap.size va [(0, 3)]) := hide (ROwn.far (World.ownsRow.alloc (unhide O2) _) mA g3)
  have G3 : Hid (w.grownBy w3 none) := hide (((unhide G2).trans (World.grownBy_alloc _ _ _)).andThen g3 (fun j e => by cases e; exact .inl (unhide HBB)))
  clear m3 g3 mA M2 O2 G2
  go_wp2_with fail
  refine (Commit_any w3 b 10 ex2 none? (unhide M3)).mono ?_
  rintro e w4 ⟨⟨ve, rfl⟩, m4, g4⟩
  have M4 := hide m4
  have O4 : Hid (ROwn w4 w1.heap.size va [(0, 3)]) := hide (ROwn.far (unhide O3) (unhide M3) g4)
  have G4 : Hid (w.grownBy w4 none) := hide ((unhide G3).andThen g4 (fun j e => by cases e; exact .inl (unhide HBB)))
  clear m4 g4 M3 O3 G3
  go_wp2_with fail
  refine (Take_2 w4 b (unhide M4)).mono ?_
  rintro e w5 ⟨vb, rfl, o5, m5, g5⟩
  have M5 := hide m5
  have O5 : Hid (ROwn w5 w1.heap.size va [(0, 3)]) := hide (ROwn.far (unhide O4) (unhide M4) g5)
  have P5 := hide o5
  have G5 : Hid (w.grownBy w5 none) := hide ((unhide G4).andThen g5 (fun j e => by cases e; exact .inl (unhide HBB)))
  clear m5 g5 o5 M4 O4 G4
  go_wp2_with fail
  refine (SameRuns_any (w5.alloc (.cells #[.int .i64 0, .int .i64 3] 36)) va _ [(0, 3)] [(0, 3)] ((ROwn.rn (World.ownsRow.alloc (unhide O5) _ : ROwn _ _ _ [(0, 3)]) (by decide))) (Rn.one w5 0 3 (by simp [fits]))).mono ?_
  rintro e w6 ⟨rfl, g6⟩
  have g56 : w5.grownBy w6 none := (World.grownBy_alloc _ _ _).trans g6
  have M6 := hide ((unhide M5).grown g56 (by simp))
  have P6 : Hid (ROwn w6 w4.heap.size vb [(1, 2)]) := hide ((unhide P5).kept g56 (fun q hq e => by cases e))
  have G6 : Hid (w.grownBy w6 none) := hide ((unhide G5).trans g56)
  clear g6 g56 M5 O5 P5 G5
  simp only [decide_true]
  go_wp2_with fail
  refine (SameRuns_any (w6.alloc (.cells #[.int .i64 1, .int .i64 2] 36)) vb _ [(1, 2)] [(1, 2)] ((ROwn.rn (World.ownsRow.alloc (unhide P6) _ : ROwn _ _ _ [(1, 2)]) (by decide))) (Rn.one w6 1 2 (by simp [fits]))).mono ?_
  rintro e w7 ⟨rfl, g7⟩
  have g67 : w6.grownBy w7 none := (World.grownBy_alloc _ _ _).trans g7
  have M7 := hide ((unhide M6).grown g67 (by simp))
  have G7 : Hid (w.grownBy w7 none) := hide ((unhide G6).trans g67)
  clear g7 g67 M6 P6 G6
  simp only [decide_true]
  go_wp2_with fail
  refine (Free_7 w7 b (unhide M7)).mono ?_
  rintro e w8 ⟨rfl, g8⟩
  have M8 := hide ((unhide M7).grown g8 (by simp))
  have G8 : Hid (w.grownBy w8 none) := hide ((unhide G7).trans g8)
  clear g8 M7 G7
  go_wp2_with fail
  refine (Bytes_10 w8 b (unhide M8)).mono ?_
  rintro e w9 ⟨vc, rfl, o9, g9⟩
  have G9 : Hid (w.grownBy w9 none) := hide ((unhide G8).trans g9)
  have hst := o9.sl.str
  clear g9 o9 M8 G8
  go_wp2
  go_ret
  exact ⟨rfl, unhide G9⟩
end Go.Proofs.Ytgdplmbchoogiaa

/-
  DERIVED. How runs and calls that came in are opened; Pick; Take of whatever number.
-/
namespace Go.Proofs.Ytgdplmbchoogiaa
open Go.ChangeShapes Go.WideShapes Go.ChangeAt Go.RowKit
set_option linter.unusedVariables false

theorem own_knob : ownKnob Try.prog.godebug = none := by kernel_rfl
theorem laid_out : laidOutB Try.prog = true := by kernel_rfl
theorem Try.cellsInt : Try.prog.cellsOf 3 = 1 := by kernel_rfl
theorem Try.cellsRun : Try.prog.cellsOf 36 = 2 := by kernel_rfl
theorem Try.cellsRuns : Try.prog.cellsOf 28 = 1 := by kernel_rfl
theorem Try.cellsACall : Try.prog.cellsOf 30 = 3 := by kernel_rfl
theorem Try.underRun : ∃ f0 f1, Try.prog.underlying 36 = some (.struct #[f0, f1]) ∧ (f0.offset = 0 ∧ f1.offset = 1) ∧ f0.type = 3 ∧ f1.type = 3 := ⟨_, _, Try.underlying36, ⟨rfl, rfl⟩, rfl, rfl⟩
theorem Try.underACall : ∃ f0 f1 f2, Try.prog.underlying 30 = some (.struct #[f0, f1, f2]) ∧ (f0.offset = 0 ∧ f1.offset = 1 ∧ f2.offset = 2) ∧ f0.type = 3 ∧ f1.type = 3 ∧ f2.type = 28 := ⟨_, _, _, Try.underlying30, ⟨rfl, rfl, rfl⟩, rfl, rfl, rfl⟩

theorem Pick_any (c n : Int) (w : World) (h0 : -9223372036854775808 ≤ c) (h1 : c ≤ 9223372036854775807) (hn : 0 < n) (hn2 : n ≤ 9223372036854775807) :
    Calls Try.prog 12 #[.int .i64 c, .int .i64 n] w fun e w' => ∃ k : Nat, e = .returned (.int .i64 k) ∧ (k : Int) < n ∧ w = w' := by
  by_cases hc : c < 0
  · go_enter Try.func12, Try.ntmps12
    go_wp2
    go_ret
    have h2 := Int.emod_nonneg (-(c + 1)) (show n ≠ 0 by omega)
    have h3 := Int.emod_lt_of_pos (-(c + 1)) hn
    have e : -(c + 1).tmod n = -(c + 1) % n := by rw [← Int.neg_tmod, Int.tmod_eq_emod_of_nonneg (by omega)]
    exact ⟨(-(c + 1) % n).toNat, by rw [Int.toNat_of_nonneg h2, ← e]; rfl, by omega, rfl⟩
  · go_enter Try.func12, Try.ntmps12
    go_wp2
    go_ret
    have h2 := Int.emod_nonneg c (show n ≠ 0 by omega)
    have h3 := Int.emod_lt_of_pos c hn
    exact ⟨(c % n).toNat, by rw [Int.toNat_of_nonneg h2]; rfl, by omega, rfl⟩

set_option maxRecDepth 100000 in
theorem open_runs {H : Type} {enc : TypeId × Value → H} {W : World} {v : Value} {y : DataW H × List MemPlace} {fuel : Nat}
    (hf : DataW.trod enc Try.prog W 0 (fun _ => true) true fuel 28 [v] = some y) : ∃ l : List (Int × Int), Rn W v l := by
  obtain ⟨f0, f1, hu, ⟨o0, o1⟩, t0, t1⟩ := Try.underRun
  rcases Go.Deep.open_slice Try.underlying28 hf with ⟨hcs, hx⟩ | ⟨x, n, cap, m, k, D, Pl, hcs, _, hl, hm, hz, hx, hcell⟩
  · simp at hcs
    subst hcs
    exact ⟨[], none, 0, rfl, by simp, by simp, by simp, fun h => absurd rfl h⟩
  · simp at hcs
    subst hcs
    rw [if_pos rfl] at hz
    subst hz
    unfold maxLen at hm
    have hel : ∀ i, i < n → ∃ e : Int × Int, fits e ∧ W.cell? (x.add (i * 2)) = some (.int .i64 e.1) ∧ W.cell? (x.add (i * 2 + 1)) = some (.int .i64 e.2) := by
      intro i hi
      obtain ⟨cs, q1, q2⟩ := hcell i (by omega)
      rw [Try.cellsRun] at q1
      obtain ⟨_, hlen, hc⟩ := World.cells?_some q1
      match cs, hlen with
      | [c0, c1], _ =>
        obtain ⟨xs, k', _, _, _, hxl, hfl⟩ := DataW.trod_struct hu q2
        match xs, hxl with
        | [x0, x1], _ =>
          have g0 := hfl 0 f0 rfl
          have g1 := hfl 1 f1 rfl
          rw [o0, t0, Try.cellsInt] at g0
          rw [o1, t1, Try.cellsInt] at g1
          obtain ⟨s0, e0, _, w0⟩ := DataW.trod_int Try.underlying3 g0
          obtain ⟨s1, e1, _, w1⟩ := DataW.trod_int Try.underlying3 g1
          simp at e0 e1
          subst e0 e1
          have k0 := hc 0 (by omega)
          have k1 := hc 1 (by omega)
          rw [Go.Deep.add_add] at k0 k1
          have b0 := bounds_i64 w0
          have b1 := bounds_i64 w1
          exact ⟨(s0, s1), ⟨by simp only; omega, by simp only; omega, by simp only; omega, by simp only; omega⟩, k0, k1⟩
    obtain ⟨F, hF⟩ := Go.Deep.choose_lt (α := Int × Int) hel
    have hlen : ((List.range n).map F).length = n := by simp
    refine ⟨(List.range n).map F, some x, _, by rw [hlen], by rw [hlen]; omega, by omega, fun y hy => ?_, fun hz => ?_⟩
    · obtain ⟨i, hi, rfl⟩ := List.mem_map.1 hy
      exact (hF i (List.mem_range.1 hi)).1
    · rw [hlen] at hz
      have h0 := (hF 0 (by omega)).2.1
      have hsp := World.cell?_spot h0
      obtain ⟨b, off, sp⟩ := x
      have hsp' : sp = none := by
        cases sp with
        | none => rfl
        | some k => simp [Addr.add] at hsp
      subst hsp'
      refine ⟨b, off, rfl, ?_, fun i hi => ?_⟩
      · rw [addr_add] at h0
        exact World.block_lt_of_cell? W ⟨b, off + 0 * 2, none⟩ h0
      · have hi' : i < n := by rw [hlen] at hi; exact hi
        obtain ⟨_, q0, q1⟩ := hF i hi'
        rw [addr_add] at q0 q1
        have e : ((List.range n).map F)[i] = F i := by simp
        rw [e]
        simp only [← Nat.add_assoc] at q1
        exact ⟨q0, q1⟩

/-- A call, as it reads. -/
structure ACl where
  kind : Int
  n : Int
  l : List (Int × Int)
instance : Inhabited ACl := ⟨⟨0, 0, []⟩⟩
abbrev I64 (x : Int) : Prop := -9223372036854775808 ≤ x ∧ x ≤ 9223372036854775807
structure AClAt (w : World) (b o : Nat) (c : ACl) : Prop where
  c0 : w.cell? ⟨b, o, none⟩ = some (.int .i64 c.kind)
  c1 : w.cell? ⟨b, o + 1, none⟩ = some (.int .i64 c.n)
  c2 : ∃ v, w.cell? ⟨b, o + 2, none⟩ = some v ∧ Rn w v c.l
  i0 : I64 c.kind
  i1 : I64 c.n
/-- A slice of calls. -/
def AClL (w : World) (v : Value) (l : List ACl) : Prop :=
  ∃ ao cap, v = .slice ao l.length cap ∧ l.length ≤ 9223372036854775807 ∧ (0 < l.length → ∃ b off, ao = some ⟨b, off, none⟩ ∧ b < w.heap.size ∧ ∀ i, (h : i < l.length) → AClAt w b (off + i * 3) l[i])
theorem AClAt.kept {w w' : World} {b o : Nat} {c : ACl} (h : AClAt w b o c) (hg : w.grownBy w' none) : AClAt w' b o c :=
  { c0 := hg.cell h.c0 (by simp), c1 := hg.cell h.c1 (by simp)
    c2 := by obtain ⟨v, h1, h2⟩ := h.c2; exact ⟨v, hg.cell h1 (by simp), h2.kept hg⟩
    i0 := h.i0, i1 := h.i1 }

set_option maxRecDepth 100000 in
theorem open_acalls {H : Type} {enc : TypeId × Value → H} {W : World} {a : Option Addr} {n c : Nat} {d : DataW H} {p : List MemPlace}
    (h : DataW.Trod enc Try.prog W 0 (fun _ => true) true 22 (.slice a n c) d p) : ∃ l : List ACl, AClL W (.slice a n c) l := by
  obtain ⟨fuel, hf⟩ := h
  obtain ⟨f0, f1, f2, hu, ⟨o0, o1, o2⟩, t0, t1, t2⟩ := Try.underACall
  rcases Go.Deep.open_slice Try.underlying22 hf with ⟨hcs, hx⟩ | ⟨x, n', cap, m, k, D, Pl, hcs, _, hl, hm, hz, hx, hcell⟩
  · simp [Value.cells] at hcs
    obtain ⟨rfl, rfl, rfl⟩ := hcs
    exact ⟨[], none, 0, rfl, by simp, fun h => by simp at h⟩
  · simp [Value.cells] at hcs
    obtain ⟨rfl, rfl, rfl⟩ := hcs
    rw [if_pos rfl] at hz
    subst hz
    unfold maxLen at hm
    have hel : ∀ i, i < n → ∃ e : ACl, I64 e.kind ∧ I64 e.n ∧ W.cell? (x.add (i * 3)) = some (.int .i64 e.kind) ∧ W.cell? (x.add (i * 3 + 1)) = some (.int .i64 e.n) ∧ ∃ v, W.cell? (x.add (i * 3 + 2)) = some v ∧ Rn W v e.l := by
      intro i hi
      obtain ⟨cs, q1, q2⟩ := hcell i (by omega)
      rw [Try.cellsACall] at q1
      obtain ⟨_, hlen, hc⟩ := World.cells?_some q1
      match cs, hlen with
      | [c0, c1, c2], _ =>
        obtain ⟨xs, k', _, _, _, hxl, hfl⟩ := DataW.trod_struct hu q2
        match xs, hxl with
        | [x0, x1, x2], _ =>
          have g0 := hfl 0 f0 rfl
          have g1 := hfl 1 f1 rfl
          have g2 := hfl 2 f2 rfl
          rw [o0, t0, Try.cellsInt] at g0
          rw [o1, t1, Try.cellsInt] at g1
          rw [o2, t2, Try.cellsRuns] at g2
          obtain ⟨s0, e0, _, w0⟩ := DataW.trod_int Try.underlying3 g0
          obtain ⟨s1, e1, _, w1⟩ := DataW.trod_int Try.underlying3 g1
          simp at e0 e1
          subst e0 e1
          simp at g2
          obtain ⟨l2, h2⟩ := open_runs g2
          have k0 := hc 0 (by omega)
          have k1 := hc 1 (by omega)
          have k2 := hc 2 (by omega)
          rw [Go.Deep.add_add] at k0 k1 k2
          have b0 := bounds_i64 w0
          have b1 := bounds_i64 w1
          exact ⟨⟨s0, s1, l2⟩, ⟨by simp only; omega, by simp only; omega⟩, ⟨by simp only; omega, by simp only; omega⟩, k0, k1, c2, k2, h2⟩
    obtain ⟨F, hF⟩ := Go.Deep.choose_lt (α := ACl) hel
    have hlen : ((List.range n).map F).length = n := by simp
    refine ⟨(List.range n).map F, some x, _, by rw [hlen], by rw [hlen]; omega, fun hz => ?_⟩
    rw [hlen] at hz
    have h0 := (hF 0 (by omega)).2.2.1
    have hsp := World.cell?_spot h0
    obtain ⟨b, off, sp⟩ := x
    have hsp' : sp = none := by
      cases sp with
      | none => rfl
      | some k => simp [Addr.add] at hsp
    subst hsp'
    refine ⟨b, off, rfl, ?_, fun i hi => ?_⟩
    · rw [addr_add] at h0
      exact World.block_lt_of_cell? W ⟨b, off + 0 * 3, none⟩ h0
    · have hi' : i < n := by rw [hlen] at hi; exact hi
      obtain ⟨j0, j1, q0, q1, v, q2, q3⟩ := hF i hi'
      rw [addr_add] at q0 q1 q2
      have e : ((List.range n).map F)[i] = F i := by simp
      rw [e]
      simp only [← Nat.add_assoc] at q1 q2
      exact { c0 := q0, c1 := q1, c2 := ⟨v, q2, q3⟩, i0 := j0, i1 := j1 }

/-! ### Take of whatever number -/
set_option maxRecDepth 100000 in
set_option maxHeartbeats 2000000 in
theorem Take_full (w : World) (b B n : Nat) (U V : Nat → Bool) (h : MapAt w b B U V) (hn : total (runsOf B U V) < n) (hn2 : (n : Int) ≤ 9223372036854775807) :
    Calls Try.prog 8 #[.pointer (some ⟨b, 0, none⟩), .int .i64 (n : Int)] w fun e w' => e = .returned (.tuple #[.slice none 0 0, .int .i64 50]) ∧ w.grownBy w' none := by
  have bM := Boxed.new w 24 (.pointer (some ⟨b, 0, none⟩))
  have bN := Boxed.new (w.alloc (.cells #[.pointer (some ⟨b, 0, none⟩)] 24)) 3 (.int .i64 (n : Int))
  rw [World.size_alloc] at bN
  have hg1 : w.grownBy ((w.alloc (.cells #[.pointer (some ⟨b, 0, none⟩)] 24)).alloc (.cells #[.int .i64 (n : Int)] 3)) none := (World.grownBy_alloc _ _ _).trans (World.grownBy_alloc _ _ _)
  have bM1 := bM.alloc (.cells #[.int .i64 (n : Int)] 3)
  have hn0 : ¬ (n : Int) < 0 := by omega
  have hgt : decide ((total (runsOf B U V) : Int) < (n : Int)) = true := decide_eq_true (by omega)
  have HM := hide (h.grown hg1 (by simp))
  clear h
  go_enter Try.func8, Try.ntmps8
  go_wp2_with fail
  obtain ⟨W1, hW1⟩ : ∃ W1, W1 = (w.alloc (.cells #[.pointer (some ⟨b, 0, none⟩)] 24)).alloc (.cells #[.int .i64 (n : Int)] 3) := ⟨_, rfl⟩
  rw [← hW1] at bN bM1 hg1 HM ⊢
  have cM := bM1.cell
  have cN := bN.cell
  have HG1 := hide hg1
  clear hW1 bM bM1 bN hg1
  go_region_with (go_at_call 22; refine (Free_any _ b B U V ((unhide HM).drewN _)).mono ?_; rintro e w2 ⟨rfl, hg2⟩; have c2 : w2.cell? ⟨w.heap.size + 1, 0, none⟩ = some (.int .i64 (n : Int)) := hg2.cell cN (by simp); have c3 : w2.cell? ⟨w.heap.size, 0, none⟩ = some (.pointer (some ⟨b, 0, none⟩)) := hg2.cell cM (by simp); have HG2 := hide hg2; clear hg2)
  all_goals go_wp2
  all_goals go_ret2
  all_goals exact ⟨rfl, (unhide HG1).trans ⟨(unhide HG2).os, (unhide HG2).tape, (unhide HG2).output, (unhide HG2).size, (unhide HG2).block⟩⟩

/-- What Take answers, and what is in use behind it. -/
def takeU (B n : Nat) (U V : Nat → Bool) : Nat → Bool := if n ≤ total (runsOf B U V) then marks U (cut n (runsOf B U V)) else U
theorem Take_any (w : World) (b B n : Nat) (U V : Nat → Bool) (h : MapAt w b B U V) (hn2 : (n : Int) ≤ 9223372036854775807) :
    Calls Try.prog 8 #[.pointer (some ⟨b, 0, none⟩), .int .i64 (n : Int)] w fun e w' => (∃ v, (e = .returned (.tuple #[v, .int .i64 0]) ∧ n ≤ total (runsOf B U V) ∧ ROwn w' w.heap.size v (cut n (runsOf B U V))) ∨ (e = .returned (.tuple #[v, .int .i64 50]) ∧ total (runsOf B U V) < n ∧ v = .slice none 0 0)) ∧ MapAt w' b B (takeU B n U V) V ∧ w.grownBy w' (some b) := by
  by_cases hn : n ≤ total (runsOf B U V)
  · refine (Take_ok w b B n U V h hn).mono fun e w' h1 => ?_
    obtain ⟨v, rfl, h2, h3, h4⟩ := h1
    exact ⟨⟨v, .inl ⟨rfl, hn, h2⟩⟩, by rw [takeU, if_pos hn]; exact h3, h4⟩
  · refine (Take_full w b B n U V h (by omega) hn2).mono fun e w' h1 => ?_
    obtain ⟨rfl, h2⟩ := h1
    exact ⟨⟨_, .inr ⟨rfl, by omega, rfl⟩⟩, by rw [takeU, if_neg hn]; exact h.grown h2 (by simp), h2.but _⟩
end Go.Proofs.Ytgdplmbchoogiaa

/-
  DERIVED. The document's map: Take that is refused, Give.
-/
namespace Go.Proofs.Ytgdplmbchoogiaa
open Go.RowKit
set_option linter.unusedVariables false

theorem rTake_full (w : World) (N b B n : Nat) (v1 v2 : Value) (U V : Nat → Bool) (h : RmAt w N b B v1 v2 U V) (hn : total (runsOf B U V) < n) (hn2 : (n : Int) ≤ 9223372036854775807) :
    Calls Try.prog 9 #[.pointer (some ⟨b, 0, none⟩), .int .i64 (n : Int)] w fun e w' => e = .returned (.tuple #[.slice none 0 0, .int .i64 50]) ∧ w' = w := by
  have HM := hide h
  have hn0 : ¬ (n : Int) < 0 := by omega
  clear h
  go_enter Try.func9, Try.ntmps9
  go_wp2_with fail
  refine (rFree_any w N b B v1 v2 U V (unhide HM)).mono ?_
  rintro e w1 ⟨rfl, hw1⟩
  subst w1
  have hn1 : decide (total (runsOf B U V) < n) = true := decide_eq_true (by omega)
  go_wp2
  go_ret2
  exact ⟨rfl, rfl⟩
theorem rTake_neg (w : World) (b : Nat) (n : Int) (hn : n < 0) :
    Calls Try.prog 9 #[.pointer (some ⟨b, 0, none⟩), .int .i64 n] w fun e w' => e = .returned (.tuple #[.slice none 0 0, .int .i64 1]) ∧ w' = w := by
  go_enter Try.func9, Try.ntmps9
  go_wp2
  go_ret2
  exact ⟨rfl, rfl⟩
end Go.Proofs.Ytgdplmbchoogiaa

/-
  DERIVED. The document's map: Give.
-/
namespace Go.Proofs.Ytgdplmbchoogiaa
open Go.RowKit
set_option linter.unusedVariables false

/-- Where the giving back of one run stands behind c blocks. -/
def DG (B p q : Nat) (Uk : Nat → Bool) (c : Nat) (Uc : Nat → Bool) : Prop := dropGo q p Uk = dropGo (q - c) (p + c) Uc ∧ (c = 0 ∨ p + c ≤ B)
theorem DG.start (B p q : Nat) (Uk : Nat → Bool) : DG B p q Uk 0 Uk := ⟨rfl, .inl rfl⟩
theorem DG.step {B p q c : Nat} {Uk Uc : Nat → Bool} (h : DG B p q Uk c Uc) (hc : c < q) (hb : p + c < B) (hu : Uc (p + c) = true) : DG B p q Uk (c + 1) (fun j => if j = p + c then false else Uc j) := by
  refine ⟨?_, .inr (by omega)⟩
  rw [h.1, show q - c = (q - (c + 1)) + 1 by omega, dropGo, if_pos hu]
  rfl
theorem DG.bad {B c : Nat} {x1 x2 : Int} {Uk Uc : Nat → Bool} (h : DG B x1.toNat x2.toNat Uk c Uc) (hc : c < x2.toNat) (hu : B ≤ x1.toNat + c ∨ Uc (x1.toNat + c) = false) : dropR B Uk (x1, x2) = none := by
  unfold dropR
  split
  · rfl
  · rename_i hn
    simp only [not_or] at hn
    have h2 : Uc (x1.toNat + c) = false := hu.resolve_left (by omega)
    show dropGo x2.toNat x1.toNat Uk = none
    rw [h.1, show x2.toNat - c = (x2.toNat - (c + 1)) + 1 by omega, dropGo, if_neg (by simp [h2])]
theorem DG.full {B c : Nat} {x1 x2 : Int} {Uk Uc : Nat → Bool} (h : DG B x1.toNat x2.toNat Uk c Uc) (hc : c = x2.toNat) (h1 : 0 ≤ x1) (h2 : 1 ≤ x2) : dropR B Uk (x1, x2) = some Uc := by
  have h3 := h.2
  unfold dropR
  rw [if_neg (by simp only [not_or]; omega)]
  show dropGo x2.toNat x1.toNat Uk = _
  rw [h.1, hc, Nat.sub_self]
  rfl
theorem dropR_bad {B : Nat} {x1 x2 : Int} {Uk : Nat → Bool} (hB : B ≤ 512) (h : ¬ (1 ≤ x2 ∧ x2 ≤ 512 ∧ 0 ≤ x1 ∧ x1 ≤ 512)) : dropR B Uk (x1, x2) = none := by
  unfold dropR
  rw [if_pos (by simp only; omega)]

theorem rm_storeGive {w w0 : World} {N b B : Nat} {v1 v2 v' : Value} {U V W : Nat → Bool} (h0 : RmAt w0 N b B v1 v2 U V) (h : RmAt w N b B v1 v2 U V) (ho : BOwn w w0.heap.size v' W B) (hN : N ≤ w0.heap.size) :
    RmAt (w.setCell ⟨b, 0, none⟩ v') N b B v' v2 W V ∧ w.grownBy (w.setCell ⟨b, 0, none⟩ v') (some b) := by
  have hg := setCell_grown w b 0 v'
  refine ⟨⟨?_, ((BOwn.low ho hN).kept hg (fun q hq e => by cases e; obtain ⟨_, cur, hc⟩ := ho.row hq; rw [h.blk] at hc; cases hc)), (h.last.kept hg (fun q hq e => by cases e; obtain ⟨_, cur, hc⟩ := h.last.row hq; rw [h.blk] at hc; cases hc)), h.le, h.base, fun q hq e => by
    obtain ⟨_, cur, hc⟩ := h0.last.row e
    have h1 := lt_of_block hc
    have h2 := (ho.row hq).1
    omega⟩, hg⟩
  rw [heap_setCell_same w b 0 _ _ _ h.blk]
  rfl

def RGv (w : World) (N b B : Nat) (v1 v2 : Value) (U V : Nat → Bool) (l : List (Int × Int)) (e : Ending) (w' : World) : Prop :=
  ((∃ U' v3, giveL B U l = some U' ∧ e = .returned (.int .i64 0) ∧ RmAt w' N b B v3 v2 U' V) ∨ (giveL B U l = none ∧ e = .returned (.int .i64 51) ∧ RmAt w' N b B v1 v2 U V)) ∧ w.grownBy w' (some b)

set_option maxHeartbeats 4000000 in
theorem rGive_any (w : World) (N b B : Nat) (v1 v2 v : Value) (l : List (Int × Int)) (U V : Nat → Bool) (h : RmAt w N b B v1 v2 U V) (hN : N ≤ w.heap.size) (hv : Rn w v l) :
    Calls Try.prog 14 #[.pointer (some ⟨b, 0, none⟩), v] w (RGv w N b B v1 v2 U V l) := by
  have HM := hide h
  have hle := h.le
  have hBI : (B : Int) ≤ 512 := by omega
  obtain ⟨o1, p1, hv1', _⟩ := h.now.form
  subst hv1'
  have c0 : (w.alloc (.cells #[] 4)).cell? ⟨b, 0, none⟩ = some (.slice o1 B p1) := (World.grownBy_alloc _ _ none).cell h.c0 (by simp)
  have HV := hide hv
  obtain ⟨ao, cap, rfl, hv1, hv2, hv3, hv4⟩ := hv
  have hlen : (l.length : Int) ≤ 9223372036854775807 := by omega
  clear hv4 h
  obtain ⟨n, hn⟩ : ∃ n, n = l.length := ⟨_, rfl⟩
  rw [← hn] at hv1 hlen HV ⊢
  have HNl := hide hn
  have HF3 := hide hv3
  clear hn hv3
  go_enter Try.func14, Try.ntmps14
  go_wp2_with (at_builtin; refine wpList_append_bools rfl (.tmp 9) (.tmp 13) rfl w.heap.size _ rfl (bools_empty w) _ N B U rfl ?hy hle ?hbase ?_)
  case hy => exact (unhide HM).now.kept (World.grownBy_alloc _ _ none) (fun _ _ e => by cases e)
  case hbase => simp
  intro v' w' ho hg
  have HG0 : Hid (w.grownBy w' none) := hide ((World.grownBy_alloc w (.cells #[] 4) none).andThen hg (fun z e => .inl (by cases e; exact Nat.le_refl _)))
  have HO0 := hide ho
  obtain ⟨o5, p5, hv5, r1, r2, _⟩ := ho.form
  subst hv5
  clear ho hg c0
  go_wp2
  go_loopw [6] (fun i wr => ∃ (k : Nat) (Uk : Nat → Bool), i = .int .i64 (k : Int) ∧ k ≤ n ∧ BOwn wr w.heap.size (.slice o5 B p5) Uk B ∧ Hid (giveL B U l = giveL B Uk (l.drop k)) ∧ w.grownBy wr none) (fun i _ => n - (intOf i).toNat)
  case atStart => exact ⟨0, U, rfl, by omega, unhide HO0, hide (by simp), unhide HG0⟩
  case round =>
    obtain ⟨k, Uk, rfl, hk, hm, HE, hg⟩ := hrel
    clear HO0 HG0
    by_cases hlt : k < n
    · have hlt' : (k : Int) < (n : Int) := by omega
      have hkl : k < l.length := by rw [← unhide HNl]; exact hlt
      obtain ⟨pb, off, hao, hpb, hc⟩ : ∃ pb off, ao = some ⟨pb, off, none⟩ ∧ pb < wr.heap.size ∧ ∀ i, (h : i < l.length) → wr.cell? ⟨pb, off + i * 2, none⟩ = some (.int .i64 l[i].1) ∧ wr.cell? ⟨pb, off + i * 2 + 1, none⟩ = some (.int .i64 l[i].2) := by
        obtain ⟨ao', cap', e, _, _, _, h4⟩ := (unhide HV).kept hg
        cases e
        exact h4 (by omega)
      subst hao
      obtain ⟨c0, c1⟩ := hc k hkl
      have hfit := unhide HF3 l[k] (List.getElem_mem hkl)
      have HST := hide (giveL_step (B := B) (U := Uk) hkl)
      obtain ⟨x, hx⟩ : ∃ x, x = l[k] := ⟨_, rfl⟩
      rw [← hx] at c0 c1 hfit HST
      have HX := hide hx
      clear hc hx
      obtain ⟨x1, x2⟩ := x
      obtain ⟨f1, f2, f3, f4⟩ := hfit
      simp only at c0 c1 f1 f2 f3 f4
      have HO := hide (hm.kept (World.grownBy_alloc wr (.cells #[.int .i64 x1, .int .i64 x2] 36) none) (fun _ _ e => by cases e))
      have HG2 : Hid (w.grownBy (wr.alloc (.cells #[.int .i64 x1, .int .i64 x2] 36)) none) := hide (hg.trans (World.grownBy_alloc _ _ _))
      have hwr := hg.size
      clear hm hg
      by_cases hgood : 1 ≤ x2 ∧ x2 ≤ 512 ∧ 0 ≤ x1 ∧ x1 ≤ 512
      · obtain ⟨g1, g2, g3, g4⟩ := hgood
        obtain ⟨p, rfl⟩ : ∃ p : Nat, x1 = (p : Int) := ⟨x1.toNat, by omega⟩
        obtain ⟨q, rfl⟩ : ∃ q : Nat, x2 = (q : Int) := ⟨x2.toNat, by omega⟩
        obtain ⟨R, hR⟩ : ∃ R, R = wr.heap.size := ⟨_, rfl⟩
        have HB0 : Hid ((wr.alloc (.cells #[.int .i64 (p : Int), .int .i64 (q : Int)] 36)).heap[R]? = some (.cells #[.int .i64 (p : Int), .int .i64 (q : Int)] 36 (0, 0))) := hide (by rw [hR]; exact heap_alloc_new _ _)
        have HRg : Hid (R = wr.heap.size) := hide hR
        clear hR
        rename World => W0
        go_wp2_with fail
        go_loopw [8] (fun j wq => ∃ (c : Nat) (Uc : Nat → Bool), j = .int .i64 (c : Int) ∧ c ≤ q ∧ BOwn wq w.heap.size (.slice o5 B p5) Uc B ∧ DG B p q Uk c Uc ∧ wq.heap[W0.heap.size]? = some (.cells #[.int .i64 (p : Int), .int .i64 (q : Int)] 36 (0, 0)) ∧ w.grownBy wq none) (fun j _ => q - (intOf j).toNat)
        case atStart => exact ⟨0, Uk, rfl, by omega, unhide HO, DG.start _ _ _ _, by have := unhide HB0; rwa [unhide HRg] at this, unhide HG2⟩
        case round =>
          obtain ⟨c, Uc, rfl, hcq, hO, hD, hBx, hG⟩ := hrel
          clear HO HG2 HB0
          have bc0 : wr.cell? ⟨W0.heap.size, 0, none⟩ = some (.int .i64 (p : Int)) := (cell_of_row _ _ _ _ _ _ hBx).trans rfl
          have bc1 : wr.cell? ⟨W0.heap.size, 1, none⟩ = some (.int .i64 (q : Int)) := (cell_of_row _ _ _ _ _ _ hBx).trans rfl
          have HOc := hide hO
          have HD := hide hD
          have HBx := hide hBx
          have HGc := hide hG
          obtain ⟨oo, pp, ee, -, -, hh⟩ := hO.form
          injection ee with ee1 _ ee2
          subst ee1 ee2
          clear hO hD hBx hG
          by_cases hc : c < q
          · have hc' : (c : Int) < (q : Int) := by omega
            by_cases hb : p + c < B
            · obtain ⟨g, eg, hwg, -, fz, cz⟩ := hh (by omega)
              subst eg
              have z5 := cz (p + c) hb
              have f5 := fz (p + c)
              have hb' : (p : Int) + (c : Int) < (B : Int) := by omega
              have hpc : ((p : Int) + (c : Int)).toNat = p + c := by omega
              clear cz fz hh
              cases hu : Uc (p + c) with
              | true =>
                rw [hu] at z5
                have HD2 := hide ((unhide HD).step hc hb hu)
                have HO2 := hide ((unhide HOc).set (p + c) false)
                have hSg := setCell_grown wr g (p + c) (.bool false)
                have HB2 := hide ((hSg.block W0.heap.size (lt_of_block (unhide HBx)) (fun e => by
                  obtain ⟨_, cur, hcc⟩ := (unhide HOc).row (q := g) rfl
                  rw [← Option.some.inj e, unhide HBx] at hcc
                  cases hcc)).trans (unhide HBx))
                have HG3 := hide ((unhide HGc).andThen hSg (fun z e => .inl (by cases e; exact hwg)))
                clear hu hSg HD HOc HBx HGc
                go_wp2
                go_roundw
                case rel => exact ⟨c + 1, _, rfl, by omega, unhide HO2, unhide HD2, unhide HB2, unhide HG3⟩
                case measure => simp [intOf]; omega
              | false =>
                rw [hu] at z5
                have HR : Hid (giveL B U l = none) := hide (by rw [unhide HE, unhide HST, DG.bad (x1 := (p : Int)) (x2 := (q : Int)) (unhide HD) hc (.inr hu)])
                have HEnd : Hid (RGv w N b B (.slice o1 B p1) v2 U V l (.returned (.int .i64 51)) wr) := hide ⟨.inr ⟨unhide HR, rfl, (unhide HM).grown (unhide HGc)⟩, gr_weak0 (unhide HGc)⟩
                clear hu HD HOc HBx HGc HR HE HST
                go_wp2
                go_ret
                exact unhide HEnd
            · have hb' : ¬ (p : Int) + (c : Int) < (B : Int) := by omega
              have HR : Hid (giveL B U l = none) := hide (by rw [unhide HE, unhide HST, DG.bad (x1 := (p : Int)) (x2 := (q : Int)) (unhide HD) hc (.inl (by show B ≤ p + c; omega))])
              have HEnd : Hid (RGv w N b B (.slice o1 B p1) v2 U V l (.returned (.int .i64 51)) wr) := hide ⟨.inr ⟨unhide HR, rfl, (unhide HM).grown (unhide HGc)⟩, gr_weak0 (unhide HGc)⟩
              clear HD HOc HBx HGc HR HE HST hh
              go_wp2
              go_ret
              exact unhide HEnd
          · have hc' : ¬ (c : Int) < (q : Int) := by omega
            have HR : Hid (giveL B U l = giveL B Uc (l.drop (k + 1))) := hide (by rw [unhide HE, unhide HST, DG.full (x1 := (p : Int)) (x2 := (q : Int)) (unhide HD) (by show c = q; omega) (by omega) (by omega)])
            clear HD HBx HE HST hh
            go_wp2
            go_roundw
            case rel => exact ⟨k + 1, Uc, rfl, by omega, unhide HOc, HR, unhide HGc⟩
            case measure => simp [intOf]; omega
      · have HR : Hid (giveL B U l = none) := hide (by rw [unhide HE, unhide HST, dropR_bad hle hgood])
        have HEnd : Hid (RGv w N b B (.slice o1 B p1) v2 U V l (.returned (.int .i64 51)) (wr.alloc (.cells #[.int .i64 x1, .int .i64 x2] 36))) := hide ⟨.inr ⟨unhide HR, rfl, (unhide HM).grown (unhide HG2)⟩, gr_weak0 (unhide HG2)⟩
        clear HE HST HR HO HG2 HX
        by_cases b1 : x2 < 1
        · clear hgood
          go_wp2
          go_ret
          exact unhide HEnd
        · by_cases b2 : 512 < x2
          · clear hgood
            go_wp2
            go_ret
            exact unhide HEnd
          · by_cases b3 : x1 < 0
            · clear hgood
              go_wp2
              go_ret
              exact unhide HEnd
            · have b4 : 512 < x1 := by omega
              clear hgood
              go_wp2
              go_ret
              exact unhide HEnd
    · have hlt' : ¬ (k : Int) < (n : Int) := by omega
      have HR : Hid (giveL B U l = some Uk) := hide (by rw [unhide HE, List.drop_eq_nil_of_le (by have := unhide HNl; omega)]; rfl)
      have M2 := (unhide HM).grown hg
      have d1 := M2.c0
      have f1 : wr.frozen? ⟨b, 0, none⟩ = false := by simp [World.frozen?, M2.blk]
      have HS := hide (rm_storeGive (unhide HM) M2 hm hN)
      have HG2 := hide hg
      clear HE hm hg M2
      go_wp2
      go_ret
      exact ⟨.inl ⟨Uk, _, unhide HR, rfl, (unhide HS).1⟩, (gr_weak0 (unhide HG2)).trans (unhide HS).2⟩
end Go.Proofs.Ytgdplmbchoogiaa
