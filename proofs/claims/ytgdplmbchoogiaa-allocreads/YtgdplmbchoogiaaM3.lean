/-
  DERIVED. The walks of layUint, closed, PutUint, layInt, PutInt.
-/
import Derived.Test.YtgdplmbchoogiaaM1
import Derived.Deep.RegionHeld3
import Derived.Test.YtgdplmbchoogiaaM2
import Derived.RegionCalls
import Derived.Deep.Cut
import Derived.Deep.CutRange
import Derived.Laws.Bits64b
import Derived.Laws.Closers25b
import Derived.BigQuiet
namespace Go.Proofs.Ytgdplmbchoogiaa
open Go.RowKit

theorem closed_any (v : Value) (l : List UInt8) (w : World) (hv : Sl w v l) :
    Calls Try.prog 44 #[v] w fun e w' => ∃ v', e = .returned v' ∧ (Sl w v' l ∧ ∃ ao, v' = .slice ao l.length l.length) ∧ w = w' := by
  obtain ⟨ao, cap, rfl, h1, h2, h4⟩ := hv
  have H4 := hide h4
  clear h4
  go_enter Try.func44, Try.ntmps44
  go_wp2
  go_ret
  exact ⟨_, rfl, ⟨⟨ao, l.length, rfl, Nat.le_refl _, by omega, fun h => unhide H4 (by omega)⟩, ao, rfl⟩, rfl⟩

set_option maxHeartbeats 400000 in
theorem layUint_any (base : Nat) (v : Value) (l : List UInt8) (n : Int) (w : World) (hb : base ≤ w.heap.size) (hv : Room w base v l) (hn0 : 0 ≤ n) (hn1 : n ≤ 18446744073709551615) (hl : l.length + 10 ≤ 140737488355328) :
    Calls Try.prog 43 #[v, .int .u64 n] w fun e w' => ∃ v', e = .returned v' ∧ Own w' base v' (l ++ lay n.toNat) ∧ Below base w w' := by
  go_enter Try.func43, Try.ntmps43
  go_wp2
  go_loopw [0, 1] (fun u k wr => ∃ (m : Int) (l' : List UInt8), k = .int .u64 m ∧ 0 ≤ m ∧ m ≤ 18446744073709551615 ∧ Hid (lay n.toNat = l' ++ lay m.toNat) ∧ Room wr base u (l ++ l') ∧ Below base w wr) (fun _ k _ => (intOf k).toNat)
  case atStart => exact ⟨n, [], rfl, hn0, hn1, hide (by simp), by simpa using hv, Below.refl _ _⟩
  case round =>
    obtain ⟨m, l', rfl, hm0, hm1, HL, hroom, hbel⟩ := hrel
    have hsz : l'.length + 1 ≤ 10 := by
      have := congrArg List.length (unhide HL)
      have h1 := lay_len n.toNat
      have h2 := lay_len m.toNat
      simp at this
      omega
    have hbs := hbel.size
    by_cases hlt : 128 ≤ m
    · obtain ⟨c, hc⟩ : ∃ c, c = UInt8.ofNat (128 + m.toNat % 128) := ⟨_, rfl⟩
      have Hc : Hid (bits BinOp.or IntKind.u8 (m % 256) 128 = (c.toNat : Int)) := hide (by rw [hc]; exact or128 m hm0)
      have HL2 : Hid (lay n.toNat = (l' ++ [c]) ++ lay (m / 128).toNat) := hide (by
        rw [unhide HL, lay_big (by omega) (by omega), hc]
        have : m.toNat / 128 = (m / 128).toNat := by omega
        simp [this])
      clear hc HL
      go_wp2_with (at_builtin; refine wpList_append_room rfl (.tmp 7) (.tmp 11) rfl base _ (l ++ l') rfl ?hroom _ [c] rfl ?hy (by simp) ?hlen ?hbase ?_)
      case hroom => exact hroom.alloc _
      case hy => rw [unhide Hc]; exact Sl.new wr [c] (by simp [maxLen]) (0, 0)
      case hlen => simp; omega
      case hbase => simp; omega
      intro v' w1 hown hb1
      have R : Room w1 base v' (l ++ (l' ++ [c])) := Or.inl (by simpa using hown)
      have hb2 : Below base w w1 := (hbel.alloc (by omega) _).trans hb1
      clear hown hb1 hroom hbel
      go_wp2
      go_roundw
      case rel => exact ⟨m / 128, l' ++ [c], rfl, by omega, by omega, HL2, R, hb2⟩
      case measure => simp [intOf]; omega
    · obtain ⟨c, hc⟩ : ∃ c, c = UInt8.ofNat m.toNat := ⟨_, rfl⟩
      have Hc : Hid (m = (c.toNat : Int)) := hide (by have := byte_of m hm0 (by omega); rw [hc, ← this]; omega)
      have HL2 : Hid (lay n.toNat = l' ++ [c]) := hide (by
        rw [unhide HL, lay_small (by omega), hc])
      clear hc HL
      go_wp2_with (at_builtin; refine wpList_append_room rfl (.tmp 15) (.tmp 18) rfl base _ (l ++ l') rfl ?hroom2 _ [c] rfl ?hy2 (by simp) ?hlen2 ?hbase2 ?_)
      case hroom2 => exact hroom.alloc _
      case hy2 => rw [unhide Hc]; exact Sl.new wr [c] (by simp [maxLen]) (0, 0)
      case hlen2 => (try simp); omega
      case hbase2 => (try simp); omega
      intro v' w1 hown hb1
      have R : Own w1 base v' (l ++ lay n.toNat) := by rw [unhide HL2]; simpa using hown
      have hb2 : Below base w w1 := (hbel.alloc (by omega) _).trans hb1
      clear hown hb1 hroom hbel
      go_wp2
      go_ret
      exact ⟨_, rfl, R, hb2⟩

theorem layUint_at (base : Nat) (v : Value) (l : List UInt8) (x : Int) (n : Nat) (w : World) (hb : base ≤ w.heap.size) (hv : Room w base v l) (hl : l.length + 10 ≤ 140737488355328) (hn : n ≤ 18446744073709551615) (hx : x = n) :
    Calls Try.prog 43 #[v, .int .u64 x] w fun e w' => ∃ v', e = .returned v' ∧ Own w' base v' (l ++ lay n) ∧ Below base w w' := by
  subst hx
  exact layUint_any base v l n w hb hv (by omega) (by omega) hl

theorem zig_neg (n : Int) (h : n < 0) (h2 : -9223372036854775808 ≤ n) : IntKind.u64.wrap (IntKind.u64.wrap (2 * IntKind.u64.wrap (-n - 1)) + 1) = (zig n : Int) := by
  unfold zig; rw [if_pos h]; simp only [IntKind.wrap_u64]; omega
theorem zig_pos (n : Int) (h : ¬ n < 0) (h2 : n ≤ 9223372036854775807) : 2 * n = (zig n : Int) := by
  unfold zig; rw [if_neg h]; omega
theorem zig_le (n : Int) (h : -9223372036854775808 ≤ n) (h2 : n ≤ 9223372036854775807) : zig n ≤ 18446744073709551615 := by
  unfold zig; split <;> omega

end Go.Proofs.Ytgdplmbchoogiaa

/-
  DERIVED. bits, Bytes.
-/
namespace Go.Proofs.Ytgdplmbchoogiaa
open Go.RowKit
set_option linter.unusedVariables false

/-- The i-th byte, of the first n blocks. -/
def byteAt (U : Nat → Bool) (n i : Nat) : Nat := ((List.range 8).map fun k => if 8 * i + k < n ∧ U (8 * i + k) = true then 2 ^ k else 0).sum
theorem byteAt_eq (U : Nat → Bool) (n i : Nat) : byteAt U n i = (if 8 * i + 0 < n ∧ U (8 * i + 0) = true then 1 else 0) + (if 8 * i + 1 < n ∧ U (8 * i + 1) = true then 2 else 0) + (if 8 * i + 2 < n ∧ U (8 * i + 2) = true then 4 else 0) + (if 8 * i + 3 < n ∧ U (8 * i + 3) = true then 8 else 0) + (if 8 * i + 4 < n ∧ U (8 * i + 4) = true then 16 else 0) + (if 8 * i + 5 < n ∧ U (8 * i + 5) = true then 32 else 0) + (if 8 * i + 6 < n ∧ U (8 * i + 6) = true then 64 else 0) + (if 8 * i + 7 < n ∧ U (8 * i + 7) = true then 128 else 0) := by
  simp [byteAt, List.range_succ]
  omega
theorem cond_far {U : Nat → Bool} {n j : Nat} (h : n ≤ j) (x : Nat) : (if j < n ∧ U j = true then x else 0) = 0 := by rw [if_neg (by omega)]
theorem cond_near {U : Nat → Bool} {n j : Nat} (h : j < n) (x : Nat) : (if j < n ∧ U j = true then x else 0) = (if U j = true then x else 0) := by simp [h]
theorem cond_le (p : Prop) [Decidable p] (x : Nat) : (if p then x else 0) ≤ x := by split <;> omega

theorem byteAt_next (U : Nat → Bool) (q r : Nat) (hr : r < 8) : byteAt U (8 * q + r) q < 2 ^ r ∧ byteAt U (8 * q + r + 1) q = byteAt U (8 * q + r) q + (if U (8 * q + r) = true then 2 ^ r else 0) := by
  rw [byteAt_eq, byteAt_eq]
  have hc : r = 0 ∨ r = 1 ∨ r = 2 ∨ r = 3 ∨ r = 4 ∨ r = 5 ∨ r = 6 ∨ r = 7 := by omega
  have e0 := cond_le (U (8 * q + 0) = true) 1
  have e1 := cond_le (U (8 * q + 1) = true) 2
  have e2 := cond_le (U (8 * q + 2) = true) 4
  have e3 := cond_le (U (8 * q + 3) = true) 8
  have e4 := cond_le (U (8 * q + 4) = true) 16
  have e5 := cond_le (U (8 * q + 5) = true) 32
  have e6 := cond_le (U (8 * q + 6) = true) 64
  have d : ∀ k, (8 * q + k < 8 * q + r) = (k < r) := fun k => propext (by omega)
  have d' : ∀ k, (8 * q + k < 8 * q + r + 1) = (k < r + 1) := fun k => propext (by omega)
  simp only [d, d']
  clear d d'
  rcases hc with rfl | rfl | rfl | rfl | rfl | rfl | rfl | rfl <;>
    (simp only [Nat.reduceAdd, Nat.reduceLT, Nat.reducePow, true_and, false_and, ↓reduceIte, Nat.lt_irrefl]
     first | omega | (constructor <;> omega))
theorem byteAt_other (U : Nat → Bool) (q r i : Nat) (hr : r < 8) (hi : i ≠ q) : byteAt U (8 * q + r + 1) i = byteAt U (8 * q + r) i := by
  rw [byteAt_eq, byteAt_eq]
  rcases Nat.lt_or_gt_of_ne hi with h | h
  · rw [cond_near (by omega), cond_near (by omega), cond_near (by omega), cond_near (by omega), cond_near (by omega), cond_near (by omega), cond_near (by omega), cond_near (by omega), cond_near (by omega), cond_near (by omega), cond_near (by omega), cond_near (by omega), cond_near (by omega), cond_near (by omega), cond_near (by omega), cond_near (by omega)]
  · rw [cond_far (by omega), cond_far (by omega), cond_far (by omega), cond_far (by omega), cond_far (by omega), cond_far (by omega), cond_far (by omega), cond_far (by omega), cond_far (by omega), cond_far (by omega), cond_far (by omega), cond_far (by omega), cond_far (by omega), cond_far (by omega), cond_far (by omega), cond_far (by omega)]

/-- The bytes, of the first n blocks. -/
def bitsN (U : Nat → Bool) (m n : Nat) : List UInt8 := (List.range m).map fun i => UInt8.ofNat (byteAt U n i)
theorem bitsN_len (U : Nat → Bool) (m n : Nat) : (bitsN U m n).length = m := by simp [bitsN]
theorem bitsN_zero (U : Nat → Bool) (m : Nat) : bitsN U m 0 = List.replicate m 0 := by
  apply List.ext_getElem
  · simp [bitsN]
  · intro i h1 h2
    have : byteAt U 0 i = 0 := by rw [byteAt_eq]; simp
    simp [bitsN, this]
theorem bitsN_step (U : Nat → Bool) (m q r : Nat) (hr : r < 8) (hq : q < m) : bitsN U m (8 * q + r + 1) = (bitsN U m (8 * q + r)).set q (UInt8.ofNat (byteAt U (8 * q + r) q + (if U (8 * q + r) = true then 2 ^ r else 0))) := by
  apply List.ext_getElem
  · simp [bitsN]
  · intro i h1 h2
    by_cases e : i = q
    · subst e
      simp [bitsN, (byteAt_next U i r hr).2]
    · rw [List.getElem_set_ne (fun h => e h.symm)]
      simp [bitsN, byteAt_other U q r i hr e]
theorem or_bit : ∀ r : Nat, r < 8 → ∀ x : Nat, x < 2 ^ r → bits BinOp.or IntKind.u8 (x : Int) ((2 ^ r : Nat) : Int) = ((x + 2 ^ r : Nat) : Int) := by
  have h : (List.range 8).all (fun r => (List.range (2 ^ r)).all fun x => bits BinOp.or IntKind.u8 (x : Int) ((2 ^ r : Nat) : Int) == ((x + 2 ^ r : Nat) : Int)) = true := by decide +kernel
  intro r hr x hx
  have h1 := List.all_eq_true.1 h r (List.mem_range.2 hr)
  have h2 := List.all_eq_true.1 h1 x (List.mem_range.2 hx)
  exact beq_iff_eq.1 h2

theorem made_zero (n : Nat) : madeCells #[Value.int .u8 0] n = ((List.replicate n (0 : UInt8)).map bv).toArray := by
  apply Array.ext'
  rw [toList_madeCells_one, List.map_replicate]
  exact congrArg (List.replicate n) (show Value.int .u8 0 = bv 0 from rfl)
theorem run_make_bytes (w : World) (m : Nat) (hm : m ≤ 512) : (Instr.makeSlice 42 (.int .i64 (m : Int)) (.int .i64 (m : Int))).run Try.prog w = .ok (.slice (some ⟨w.heap.size, 0, none⟩) m m) (w.alloc (.cells ((List.replicate m (0 : UInt8)).map bv).toArray 5)) := by
  obtain ⟨i, hi, hh⟩ := Option.map_eq_some_iff.1 Try.info5
  simp only [Prod.mk.injEq] at hh
  have h := run_make (P := Try.prog) w 42 5 i _ Try.underlying42 hi hh.1 .i64 .i64 m m (by omega) (Int.le_refl _) (by rw [hh.2.2]; omega) (by omega)
  rw [h, hh.2.1, Int.toNat_natCast, Nat.mul_one]
  show Result.ok _ (w.alloc (.cells (madeCells #[Value.int .u8 0] m) 5)) = _
  rw [made_zero]

def BRow (w : World) (g : Nat) (L : List UInt8) : Prop := w.heap[g]? = some (.cells (L.map bv).toArray 5 (0, 0))
theorem BRow.cell {w : World} {g : Nat} {L : List UInt8} (h : BRow w g L) {i : Nat} (hi : i < L.length) : w.cell? ⟨g, i, none⟩ = some (bv L[i]) := by
  rw [cell_of_row _ _ _ _ _ _ h]; simp [hi]
theorem BRow.set {w : World} {g : Nat} {L : List UInt8} (h : BRow w g L) (i : Nat) (c : UInt8) : BRow (w.setCell ⟨g, i, none⟩ (bv c)) g (L.set i c) := by
  unfold BRow
  rw [heap_setCell_same w g i _ _ _ h]
  simp [List.map_set]

set_option maxHeartbeats 2000000 in
set_option maxRecDepth 20000 in
theorem bits_any (w : World) (b B : Nat) (U V : Nat → Bool) (h : MapAt w b B U V) :
    Calls Try.prog 39 #[.pointer (some ⟨b, 0, none⟩)] w fun e w' => ∃ v, e = .returned v ∧ Own w' w.heap.size v (bitsN U ((B + 7) / 8) B) ∧ w.grownBy w' none := by
  have hB := h.le
  have hBi : (B : Int) ≤ 512 := by omega
  have c0 := h.num
  obtain ⟨m, hm⟩ : ∃ m, m = (B + 7) / 8 := ⟨_, rfl⟩
  have hq : ((B : Int) + 8 - 1) / 8 = (m : Int) := by omega
  have hq2 : ((B : Int) + 7) / 8 = (m : Int) := by omega
  have mk := run_make_bytes w m (by omega)
  have hg0 : w.grownBy (w.alloc (.cells ((List.replicate m (0 : UInt8)).map bv).toArray 5)) none := World.grownBy_alloc _ _ _
  have hr0 : BRow (w.alloc (.cells ((List.replicate m (0 : UInt8)).map bv).toArray 5)) w.heap.size (bitsN U m 0) := by rw [bitsN_zero]; exact heap_alloc_new _ _
  obtain ⟨W1, hW1⟩ : ∃ W1, W1 = w.alloc (.cells ((List.replicate m (0 : UInt8)).map bv).toArray 5) := ⟨_, rfl⟩
  rw [← hW1] at mk hg0 hr0
  have c1 := (h.grown hg0 (by simp)).num
  have HM := hide h
  have HG0 := hide hg0
  have HR0 := hide hr0
  rw [← hm]
  have Hm := hide hm
  clear h hW1 hg0 hr0 hm
  go_enter Try.func39, Try.ntmps39
  go_wp2
  go_loopw [17] (fun i wr => ∃ n : Nat, i = .int .i64 (n : Int) ∧ n ≤ B ∧ BRow wr w.heap.size (bitsN U m n) ∧ w.grownBy wr none) (fun i _ => B - (intOf i).toNat)
  case atStart => exact ⟨0, rfl, by omega, unhide HR0, unhide HG0⟩
  case round =>
    obtain ⟨n, rfl, hn, hr, hg⟩ := hrel
    have hmp := (unhide HM).grown hg (by simp)
    by_cases hlt : n < B
    · have hlt' : (n : Int) < (B : Int) := by omega
      have hn5 : (n : Int) < 512 := by omega
      have cU := hmp.used (n := n) (by omega)
      have hqm : n / 8 < m := by have := unhide Hm; omega
      have hqi : ((n : Int) / 8) < (m : Int) := by omega
      have hq0 : (0 : Int) ≤ (n : Int) / 8 := by omega
      have cB := hr.cell (i := n / 8) (by rw [bitsN_len]; exact hqm)
      have cF : wr.frozen? ⟨w.heap.size, n / 8, none⟩ = false := by simp [World.frozen?, show wr.heap[w.heap.size]? = _ from hr]
      have hr8 : n % 8 < 8 := by omega
      have en : n = 8 * (n / 8) + n % 8 := by omega
      have HST := hide (bitsN_step U m (n / 8) (n % 8) hr8 hqm)
      rw [← en] at HST
      have hby : ((bitsN U m n)[n / 8]'(by rw [bitsN_len]; exact hqm)) = UInt8.ofNat (byteAt U n (n / 8)) := by simp [bitsN]
      have hbl := (byteAt_next U (n / 8) (n % 8) hr8).1
      rw [← en] at hbl
      rw [hby] at cB
      cases hU : U n with
      | false =>
        rw [hU] at cU
        have HR : Hid (BRow wr w.heap.size (bitsN U m (n + 1))) := hide (by
          rw [unhide HST]
          have e : (bitsN U m n).set (n / 8) (UInt8.ofNat (byteAt U n (n / 8) + 0)) = bitsN U m n := by rw [Nat.add_zero, ← hby]; exact List.set_getElem_self _
          simp only [hU]
          rw [show (if false = true then 2 ^ (n % 8) else 0) = 0 from rfl, e]
          exact hr)
        have HG := hide hg
        clear HST hby hr hg en hmp
        go_wp2
        go_roundw
        case rel => exact ⟨n + 1, rfl, by omega, unhide HR, unhide HG⟩
        case measure => simp [intOf]; omega
      | true =>
        rw [hU] at cU
        obtain ⟨x, hx⟩ : ∃ x, x = byteAt U n (n / 8) := ⟨_, rfl⟩
        rw [← hx] at cB hbl HST hby
        have hxs : x < 256 := Nat.lt_of_lt_of_le hbl (by have : 2 ^ (n % 8) ≤ 2 ^ 7 := Nat.pow_le_pow_right (by omega) (by omega); omega)
        have hxv : ((UInt8.ofNat x).toNat : Int) = (x : Int) := by simp; omega
        have HEN := hide en
        have HX := hide hx
        have HR := hide hr
        have HG := hide hg
        have HBL := hide hbl
        clear hby en hx hr hg hmp hbl
        go_wp2_with fail
        go_region
        have hp : (2 : Int) ^ (n % 8) = ((2 ^ (n % 8) : Nat) : Int) := by push_cast; rfl
        have hp7 : 2 ^ (n % 8) ≤ 2 ^ 7 := Nat.pow_le_pow_right (by omega) (by omega)
        have hval : bits BinOp.or IntKind.u8 ((x : Int) % 256) ((2 : Int) ^ (n % 8) % 256) = ((UInt8.ofNat (x + 2 ^ (n % 8))).toNat : Int) := by
          have hb := unhide HBL
          rw [hp, show (x : Int) % 256 = (x : Int) by omega, show ((2 ^ (n % 8) : Nat) : Int) % 256 = ((2 ^ (n % 8) : Nat) : Int) by omega, or_bit (n % 8) hr8 x hb]
          simp only [UInt8.toNat_ofNat']
          congr 1
          omega
        rw [hval]
        have HR2 : Hid (BRow (wr.setCell ⟨w.heap.size, n / 8, none⟩ (bv (UInt8.ofNat (x + 2 ^ (n % 8))))).drew w.heap.size (bitsN U m (n + 1))) := hide (by
          have := (unhide HR).set (n / 8) (UInt8.ofNat (x + 2 ^ (n % 8)))
          rw [unhide HST]
          simp only [hU, if_true]
          exact this)
        have HG2 : Hid (w.grownBy (wr.setCell ⟨w.heap.size, n / 8, none⟩ (bv (UInt8.ofNat (x + 2 ^ (n % 8))))).drew none) := hide (by
          have hgs := (unhide HG).andThen (setCell_grown wr w.heap.size (n / 8) (bv (UInt8.ofNat (x + 2 ^ (n % 8))))) (fun j e => by cases e; exact .inl (Nat.le_refl _))
          exact ⟨hgs.os, hgs.tape, hgs.output, hgs.size, hgs.block⟩)
        clear hval hp hp7
        go_wp2
        go_roundw
        case rel => exact ⟨n + 1, rfl, by omega, unhide HR2, unhide HG2⟩
        case measure => simp [intOf]; omega
    · have hlt' : ¬ (n : Int) < (B : Int) := by omega
      obtain rfl : n = B := by omega
      have HR := hide hr
      have HG := hide hg
      clear hr hg hmp
      go_wp2
      go_ret
      refine ⟨.slice (some ⟨w.heap.size, 0, none⟩) m m, rfl, ?_, unhide HG⟩
      have hr' := unhide HR
      refine ⟨by simp, .inr ⟨w.heap.size, m, _, by rw [bitsN_len], Nat.le_refl _, hr', by rw [bitsN_len]; omega, by unfold maxLen; have := unhide Hm; omega, by simp [bitsN_len], by simp [bitsN_len]; exact List.take_of_length_le (by simp [bitsN_len])⟩⟩

theorem PutUint_nil (n : Nat) (w : World) (hn : n ≤ 18446744073709551615) :
    Calls Try.prog 38 #[.slice none 0 0, .int .u64 n] w fun e w' => ∃ v', e = .returned v' ∧ Own w' w.heap.size v' (lay n) ∧ Below w.heap.size w w' := by
  have hv : Sl w (.slice none 0 0) [] := ⟨none, 0, rfl, by simp, by simp [maxLen], fun h => absurd rfl h⟩
  go_enter Try.func38, Try.ntmps38
  go_wp2_with (first | (go_at_call 44; refine (closed_any _ [] _ hv).mono ?_; rintro e w' ⟨v1, rfl, hroom, rfl⟩) | (go_at_call 43; refine (layUint_at w.heap.size _ [] _ n _ (Nat.le_refl _) (Or.inr hroom) (by simp) hn rfl).mono ?_; rintro e w' ⟨v2, rfl, hown, hbel⟩))
  go_ret
  exact ⟨_, rfl, by simpa using hown, hbel⟩

/-- A map as bytes. -/
def tell (B : Nat) (U : Nat → Bool) : List UInt8 := lay B ++ bitsN U ((B + 7) / 8) B

set_option maxHeartbeats 1000000 in
theorem Bytes_any (w : World) (b B : Nat) (U V : Nat → Bool) (h : MapAt w b B U V) :
    Calls Try.prog 23 #[.pointer (some ⟨b, 0, none⟩)] w fun e w' => ∃ v, e = .returned v ∧ Own w' w.heap.size v (tell B U) ∧ w.grownBy w' none := by
  have c0 := h.num
  have hB := h.le
  have hBi : (B : Int) ≤ 512 := by omega
  have HM := hide h
  clear h
  go_enter Try.func23, Try.ntmps23
  go_wp2_with fail
  refine (PutUint_nil B w (by omega)).mono ?_
  rintro e w1 ⟨v1, rfl, o1, b1⟩
  have g1 := grown_of_below b1
  have HM1 := hide ((unhide HM).grown g1 (by simp))
  have HO1 := hide o1
  have HG1 := hide g1
  clear o1 b1 g1 c0
  go_wp2_with fail
  refine (bits_any w1 b B U V (unhide HM1)).mono ?_
  rintro e w2 ⟨v2, rfl, o2, g2⟩
  have HO2 : Hid (Own w2 w.heap.size v1 (lay B)) := hide ((unhide HO1).below (below_of_grown g2) (Nat.le_refl _))
  have HS2 := hide o2.sl
  have HG2 : Hid (w.grownBy w2 none) := hide ((unhide HG1).trans g2)
  have hl1 := lay_len B
  have hl2 := bitsN_len U ((B + 7) / 8) B
  have HLn : Hid ((lay B).length + (bitsN U ((B + 7) / 8) B).length ≤ 140737488355328) := hide (by omega)
  have HBs : Hid (w.heap.size ≤ w2.heap.size) := hide (unhide HG2).size
  clear o2 g2 hl1 hl2
  go_wp2_with (at_builtin; refine wpList_append_mine rfl (.tmp 10) (.tmp 12) rfl w.heap.size _ (lay B) rfl (unhide HO2) _ (bitsN U ((B + 7) / 8) B) rfl (unhide HS2) (unhide HLn) (unhide HBs) ?_; intro v' w3 ho hb3; have HO3 := hide ho; have HB3 := hide hb3; clear ho hb3)
  go_ret
  exact ⟨_, rfl, unhide HO3, grown_of_below ((below_of_grown (unhide HG2)).trans (unhide HB3))⟩
theorem Bytes_nil (w : World) : Calls Try.prog 23 #[.pointer none] w fun e w' => e = .returned (.slice none 0 0) ∧ w' = w := by
  go_enter Try.func23, Try.ntmps23
  go_wp2
  go_ret
  exact ⟨rfl, rfl⟩
end Go.Proofs.Ytgdplmbchoogiaa

/-
  DERIVED. The document's PutUint.
-/
namespace Go.Proofs.Ytgdplmbchoogiaa
open Go.RowKit
set_option linter.unusedVariables false

theorem byte_128 (m : Int) (h : 0 ≤ m) : (128 + m % 128) % 256 = ((UInt8.ofNat (128 + m.toNat % 128)).toNat : Int) := by
  simp only [UInt8.toNat_ofNat']
  omega
theorem byte_128' (m : Int) (h : 0 ≤ m) : 128 + m % 128 = ((UInt8.ofNat (128 + m.toNat % 128)).toNat : Int) := by
  simp only [UInt8.toNat_ofNat']
  omega

set_option maxHeartbeats 1000000 in
theorem rPutUint_any (n : Int) (w : World) (hn0 : 0 ≤ n) (hn1 : n ≤ 18446744073709551615) :
    Calls Try.prog 42 #[.int .u64 n] w fun e w' => ∃ v', e = .returned v' ∧ Own w' w.heap.size v' (lay n.toNat) ∧ Below w.heap.size w w' := by
  go_enter Try.func42, Try.ntmps42
  go_wp2
  go_loopw [0, 3] (fun k u wr => ∃ (m : Int) (l' : List UInt8), k = .int .u64 m ∧ 0 ≤ m ∧ m ≤ 18446744073709551615 ∧ Hid (lay n.toNat = l' ++ lay m.toNat) ∧ Own wr w.heap.size u l' ∧ Below w.heap.size w wr) (fun k _ _ => (intOf k).toNat)
  case atStart => exact ⟨n, [], rfl, hn0, hn1, hide (by simp), World.ownsRow_nil _ _ _ _, Below.refl _ _⟩
  case round =>
    obtain ⟨m, l', rfl, hm0, hm1, HL, hown, hbel⟩ := hrel
    have hsz : l'.length + 1 ≤ 10 := by
      have := congrArg List.length (unhide HL)
      have h1 := lay_len n.toNat
      have h2 := lay_len m.toNat
      simp at this
      omega
    have hbs := hbel.size
    by_cases hlt : 128 ≤ m
    · obtain ⟨c, hc⟩ : ∃ c, c = UInt8.ofNat (128 + m.toNat % 128) := ⟨_, rfl⟩
      have Hc : Hid (128 + m % 128 = (c.toNat : Int)) := hide (by rw [hc]; exact byte_128' m hm0)
      have HL2 : Hid (lay n.toNat = (l' ++ [c]) ++ lay (m / 128).toNat) := hide (by
        rw [unhide HL, lay_big (by omega) (by omega), hc]
        have : m.toNat / 128 = (m / 128).toNat := by omega
        simp [this])
      clear hc HL
      go_wp2_with (at_builtin; refine wpList_append_mine rfl (.tmp 6) (.tmp 11) rfl w.heap.size _ l' rfl ?hown _ [c] rfl ?hy ?hlen ?hbase ?_)
      case hown => exact hown.alloc _
      case hy => rw [unhide Hc]; exact Sl.new wr [c] (by simp [maxLen]) (0, 0)
      case hlen => (try simp); omega
      case hbase => (try simp); omega
      intro v' w1 hown1 hb1
      have R : Own w1 w.heap.size v' (l' ++ [c]) := by simpa using hown1
      have hb2 : Below w.heap.size w w1 := (hbel.alloc (by omega) _).trans hb1
      clear hown hown1 hb1 hbel
      go_wp2
      go_roundw
      case rel => exact ⟨m / 128, l' ++ [c], rfl, by omega, by omega, HL2, R, hb2⟩
      case measure => simp [intOf]; omega
    · obtain ⟨c, hc⟩ : ∃ c, c = UInt8.ofNat m.toNat := ⟨_, rfl⟩
      have Hc : Hid (m = (c.toNat : Int)) := hide (by have := byte_of m hm0 (by omega); rw [hc, ← this]; omega)
      have HL2 : Hid (lay n.toNat = l' ++ [c]) := hide (by
        rw [unhide HL, lay_small (by omega), hc])
      clear hc HL
      go_wp2_with (at_builtin; refine wpList_append_mine rfl (.tmp 15) (.tmp 18) rfl w.heap.size _ l' rfl ?hown2 _ [c] rfl ?hy2 ?hlen2 ?hbase2 ?_)
      case hown2 => exact hown.alloc _
      case hy2 => rw [unhide Hc]; exact Sl.new wr [c] (by simp [maxLen]) (0, 0)
      case hlen2 => (try simp); omega
      case hbase2 => (try simp); omega
      intro v' w1 hown1 hb1
      have R : Own w1 w.heap.size v' (lay n.toNat) := by rw [unhide HL2]; simpa using hown1
      have hb2 : Below w.heap.size w w1 := (hbel.alloc (by omega) _).trans hb1
      clear hown hown1 hb1 hbel
      go_wp2
      go_ret
      exact ⟨_, rfl, R, hb2⟩
theorem rPutUint_at (x : Int) (n : Nat) (w : World) (hn : n ≤ 18446744073709551615) (hx : x = n) :
    Calls Try.prog 42 #[.int .u64 x] w fun e w' => ∃ v', e = .returned v' ∧ Own w' w.heap.size v' (lay n) ∧ Below w.heap.size w w' := by
  subst hx
  exact rPutUint_any n w (by omega) (by omega)
end Go.Proofs.Ytgdplmbchoogiaa

/-
  DERIVED. The document's map: Bytes.
-/
namespace Go.Proofs.Ytgdplmbchoogiaa
open Go.RowKit
set_option linter.unusedVariables false

def bit1 (U : Nat → Bool) (B j : Nat) : Nat := if j < B ∧ U j = true then 1 else 0
theorem bit1_le (U : Nat → Bool) (B j : Nat) : bit1 U B j ≤ 1 := by unfold bit1; split <;> omega
/-- A byte as the document makes it: m of its bits, from above. -/
def hx (U : Nat → Bool) (B i : Nat) : Nat → Nat
  | 0 => 0
  | m + 1 => 2 * hx U B i m + bit1 U B (8 * i + (7 - m))
theorem hx_lt (U : Nat → Bool) (B i : Nat) : ∀ m, hx U B i m < 2 ^ m
  | 0 => by simp [hx]
  | m + 1 => by
    have h1 := hx_lt U B i m
    have h2 := bit1_le U B (8 * i + (7 - m))
    rw [hx, Nat.pow_succ]
    omega
theorem cond_bit (U : Nat → Bool) (B j x : Nat) : (if j < B ∧ U j = true then x else 0) = x * bit1 U B j := by unfold bit1; split <;> simp
theorem hx_full (U : Nat → Bool) (B i : Nat) : hx U B i 8 = byteAt U B i := by
  rw [byteAt_eq]
  simp only [cond_bit, hx]
  simp only [show 7 - 0 = 7 from rfl, show 7 - 1 = 6 from rfl, show 7 - 2 = 5 from rfl, show 7 - 3 = 4 from rfl, show 7 - 4 = 3 from rfl, show 7 - 5 = 2 from rfl, show 7 - 6 = 1 from rfl, show 7 - 7 = 0 from rfl]
  omega
theorem hx_255 (U : Nat → Bool) (B i m : Nat) (hm : m ≤ 8) : hx U B i m ≤ 255 := by
  have h1 := hx_lt U B i m
  have h2 : 2 ^ m ≤ 2 ^ 8 := Nat.pow_le_pow_right (by omega) hm
  omega
theorem bitsN_snoc (U : Nat → Bool) (m n : Nat) : bitsN U (m + 1) n = bitsN U m n ++ [UInt8.ofNat (byteAt U n m)] := by simp [bitsN, List.range_succ]

set_option maxHeartbeats 4000000 in
theorem rBytes_any (w : World) (N b B : Nat) (v1 v2 : Value) (U V : Nat → Bool) (h : RmAt w N b B v1 v2 U V) :
    Calls Try.prog 32 #[.pointer (some ⟨b, 0, none⟩)] w fun e w' => ∃ v, e = .returned v ∧ Own w' w.heap.size v (tell B U) ∧ w.grownBy w' none := by
  have HM := hide h
  have hle := h.le
  have hBI : (B : Int) ≤ 512 := by omega
  have c0 := h.c0
  obtain ⟨o1, p1, hv1, q1, q2, _⟩ := h.now.form
  subst hv1
  clear h
  go_enter Try.func32, Try.ntmps32
  go_wp2_with fail
  refine (rPutUint_at _ B w (by omega) (by first | rfl | omega)).mono ?_
  rintro e w1 ⟨u1, rfl, o1', b1⟩
  have HO1 := hide o1'
  have HG1 := hide (grown_of_below b1)
  clear o1' b1 c0
  go_wp2
  go_loopw [3, 4] (fun a j wr => ∃ (i e : Nat), j = .int .i64 (e : Int) ∧ e ≤ 519 ∧ Hid (e = 8 * i ∧ i ≤ (B + 7) / 8) ∧ Own wr w.heap.size a (lay B ++ bitsN U i B) ∧ w.grownBy wr none) (fun _ j _ => 520 - (intOf j).toNat)
  case atStart => exact ⟨0, 0, rfl, by omega, hide ⟨rfl, by omega⟩, by simpa [bitsN] using unhide HO1, unhide HG1⟩
  case round =>
    obtain ⟨i, e, rfl, he, HE, hO, hG⟩ := hrel
    have HO := hide hO
    have HG := hide hG
    have M2 := hide ((unhide HM).grown hG)
    have c0 := (unhide M2).c0
    clear hO hG HO1 HG1
    by_cases hlt : e < B
    · have hlt' : (e : Int) < (B : Int) := by omega
      rename World => W0
      obtain ⟨oo, pp, ee, -, -, hh⟩ := (unhide M2).now.form
      injection ee with ee1 _ ee2
      subst ee1 ee2
      obtain ⟨g, eg, -, -, -, cz⟩ := hh (by omega)
      subst eg
      have HC := hide cz
      clear cz hh
      go_wp2_with fail
      go_loopw [5, 6] (fun x j wq => ∃ (m : Nat) (xx : Nat), j = .int .i64 ((7 : Int) - (m : Int)) ∧ m ≤ 8 ∧ x = .int .i64 (xx : Int) ∧ Hid (xx = hx U B i m) ∧ wq = W0) (fun _ j _ => (intOf j + 1).toNat)
      case atStart => exact ⟨0, 0, rfl, by omega, rfl, hide rfl, rfl⟩
      case round =>
        obtain ⟨m, xx, rfl, hm8, rfl, HX, hW⟩ := hrel
        subst wr
        have hx255 : xx ≤ 255 := by rw [unhide HX]; exact hx_255 U B i m hm8
        by_cases hm : m ≤ 7
        · obtain ⟨kk, hkk⟩ : ∃ kk : Nat, (7 : Int) - (m : Int) = (kk : Int) := ⟨7 - m, by omega⟩
          have HK : Hid (kk = 7 - m) := hide (by omega)
          have hk7 : kk ≤ 7 := by omega
          rw [hkk]
          clear hkk
          have hj : (e : Int) + (kk : Int) ≤ 600 := by omega
          by_cases hb : e + kk < B
          · have hb' : (e : Int) + (kk : Int) < (B : Int) := by omega
            have z5 := unhide HC (e + kk) hb
            cases hu : U (e + kk) with
            | true =>
              rw [hu] at z5
              have HX2 : Hid (2 * xx + 1 = hx U B i (m + 1)) := hide (by rw [hx, ← unhide HX, bit1, if_pos ⟨by have := (unhide HE).1; have := unhide HK; omega, by rw [← unhide HK, ← (unhide HE).1]; exact hu⟩])
              clear hu HX
              go_wp2
              go_roundw
              case rel => exact ⟨m + 1, 2 * xx + 1, by congr 1; have := unhide HK; omega, by omega, by congr 1, HX2, trivial⟩
              case measure => simp [intOf]
            | false =>
              rw [hu] at z5
              have HX2 : Hid (2 * xx = hx U B i (m + 1)) := hide (by rw [hx, ← unhide HX, bit1, if_neg (fun h => by rw [← unhide HK, ← (unhide HE).1, hu] at h; exact absurd h.2 (by simp))]; rfl)
              clear hu HX
              go_wp2
              go_roundw
              case rel => exact ⟨m + 1, 2 * xx, by congr 1; have := unhide HK; omega, by omega, by congr 1, HX2, trivial⟩
              case measure => simp [intOf]
          · have hb' : ¬ (e : Int) + (kk : Int) < (B : Int) := by omega
            have HX2 : Hid (2 * xx = hx U B i (m + 1)) := hide (by rw [hx, ← unhide HX, bit1, if_neg (fun h => by have := (unhide HE).1; have := unhide HK; omega)]; rfl)
            clear HX
            go_wp2
            go_roundw
            case rel => exact ⟨m + 1, 2 * xx, by congr 1; have := unhide HK; omega, by omega, by congr 1, HX2, trivial⟩
            case measure => simp [intOf]
        · have hm9 : m = 8 := by omega
          subst hm9
          obtain ⟨c, hc⟩ : ∃ c, c = UInt8.ofNat (byteAt U B i) := ⟨_, rfl⟩
          have Hc : Hid ((xx : Int) = (c.toNat : Int)) := hide (by rw [hc, ← hx_full, ← unhide HX]; simp; omega)
          have HL : Hid (lay B ++ bitsN U (i + 1) B = (lay B ++ bitsN U i B) ++ [c]) := hide (by rw [bitsN_snoc, hc, List.append_assoc])
          have hlen : (lay B ++ bitsN U i B).length ≤ 200 := by
            have := lay_len B
            have := (unhide HE).2
            rw [List.length_append, bitsN_len]
            omega
          clear hc HX
          go_wp2_with (at_builtin; refine wpList_append_mine rfl (.tmp 51) (.tmp 54) rfl w.heap.size _ (lay B ++ bitsN U i B) rfl ?hown _ [c] rfl ?hy ?hlen ?hbase ?_)
          case hown => exact (unhide HO).alloc _
          case hy => rw [unhide Hc]; exact Sl.new W0 [c] (by simp [maxLen]) (0, 0)
          case hlen => have : [c].length = 1 := rfl; omega
          case hbase => have := (unhide HG).size; simp; omega
          intro v' w5 hown1 hb1
          have O5 : Hid (Own w5 w.heap.size v' (lay B ++ bitsN U (i + 1) B)) := hide (by rw [unhide HL, List.append_assoc]; exact hown1)
          have G5 := hide (grown_of_below (((below_of_grown (unhide HG)).alloc (unhide HG).size _).trans hb1))
          have HE2 : Hid (e + 8 = 8 * (i + 1) ∧ i + 1 ≤ (B + 7) / 8) := hide (by have := unhide HE; omega)
          clear hown1 hb1 HG HO HE M2 c0
          go_wp2
          go_roundw
          case rel => exact ⟨i + 1, e + 8, rfl, by omega, HE2, unhide O5, unhide G5⟩
          case measure => simp [intOf]; omega
    · have hlt' : ¬ (e : Int) < (B : Int) := by omega
      have HE2 : Hid (i = (B + 7) / 8) := hide (by have := unhide HE; omega)
      go_wp2
      go_ret
      exact ⟨_, rfl, by rw [tell, ← unhide HE2]; exact unhide HO, unhide HG⟩
end Go.Proofs.Ytgdplmbchoogiaa

/-
  DERIVED. The law's used: some of the blocks that are in use, as runs.
-/
namespace Go.Proofs.Ytgdplmbchoogiaa
open Go.RowKit
set_option linter.unusedVariables false

def usedF (U : Nat → Bool) (n : Nat) : Nat → Bool := fun k => U k && decide ((k + n) % 3 ≠ 0)
set_option maxRecDepth 20000 in
set_option maxHeartbeats 2000000 in
theorem used_any (w : World) (N b B n : Nat) (v1 v2 : Value) (U V : Nat → Bool) (h : RmAt w N b B v1 v2 U V) (hn : n < 3) :
    Calls Try.prog 11 #[.pointer (some ⟨b, 0, none⟩), .int .i64 (n : Int)] w fun e w' => ∃ u X, e = .returned u ∧ ROwn w' w.heap.size u X ∧ (∀ x ∈ X, x.1 ≤ 512 ∧ x.2 ≤ 512) ∧ w.grownBy w' none := by
  have HM := hide h
  have hle := h.le
  have hBI : (B : Int) ≤ 512 := by omega
  have hnI : (n : Int) ≤ 2 := by omega
  obtain ⟨o1, p1, hv1, q1, q2, _⟩ := h.now.form
  subst hv1
  clear h
  go_enter Try.func11, Try.ntmps11
  go_wp2
  go_loopw [5, 6] (fun a i wr => ∃ k : Nat, i = .int .i64 (k : Int) ∧ k ≤ B ∧ NOwn wr w.heap.size a ((List.range' 0 k).filter (usedF U n)) ∧ w.grownBy wr none) (fun _ i _ => B - (intOf i).toNat)
  case atStart => exact ⟨0, rfl, by omega, by simpa using NOwn.nil w w.heap.size, World.grownBy.refl _ _⟩
  case round =>
    obtain ⟨k, rfl, hk, hN, hG⟩ := hrel
    have HN := hide hN
    have HG := hide hG
    have M2 := hide ((unhide HM).grown hG)
    have c0 := (unhide M2).c0
    clear hN hG
    have HFs := hide (filter_range_succ (usedF U n) k)
    by_cases hlt : k < B
    · have hlt' : (k : Int) < (B : Int) := by omega
      have hidx : (0 : Int) ≤ (k : Int) ∧ (k : Int) < (B : Int) := ⟨by omega, hlt'⟩
      obtain ⟨o', cap', e', _, _, h4⟩ := (unhide M2).now.form
      cases e'
      obtain ⟨g, rfl, _, hgl, _, hcell⟩ := h4 (by omega)
      have ck := hcell k hlt
      clear h4 hcell
      have skip : Hid (usedF U n k = false → NOwn wr w.heap.size u5 ((List.range' 0 (k + 1)).filter (usedF U n))) := hide (fun hf => by rw [unhide HFs, hf]; simpa using unhide HN)
      cases hU : U k with
      | false =>
        rw [hU] at ck
        have hf : usedF U n k = false := by simp [usedF, hU]
        have N5 := hide (unhide skip hf)
        clear hU hf skip
        go_wp2
        go_roundw
        case rel => exact ⟨k + 1, rfl, by omega, unhide N5, unhide HG⟩
        case measure => simp [intOf]; omega
      | true =>
        rw [hU] at ck
        by_cases hz : (k + n) % 3 = 0
        · have hf : usedF U n k = false := by simp [usedF, hz]
          have N5 := hide (unhide skip hf)
          have hzi : ((k : Int) + (n : Int)) % 3 = 0 := by omega
          have hzb : (((k : Int) + (n : Int)) % 3 != 0) = false := by simp [hzi]
          clear hU hf skip hz hzi
          go_wp2
          go_roundw
          case rel => exact ⟨k + 1, rfl, by omega, unhide N5, unhide HG⟩
          case measure => simp [intOf]; omega
        · have hf : usedF U n k = true := by simp [usedF, hU, hz]
          rw [hf, if_pos rfl] at HFs
          have hzi : ¬ ((k : Int) + (n : Int)) % 3 = 0 := by omega
          have hzb : (((k : Int) + (n : Int)) % 3 != 0) = true := by simp [hzi]
          have hll : ((List.range' 0 k).filter (usedF U n)).length ≤ 65536 := by have := filter_len_le (usedF U n) k; omega
          clear hU hf skip hz hzi
          go_wp2_with (at_builtin; refine wpList_append_int rfl (.tmp 30) (.tmp 32) rfl w.heap.size _ ((List.range' 0 k).filter (usedF U n)) rfl ?ho ?hb hll ⟨_, 0, none⟩ 1 k rfl ?hc ?_)
          case ho => exact (unhide HN).grown (World.grownBy_alloc _ _ _)
          case hb => have := (unhide HG).size; simp; omega
          case hc => exact (cell_of_row _ _ _ _ _ _ (heap_alloc_new _ _)).trans rfl
          intro v5 w5 o5 g5
          have N5 : Hid (NOwn w5 w.heap.size v5 ((List.range' 0 (k + 1)).filter (usedF U n))) := hide (by rw [unhide HFs]; exact o5)
          have G5 : Hid (w.grownBy w5 none) := hide (((unhide HG).trans (World.grownBy_alloc _ _ _)).andThen g5 (fun z e => .inl ((unhide HN).row e).1))
          clear o5 g5 HN HG M2 c0 ck
          go_wp2
          go_roundw
          case rel => exact ⟨k + 1, rfl, by omega, unhide N5, unhide G5⟩
          case measure => simp [intOf]; omega
    · have hlt' : ¬ (k : Int) < (B : Int) := by omega
      have hlow : low ((List.range' 0 k).filter (usedF U n)) := fun x hx => by
        have h1 := (List.mem_filter.1 hx).1
        rw [List.mem_range'] at h1
        obtain ⟨i, hi, rfl⟩ := h1
        omega
      have HLow := hide hlow
      clear hlow
      go_wp2_with fail
      refine (Whole_any wr u5 _ (unhide HN).nr (unhide HLow) (by have := filter_len_le (usedF U n) k; omega)).mono ?_
      rintro e w6 ⟨u6, rfl, o6, g6⟩
      have O6 : Hid (ROwn w6 w.heap.size u6 (canon ((List.range' 0 k).filter (usedF U n)))) := hide (by
        obtain ⟨h1, h2⟩ := o6
        refine ⟨h1, ?_⟩
        have hsz := (unhide HG).size
        rcases h2 with h2 | ⟨g, cap, cur, a, b', c⟩
        · exact .inl h2
        · exact .inr ⟨g, cap, cur, a, by omega, c⟩)
      have G6 : Hid (w.grownBy w6 none) := hide ((unhide HG).trans g6)
      clear o6 g6 HG M2 c0
      go_wp2
      go_ret
      exact ⟨_, _, rfl, unhide O6, fun x hx => by have := low_canon (unhide HLow) x hx; omega, unhide G6⟩
end Go.Proofs.Ytgdplmbchoogiaa

/-
  DERIVED. The law's asked.
-/
namespace Go.Proofs.Ytgdplmbchoogiaa
open Go.RowKit
set_option linter.unusedVariables false

theorem runs_small (B : Nat) (U V : Nat → Bool) (hB : B ≤ 512) : ∀ x ∈ runsOf B U V, x.1 ≤ 512 ∧ x.2 ≤ 512 := fun x hx => by
  have := runsOf_in hB x hx
  omega
theorem grown_rn {w w' : World} {base : Nat} {v : Value} {xs : List (Nat × Nat)} (h : ROwn w base v xs) (hg : w.grownBy w' none) (hs : ∀ x ∈ xs, x.1 ≤ 512 ∧ x.2 ≤ 512) : Rn w' v (xs.map toI) := (h.rn hs).kept hg
/-- The first ones of a slice of runs. -/
theorem Rn.take {w : World} {ao : Option Addr} {n c : Nat} {l : List (Int × Int)} (h : Rn w (.slice ao n c) l) (k : Nat) (hk : k ≤ l.length) : Rn w (.slice ao k c) (l.take k) := by
  obtain ⟨ao', cap, e, h1, h2, h3, h4⟩ := h
  cases e
  have e : (l.take k).length = k := by rw [List.length_take]; omega
  refine ⟨ao, c, by rw [e], by omega, h2, fun x hx => h3 x (List.mem_of_mem_take hx), fun hl => ?_⟩
  obtain ⟨b, off, e2, hb, hc⟩ := h4 (by omega)
  refine ⟨b, off, e2, hb, fun i hi => ?_⟩
  rw [List.getElem_take]
  exact hc i (by omega)
theorem str_of {w : World} {v : Value} {l : List UInt8} (h : Sl w v l) : (convert 42 9 v).run Try.prog w = .ok (.string ⟨l.toArray⟩) w := by
  rcases h.cases with ⟨rfl, ao, rfl⟩ | ⟨b, off, cap, rfl, h1, h2, hb, hc⟩
  · cases ao with
    | none => exact run_convert_bytes_nil w 42 5 Try.underlying42 Try.underlying5 0 0 9 Try.underlying9
    | some a => exact run_convert_bytes_back w 42 9 5 a 0 [] Try.underlying42 Try.underlying5 Try.underlying9 (fun j hj => by simp at hj)
  · exact run_convert_bytes_back w 42 9 5 ⟨b, off, none⟩ cap l Try.underlying42 Try.underlying5 Try.underlying9 (fun j hj => by rw [addr_add]; exact hc j hj)
theorem Sl.grownN {w w' : World} {v : Value} {l : List UInt8} (h : Sl w v l) (hg : w.grownBy w' none) : Sl w' v l := h.below (below_of_grown hg) (Nat.le_refl _)

/-- A row of bytes to be written over. -/
def WrB (B : Nat) (ao : Option Addr) (n : Nat) (W : World) : Prop := n ≠ 0 → ∃ g cur, ao = some ⟨g, 0, none⟩ ∧ B ≤ g ∧ W.heap[g]? = some (.cells cur 5 (0, 0)) ∧ n ≤ cur.size
theorem WrB.low {B B' : Nat} {ao : Option Addr} {n : Nat} {W : World} (h : WrB B ao n W) (hb : B' ≤ B) : WrB B' ao n W := fun hn => by
  obtain ⟨g, cur, e, h1, h2, h3⟩ := h hn
  exact ⟨g, cur, e, by omega, h2, h3⟩
theorem WrB.set {B : Nat} {ao : Option Addr} {n : Nat} {W : World} (h : WrB B ao n W) (g i : Nat) (v : Value) : WrB B ao n (W.setCell ⟨g, i, none⟩ v) := fun hn => by
  obtain ⟨g', cur, e, h1, h2, h3⟩ := h hn
  by_cases hg : g' = g
  · subst hg
    exact ⟨g', _, e, h1, heap_setCell_same W g' i cur _ v h2, by simpa using h3⟩
  · exact ⟨g', cur, e, h1, (Below.heap_setCell W ⟨g, i, none⟩ v g' hg).trans h2, h3⟩
theorem Own.wrB {w : World} {base cap : Nat} {v : Value} {ao : Option Addr} {l : List UInt8} (h : Own w base v l) (e : v = .slice ao l.length cap) : WrB base ao l.length w := fun h0 => by
  rcases h.2 with ⟨e2, h1⟩ | ⟨g, cap', cur, e2, hb, hg, h1, h2, h3, h4⟩
  · omega
  · rw [e] at e2
    cases e2
    exact ⟨g, cur, rfl, hb, hg, by omega⟩
set_option maxRecDepth 20000 in
set_option maxHeartbeats 4000000 in
theorem asked_any (w : World) (N b rb B : Nat) (v1 v2 : Value) (U V : Nat → Bool) (h : MapAt w b B U V) (hr : RmAt w N rb B v1 v2 U V) :
    Calls Try.prog 19 #[.pointer (some ⟨b, 0, none⟩), .pointer (some ⟨rb, 0, none⟩)] w fun e w' => e = .returned (.bool true) ∧ w.grownBy w' none := by
  have HM := hide h
  have HR := hide hr
  have hB := h.le
  have hrl := runs_len B U V hB
  have HSm := hide (runs_small B U V hB)
  obtain ⟨X, hX⟩ : ∃ X, X = runsOf B U V := ⟨_, rfl⟩
  have HX := hide hX
  rw [← hX] at hrl HSm
  clear h hr hX
  go_enter Try.func19, Try.ntmps19
  go_wp2_with fail
  refine (rAll_any w N rb B v1 v2 U V (unhide HR)).mono ?_
  rintro e w1 ⟨uw, rfl, o1, g1⟩
  rw [← unhide HX] at o1
  have O1 := hide o1
  have G1 := hide g1
  clear o1 g1
  go_wp2_with fail
  refine (listed_any w1 b B 600 U V ((unhide HM).grown (unhide G1) (by simp)) (by omega) (by omega)).mono ?_
  rintro e w2 ⟨u2, rfl, o2, g2⟩
  rw [← unhide HX, List.take_of_length_le (by omega)] at o2
  have O2 := hide o2
  have G2 := hide ((unhide G1).trans g2)
  have R12 := hide (grown_rn (unhide O1) g2 (unhide HSm))
  clear o2 g2
  go_wp2_with fail
  refine (SameRuns_any w2 u2 uw _ _ ((unhide O2).rn (unhide HSm)) (unhide R12)).mono ?_
  rintro e w3 ⟨rfl, g3⟩
  have hd3 : decide (X.map toI = X.map toI) = true := by simp
  have G3 := hide ((unhide G2).trans g3)
  have R3 := hide ((unhide R12).kept g3)
  clear g3 O2 R12 G2 G1 O1
  obtain ⟨wo, wcap, hwf, hw1, hw2⟩ : ∃ ao cap, uw = .slice ao (X.map toI).length cap ∧ (X.map toI).length ≤ cap ∧ cap ≤ 9223372036854775807 := by
    obtain ⟨ao, cap, e, h1, h2, _⟩ := unhide R3
    exact ⟨ao, cap, e, h1, h2⟩
  obtain ⟨n, hn⟩ : ∃ n, n = (X.map toI).length := ⟨_, rfl⟩
  have hnx : n ≤ 512 := by rw [hn, List.length_map]; exact hrl
  rw [← hn] at hwf hw1
  subst hwf
  have HN := hide hn
  have hki1 : Hid (1 ≤ n → Rn w3 (.slice wo 1 wcap) ((X.take 1).map toI)) := hide (fun h1 => by
    have h2 := (unhide R3).take 1 (by rw [← hn]; omega)
    rw [← List.map_take] at h2
    exact h2)
  have hki0 : Hid (n < 1 → Rn w3 (.slice wo n wcap) ((X.take 1).map toI)) := hide (fun h1 => by
    have e0 : X = [] := List.eq_nil_of_length_eq_zero (by rw [List.length_map] at hn; omega)
    have h2 := (unhide R3)
    subst e0
    simpa using h2)
  have G3d : Hid (w.grownBy w3.drew none) := hide ⟨(unhide G3).os, (unhide G3).tape, (unhide G3).output, (unhide G3).size, (unhide G3).block⟩
  have g3d : Hid (w3.grownBy w3.drew none) := hide ⟨rfl, rfl, rfl, Nat.le_refl _, fun _ _ _ => rfl⟩
  have HS1 : Hid (∀ x ∈ X.take 1, x.1 ≤ 512 ∧ x.2 ≤ 512) := hide (fun x hx => unhide HSm x (List.mem_of_mem_take hx))
  have LA : Hid (∀ W, w.grownBy W none → Calls Try.prog 31 #[.pointer (some ⟨b, 0, none⟩), .int .i64 1] W fun e w' => ∃ v, e = .returned v ∧ ROwn w' W.heap.size v (X.take 1) ∧ W.grownBy w' none) := hide (fun W hW => by
    rw [unhide HX]
    exact listed_any W b B 1 U V ((unhide HM).grown hW (by simp)) (by omega) (by omega))
  have hd4 : decide ((X.take 1).map toI = (X.take 1).map toI) = true := by simp
  have hnw : n ≤ wcap := hw1
  clear hn R3
  go_upto_region 3 with fail
  go_cut [7] from 17 to 24 (fun t wx => t = .bool true ∧ w.grownBy wx none)
  case first =>
    by_cases hm1 : (1 : Int) ≤ (n : Int)
    all_goals
      try have hwc : 1 ≤ wcap := by omega
      try have hwc2 : (1 : Int) ≤ (wcap : Int) := by omega
      go_region_law (first | (go_simp; go_wp2_with (first
        | (go_at_call 31; refine (unhide LA _ (unhide G3d)).mono ?_; rintro e w4 ⟨u4, rfl, o4, g4⟩; have O4 := hide o4; have G4 : Hid (w.grownBy w4 none) := hide ((unhide G3d).trans g4); have K4 : Hid (w3.grownBy w4 none) := hide ((unhide g3d).trans g4); clear o4 g4)
        | (go_at_call 10; refine (SameRuns_any w4 u4 _ _ ((X.take 1).map toI) ((unhide O4).rn (unhide HS1)) (by first | exact (unhide hki1 (by omega)).kept (unhide K4) | exact (unhide hki0 (by omega)).kept (unhide K4))).mono ?_; rintro e w5 ⟨rfl, g5⟩; have G5 : Hid (w.grownBy w5 none) := hide ((unhide G4).trans g5); clear g5)
        | fail)))
      all_goals go_wp2_with fail
      all_goals go_meet
      all_goals exact ⟨rfl, unhide G5⟩
  case rest =>
    obtain ⟨rfl, g5⟩ := hcut
    obtain ⟨w5, hw5⟩ : ∃ w5, w5 = wc := ⟨_, rfl⟩
    rw [← hw5] at g5 ⊢
    have G5 := hide g5
    clear hki1 hki0 G3d g3d LA HS1 G3 g5 hw5
    go_wp2_with fail
    refine (Bytes_any w5 b B U V ((unhide HM).grown (unhide G5) (by simp))).mono ?_
    rintro e w6 ⟨vb, rfl, o6, g6⟩
    have O6 := hide o6
    have G6 : Hid (w.grownBy w6 none) := hide ((unhide G5).trans g6)
    have Z6 : Hid (w.heap.size ≤ w5.heap.size) := hide (unhide G5).size
    obtain ⟨T, hT⟩ : ∃ T, T = tell B U := ⟨_, rfl⟩
    have HT := hide hT
    rw [← hT] at O6
    have s6 := str_of (w := w6.drew) (Own.sl (World.ownsRow.drew (unhide O6)))
    have RB : Hid (∀ W, w.grownBy W none → Calls Try.prog 32 #[.pointer (some ⟨rb, 0, none⟩)] W fun e w' => ∃ v, e = .returned v ∧ Own w' W.heap.size v T ∧ W.grownBy w' none) := hide (fun W hW => by rw [hT]; exact rBytes_any W N rb B v1 v2 U V ((unhide HR).grown hW))
    have G6d : Hid (w.grownBy w6.drew none) := hide ⟨(unhide G6).os, (unhide G6).tape, (unhide G6).output, (unhide G6).size, (unhide G6).block⟩
    clear hT o6 g6
    go_upto_region 5 with fail
    go_cut [9] from 27 to 32 (fun t wx => t = .bool true ∧ Own wx w5.heap.size vb T ∧ w.grownBy wx none)
    case first =>
      go_region_law (first | (go_simp; go_wp2_with (first
        | (go_at_call 32; refine (unhide RB _ (unhide G6d)).mono ?_; rintro e w7 ⟨v7, rfl, o7, g7⟩; have s7 := str_of (Own.sl o7); have O7 : Hid (Own w7 w5.heap.size vb T) := hide (Own.below (World.ownsRow.drew (unhide O6)) (below_of_grown g7) (Nat.le_refl _)); have s67 := str_of (Own.sl (unhide O7)); have G7 : Hid (w.grownBy w7 none) := hide ((unhide G6d).trans g7); clear o7 g7)
        | fail)))
      all_goals go_wp2_with fail
      all_goals go_meet
      all_goals exact ⟨rfl, unhide O7, unhide G7⟩
    case rest =>
      obtain ⟨rfl, o7, g7⟩ := hcut
      obtain ⟨w7, hw7⟩ : ∃ w7, w7 = wc := ⟨_, rfl⟩
      rw [← hw7] at o7 g7 ⊢
      have O7 := hide o7
      have G7 := hide g7
      obtain ⟨bo, bcap, hbf, hb1, hb2⟩ : ∃ ao cap, vb = .slice ao T.length cap ∧ T.length ≤ cap ∧ cap ≤ 9223372036854775807 := by
        obtain ⟨ao, cap, e, h1, h2, _⟩ := (unhide O7).sl
        exact ⟨ao, cap, e, h1, by unfold maxLen at h2; omega⟩
      obtain ⟨nb, hnb⟩ : ∃ n, n = T.length := ⟨_, rfl⟩
      have hnb2 : (nb : Int) ≤ 9223372036854775807 := by omega
      have W7 : Hid (WrB w.heap.size bo nb w7) := hide (by
        have h1 := (unhide O7).wrB hbf
        rw [← hnb] at h1
        exact h1.low (unhide Z6))
      rw [← hnb] at hbf hb1
      subst hbf
      clear s6 O7 O6 RB G6d hnb o7 g7 hw7
      go_wp2
      go_loopw [10] (fun i wr => ∃ j : Nat, i = .int .i64 (j : Int) ∧ j ≤ nb ∧ Hid (WrB w.heap.size bo nb wr) ∧ Hid (w.grownBy wr none)) (fun i _ => nb - (intOf i).toNat)
      case atStart => exact ⟨0, rfl, by omega, W7, G7⟩
      case round =>
        obtain ⟨j, rfl, hj, HW, HG⟩ := hrel
        have hji : (j : Int) ≤ 9223372036854775807 := by omega
        by_cases hlt : j < nb
        · have hlt' : (j : Int) < (nb : Int) := by omega
          have hidx : (0 : Int) ≤ (j : Int) ∧ (j : Int) < (nb : Int) := ⟨by omega, hlt'⟩
          obtain ⟨g, cur, rfl, hgB, hg, hgs⟩ := unhide HW (by omega)
          have cg : wr.cell? ⟨g, j, none⟩ = some (cur[j]'(by omega)) := by rw [cell_of_row _ _ _ _ _ _ hg]; simp
          have fg : ∀ i, wr.frozen? ⟨g, i, none⟩ = false := fun i => by simp [World.frozen?, hg]
          have HW2 := hide ((unhide HW).set g j (.int .u8 255))
          have HG2 : Hid (w.grownBy (wr.setCell ⟨g, j, none⟩ (.int .u8 255)) none) := hide (own_stepW (unhide HG) hgB (setCell_grown wr g j _))
          obtain ⟨y, hy⟩ : ∃ y, y = cur[j]'(by omega) := ⟨_, rfl⟩
          rw [← hy] at cg
          clear hg hgs hy
          go_wp2
          go_roundw
          case rel => exact ⟨j + 1, by go_num, by omega, HW2, HG2⟩
          case measure => simp [intOf]; omega
        · obtain rfl : j = nb := by omega
          have hlt' : ¬ (j : Int) < (j : Int) := by omega
          clear hj hlt
          obtain ⟨o1, p1, hv1, _⟩ := (unhide HR).now.form
          have r0 := ((unhide HR).grown (unhide HG)).c0
          rw [hv1] at r0
          have FA : Hid (∀ W, w.grownBy W none → Calls Try.prog 22 #[.pointer (some ⟨b, 0, none⟩)] W fun e w' => e = .returned (.int .i64 (total X : Int)) ∧ W.grownBy w' none) := hide (fun W hW => by rw [unhide HX]; exact Free_any W b B U V ((unhide HM).grown hW (by simp)))
          have RF : Hid (∀ W, w.grownBy W none → Calls Try.prog 26 #[.pointer (some ⟨rb, 0, none⟩)] W fun e w' => e = .returned (.int .i64 (total X : Int)) ∧ w' = W) := hide (fun W hW => by rw [unhide HX]; exact rFree_any W N rb B v1 v2 U V ((unhide HR).grown hW))
          have BA : Hid (∀ W, w.grownBy W none → Calls Try.prog 33 #[.pointer (some ⟨b, 0, none⟩)] W fun e w' => e = .returned (.int .i64 (B : Int)) ∧ w' = W) := hide (fun W hW => Blocks_any W b B U V ((unhide HM).grown hW (by simp)))
          have RC0 : Hid (∀ W, w.grownBy W none → W.cell? ⟨rb, 0, none⟩ = some (.slice o1 B p1)) := hide (fun W hW => by rw [← hv1]; exact ((unhide HR).grown hW).c0)
          have GD : Hid (w.grownBy wr.drew none) := hide ⟨(unhide HG).os, (unhide HG).tape, (unhide HG).output, (unhide HG).size, (unhide HG).block⟩
          obtain ⟨t, ht⟩ : ∃ t, t = total X := ⟨_, rfl⟩
          rw [← ht] at FA RF
          have htt : ((t : Int) == (t : Int)) = true := by simp
          have hbb : ((B : Int) == (B : Int)) = true := by simp
          clear ht HW hv1
          have S0 : Hid (w.grownBy wr.drew none ∧ wr.drew.cell? ⟨rb, 0, none⟩ = some (.slice o1 B p1)) := hide ⟨unhide GD, unhide RC0 _ (unhide GD)⟩
          go_wp2_with fail
          go_region_held3 (fun w' => w.grownBy w' none ∧ w'.cell? ⟨rb, 0, none⟩ = some (.slice o1 B p1))
            (first | exact unhide S0 | exact unhide S8)
            (first
            | (go_at_call 22; refine (unhide FA _ (unhide GD)).mono ?_; rintro e w8 ⟨rfl, g8⟩; have G8 : Hid (w.grownBy w8 none) := hide ((unhide GD).trans g8); have S8 : Hid (w.grownBy w8 none ∧ w8.cell? ⟨rb, 0, none⟩ = some (.slice o1 B p1)) := hide ⟨unhide G8, unhide RC0 w8 (unhide G8)⟩; clear g8)
            | (go_at_call 26; refine (unhide RF _ (unhide G8)).mono ?_; rintro e w9 ⟨rfl, rfl⟩)
            | (go_at_call 33; refine (unhide BA _ (unhide G8)).mono ?_; rintro e w9 ⟨rfl, rfl⟩))
          all_goals go_wp2
          all_goals go_ret
          all_goals exact ⟨rfl, unhide G8⟩

end Go.Proofs.Ytgdplmbchoogiaa

/-
  DERIVED. The plain mathematics of the checksum: the table's way and the document's way are one; a byte that is another one gives another sum.
-/
namespace Go.Proofs.Ytgdplmbchoogiaa

theorem xor_half (a b : Nat) : (a ^^^ b) / 2 = a / 2 ^^^ b / 2 := by
  have := Nat.shiftRight_xor_distrib (a := a) (b := b) (i := 1)
  simpa [Nat.shiftRight_eq_div_pow] using this
theorem xor_odd (a b : Nat) : (a ^^^ b) % 2 = (a % 2 + b % 2) % 2 := by
  have h := Nat.xor_mod_two_pow (a := a) (b := b) (n := 1)
  rw [show 2 ^ 1 = 2 from rfl] at h
  rw [h]
  rcases Nat.mod_two_eq_zero_or_one a with ha | ha <;> rcases Nat.mod_two_eq_zero_or_one b with hb | hb <;> rw [ha, hb] <;> rfl
theorem stp_eq (r : Nat) : stp r = r / 2 ^^^ (if r % 2 = 1 then 2197175160 else 0) := by
  unfold stp; split <;> simp
theorem stp_xor (a b : Nat) : stp (a ^^^ b) = stp a ^^^ stp b := by
  rw [stp_eq, stp_eq a, stp_eq b, xor_half, xor_odd]
  rcases Nat.mod_two_eq_zero_or_one a with ha | ha <;> rcases Nat.mod_two_eq_zero_or_one b with hb | hb <;> simp only [ha, hb]
  · simp
  · simp [Nat.xor_assoc]
  · have : ∀ x y p : Nat, x ^^^ y ^^^ p = x ^^^ p ^^^ y := by
      intro x y p
      rw [Nat.xor_assoc, Nat.xor_comm y p, ← Nat.xor_assoc]
    simp [this]
  · have : ∀ x y p : Nat, x ^^^ p ^^^ (y ^^^ p) = x ^^^ y := by
      intro x y p
      rw [Nat.xor_assoc, Nat.xor_comm y p, ← Nat.xor_assoc p p y, Nat.xor_self, Nat.zero_xor]
    simp [this]
theorem stp8_xor (a b : Nat) : stp8 (a ^^^ b) = stp8 a ^^^ stp8 b := by simp only [stp8, stp_xor]
theorem stp_even (z : Nat) : stp (2 * z) = z := by
  unfold stp; rw [if_neg (by omega)]; omega
theorem stp8_high (y : Nat) : stp8 (256 * y) = y := by
  have : 256 * y = 2 * (2 * (2 * (2 * (2 * (2 * (2 * (2 * y))))))) := by omega
  rw [this]; simp only [stp8, stp_even]
theorem split_byte (x : Nat) : x = 256 * (x / 256) ^^^ x % 256 := by
  have h := Nat.two_pow_add_eq_or_of_lt (i := 8) (show x % 256 < 2 ^ 8 from Nat.mod_lt _ (by decide)) (x / 256)
  have h2 : 2 ^ 8 * (x / 256) ^^^ x % 256 = 2 ^ 8 * (x / 256) ||| x % 256 := by
    apply Nat.eq_of_testBit_eq
    intro i
    rw [Nat.testBit_xor, Nat.testBit_or]
    by_cases hi : i < 8
    · have : (2 ^ 8 * (x / 256)).testBit i = false := by rw [Nat.testBit_two_pow_mul]; simp [show ¬ 8 ≤ i by omega]
      rw [this]; simp
    · have : (x % 256).testBit i = false := by
        rw [show 256 = 2 ^ 8 from rfl, Nat.testBit_mod_two_pow]; simp [hi]
      rw [this]; simp
  show x = 2 ^ 8 * (x / 256) ^^^ x % 256
  rw [h2, ← h]; omega
theorem stp8_split (x : Nat) : stp8 x = x / 256 ^^^ stp8 (x % 256) := by
  conv => lhs; rw [split_byte x]
  rw [stp8_xor, stp8_high]
theorem tab_at (k : Nat) (h : k < 256) : crcTab.getD k 0 = stp8 k := by
  rw [crcTab_eq, List.getD_eq_getElem?_getD, List.getElem?_map, List.getElem?_range h]; rfl
theorem xor_high (r c : Nat) (hc : c < 256) : (r ^^^ c) / 256 = r / 256 := by
  have := Nat.shiftRight_xor_distrib (a := r) (b := c) (i := 8)
  rw [Nat.shiftRight_eq_div_pow, Nat.shiftRight_eq_div_pow, Nat.shiftRight_eq_div_pow] at this
  have e : c / 2 ^ 8 = 0 := by omega
  rw [e, Nat.xor_zero] at this
  exact this
theorem xor_low (r c : Nat) (hc : c < 256) : (r ^^^ c) % 256 = (r % 256) ^^^ c := by
  have := Nat.xor_mod_two_pow (a := r) (b := c) (n := 8)
  rw [show 2 ^ 8 = 256 from rfl, Nat.mod_eq_of_lt hc] at this
  exact this
/-- The table's step is eight steps of the document's. -/
theorem crc_step (r : Nat) (c : UInt8) : (r / 256) ^^^ crcTab.getD ((r % 256) ^^^ c.toNat) 0 = stp8 (r ^^^ c.toNat) := by
  have hc := c.toNat_lt
  rw [tab_at _ (Nat.xor_lt_two_pow (n := 8) (by omega) hc), stp8_split (r ^^^ c.toNat), xor_high r _ hc, xor_low r _ hc]

def crcRR (r : Nat) (l : List UInt8) : Nat := l.foldl (fun r c => stp8 (r ^^^ c.toNat)) r
theorem crcR_eq (r : Nat) (l : List UInt8) : crcR r l = crcRR r l := by
  unfold crcR crcRR
  congr 1
  funext r c
  exact crc_step r c
theorem crcRR_snoc (r : Nat) (l : List UInt8) (c : UInt8) : crcRR r (l ++ [c]) = stp8 (crcRR r l ^^^ c.toNat) := by
  simp [crcRR, List.foldl_append]

theorem stp8_lt {r : Nat} (h : r < 4294967296) : stp8 r < 4294967296 := by
  unfold stp8
  exact stp_lt (stp_lt (stp_lt (stp_lt (stp_lt (stp_lt (stp_lt (stp_lt h)))))))
theorem crcRR_lt : ∀ (l : List UInt8) (r : Nat), r < 4294967296 → crcRR r l < 4294967296
  | [], r, h => h
  | c :: l, r, h => crcRR_lt l _ (stp8_lt (xor_lt32 h (by have := c.toNat_lt; omega)))

theorem xor_ne (a b P : Nat) (ha : a < 2147483648) (hb : b < 2147483648) (hP : 2147483648 ≤ P) : a ^^^ P ≠ b := by
  intro h
  have h1 : a ^^^ b < 2147483648 := Nat.xor_lt_two_pow (n := 31) ha hb
  have h2 : a ^^^ b = P := by rw [← h, ← Nat.xor_assoc, Nat.xor_self, Nat.zero_xor]
  omega
theorem xor_cancel {a b p : Nat} (h : a ^^^ p = b ^^^ p) : a = b := by
  have := congrArg (· ^^^ p) h
  simpa [Nat.xor_assoc] using this
theorem stp_inj {a b : Nat} (ha : a < 4294967296) (hb : b < 4294967296) (h : stp a = stp b) : a = b := by
  unfold stp at h
  by_cases h1 : a % 2 = 1 <;> by_cases h2 : b % 2 = 1
  · rw [if_pos h1, if_pos h2] at h
    have := xor_cancel h
    omega
  · rw [if_pos h1, if_neg h2] at h
    exact absurd h (xor_ne _ _ _ (by omega) (by omega) (by decide))
  · rw [if_neg h1, if_pos h2] at h
    exact absurd h.symm (xor_ne _ _ _ (by omega) (by omega) (by decide))
  · rw [if_neg h1, if_neg h2] at h
    omega
theorem stp8_inj {a b : Nat} (ha : a < 4294967296) (hb : b < 4294967296) (h : stp8 a = stp8 b) : a = b := by
  have l1 := stp_lt ha; have l2 := stp_lt l1; have l3 := stp_lt l2; have l4 := stp_lt l3; have l5 := stp_lt l4; have l6 := stp_lt l5; have l7 := stp_lt l6
  have m1 := stp_lt hb; have m2 := stp_lt m1; have m3 := stp_lt m2; have m4 := stp_lt m3; have m5 := stp_lt m4; have m6 := stp_lt m5; have m7 := stp_lt m6
  exact stp_inj ha hb (stp_inj l1 m1 (stp_inj l2 m2 (stp_inj l3 m3 (stp_inj l4 m4 (stp_inj l5 m5 (stp_inj l6 m6 (stp_inj l7 m7 h)))))))
theorem xor_byte_lt {r : Nat} (h : r < 4294967296) (c : UInt8) : r ^^^ c.toNat < 4294967296 := xor_lt32 h (by have := c.toNat_lt; omega)
theorem crcRR_inj : ∀ (l : List UInt8) {a b : Nat}, a < 4294967296 → b < 4294967296 → crcRR a l = crcRR b l → a = b
  | [], _, _, _, _, h => h
  | c :: l, a, b, ha, hb, h => by
    have := crcRR_inj l (stp8_lt (xor_byte_lt ha c)) (stp8_lt (xor_byte_lt hb c)) h
    exact xor_cancel (stp8_inj (xor_byte_lt ha c) (xor_byte_lt hb c) this)
theorem crcRR_byte (p q : List UInt8) {c c' : UInt8} (hc : c ≠ c') {r : Nat} (hr : r < 4294967296) : crcRR r (p ++ c :: q) ≠ crcRR r (p ++ c' :: q) := by
  intro h
  have e : ∀ x : UInt8, crcRR r (p ++ x :: q) = crcRR (stp8 (crcRR r p ^^^ x.toNat)) q := fun x => by simp [crcRR, List.foldl_append]
  rw [e, e] at h
  have hp := crcRR_lt p r hr
  have h1 := crcRR_inj q (stp8_lt (xor_byte_lt hp c)) (stp8_lt (xor_byte_lt hp c')) h
  have h2 := stp8_inj (xor_byte_lt hp c) (xor_byte_lt hp c') h1
  rw [Nat.xor_comm _ c.toNat, Nat.xor_comm _ c'.toNat] at h2
  exact hc (UInt8.toNat_inj.1 (xor_cancel h2))
/-- A byte that is another one gives another sum. -/
theorem crc_byte (p q : List UInt8) {c c' : UInt8} (hc : c ≠ c') : crc (p ++ c :: q) ≠ crc (p ++ c' :: q) := by
  unfold crc
  intro h
  have := xor_cancel h
  rw [crcR_eq, crcR_eq] at this
  exact crcRR_byte p q hc (by decide) this
theorem crc_set (l : List UInt8) (i : Nat) (hi : i < l.length) (c : UInt8) (hc : c ≠ l[i]) : crc (l.set i c) ≠ crc l := by
  have e1 : l = l.take i ++ l[i] :: l.drop (i + 1) := by rw [← List.drop_eq_getElem_cons hi, List.take_append_drop]
  have e2 : l.set i c = l.take i ++ c :: l.drop (i + 1) := by rw [List.set_eq_take_append_cons_drop, if_pos hi]
  rw [e2]
  conv => rhs; rw [e1]
  exact crc_byte _ _ hc
end Go.Proofs.Ytgdplmbchoogiaa

/-
  DERIVED. The plain mathematics of what is laid and read again: numbers, integers, four bytes, frames.
-/
namespace Go.Proofs.Ytgdplmbchoogiaa

theorem ofNat_toNat (c : UInt8) : UInt8.ofNat c.toNat = c := by simp
theorem pow_next (i : Nat) : 2 ^ (7 * (i + 1)) = 128 * 2 ^ (7 * i) := by rw [Nat.mul_add, Nat.pow_add]; omega

theorem rdGo_canon : ∀ (l : List UInt8) (i acc n k : Nat), i ≤ 10 → acc < 2 ^ (7 * i) → rdGo i acc l = (n, k, 0) →
    ∃ m, n = acc + m * 2 ^ (7 * i) ∧ i + 1 ≤ k ∧ l.take (k - i) = lay m ∧ (0 < i → m ≠ 0) ∧ (m < 18446744073709551616)
  | [], i, acc, n, k, hi, ha, h => by
    rw [rdGo] at h
    split at h <;> simp at h
  | c :: r, i, acc, n, k, hi, ha, h => by
    have hc := c.toNat_lt
    have hf := rdGo_facts (c :: r) i acc hi ha
    rw [h] at hf
    have hn : n < 18446744073709551616 := hf.1
    rw [rdGo] at h
    split at h
    · simp at h
    · split at h
      · rename_i h1 h2
        have hm : c.toNat % 128 < 128 := Nat.mod_lt _ (by decide)
        have h3 : c.toNat % 128 * 2 ^ (7 * i) ≤ 127 * 2 ^ (7 * i) := Nat.mul_le_mul_right _ (by omega)
        have e := pow_next i
        obtain ⟨m', e1, e2, e3, e4, e5⟩ := rdGo_canon r (i + 1) _ n k (by omega) (by omega) h
        have hm' := e4 (by omega)
        have e6 : n = acc + (c.toNat % 128 + 128 * m') * 2 ^ (7 * i) := by
          rw [e1, e, Nat.add_mul, Nat.mul_assoc, Nat.mul_left_comm m' 128]
          omega
        have hp : 0 < 2 ^ (7 * i) := Nat.two_pow_pos _
        have h7 : c.toNat % 128 + 128 * m' ≤ (c.toNat % 128 + 128 * m') * 2 ^ (7 * i) := Nat.le_mul_of_pos_right _ hp
        refine ⟨c.toNat % 128 + 128 * m', e6, by omega, ?_, fun _ => by omega, by omega⟩
        rw [lay_big (by omega) (by omega)]
        have q1 : (c.toNat % 128 + 128 * m') % 128 = c.toNat % 128 := by omega
        have q2 : (c.toNat % 128 + 128 * m') / 128 = m' := by omega
        have q3 : 128 + c.toNat % 128 = c.toNat := by omega
        rw [q1, q2, q3, ofNat_toNat]
        have q4 : k - i = (k - (i + 1)) + 1 := by omega
        rw [q4, List.take_succ_cons, e3]
      · split at h
        · simp at h
        · rename_i h1 h2 h3
          simp only [Prod.mk.injEq] at h
          obtain ⟨h4, h5, _⟩ := h
          have hp : 0 < 2 ^ (7 * i) := Nat.two_pow_pos _
          refine ⟨c.toNat, h4.symm, by omega, ?_, fun _ => by omega, by omega⟩
          rw [← h5, show i + 1 - i = 1 by omega, lay_small (by omega), ofNat_toNat]
          rfl
theorem rd_canon {l : List UInt8} {n k : Nat} (h : rd l = (n, k, 0)) : l.take k = lay n := by
  obtain ⟨m, e1, _, e3, _⟩ := rdGo_canon l 0 0 n k (by omega) (by decide) h
  simp at e1
  rw [e1]; exact e3

theorem rdGo_lay : ∀ (f m : Nat), m < 128 ^ (f + 1) → ∀ (i acc : Nat) (r : List UInt8), (0 < i → m ≠ 0) → m * 2 ^ (7 * i) < 18446744073709551616 → i ≤ 9 →
    rdGo i acc (lay m ++ r) = (acc + m * 2 ^ (7 * i), i + (lay m).length, 0) := by
  intro f
  induction f with
  | zero =>
    intro m hm i acc r h0 h1 hi
    have hm : m < 128 := by simpa using hm
    rw [lay_small hm]
    have hb : (UInt8.ofNat m).toNat = m := by simp only [UInt8.toNat_ofNat']; omega
    show rdGo i acc (UInt8.ofNat m :: r) = _
    rw [rdGo, hb, if_neg (by omega), if_neg (by omega), if_neg ?_]
    · rfl
    · intro h
      rcases h with ⟨a, b⟩ | ⟨a, b⟩
      · exact h0 a b
      · subst a
        have : 2 * 2 ^ (7 * 9) ≤ m * 2 ^ (7 * 9) := Nat.mul_le_mul_right _ (by omega)
        have e : 2 * 2 ^ (7 * 9) = 18446744073709551616 := by decide
        omega
  | succ f ih =>
    intro m hm i acc r h0 h1 hi
    by_cases hs : m < 128
    · exact ih m (by have : 128 ≤ 128 ^ (f + 1) := Nat.le_self_pow (by omega) 128; omega) i acc r h0 h1 hi
    · have hp : 0 < 2 ^ (7 * i) := Nat.two_pow_pos _
      have hml : m ≤ m * 2 ^ (7 * i) := Nat.le_mul_of_pos_right _ hp
      rw [lay_big (by omega) (by omega)]
      have hb : (UInt8.ofNat (128 + m % 128)).toNat = 128 + m % 128 := by simp only [UInt8.toNat_ofNat']; omega
      show rdGo i acc (UInt8.ofNat (128 + m % 128) :: (lay (m / 128) ++ r)) = _
      have e := pow_next i
      have key : (m / 128) * 2 ^ (7 * (i + 1)) + m % 128 * 2 ^ (7 * i) = m * 2 ^ (7 * i) := by
        rw [e, ← Nat.mul_assoc, ← Nat.add_mul]
        congr 1
        omega
      have hi8 : i ≤ 8 := by
        by_cases h9 : i = 9
        · subst h9
          have : 128 * 2 ^ (7 * 9) ≤ m * 2 ^ (7 * 9) := Nat.mul_le_mul_right _ (by omega)
          have e : 128 * 2 ^ (7 * 9) = 1180591620717411303424 := by decide
          omega
        · omega
      rw [rdGo, hb, if_neg (by omega), if_pos (by omega), show (128 + m % 128) % 128 = m % 128 by omega,
        ih (m / 128) (by rw [Nat.pow_succ] at hm; omega) (i + 1) _ r (fun _ => by omega) (by omega) (by omega)]
      simp only [Prod.mk.injEq, List.length_cons, and_true]
      omega
theorem rd_lay (n : Nat) (hn : n < 18446744073709551616) (r : List UInt8) : rd (lay n ++ r) = (n, (lay n).length, 0) := by
  have := rdGo_lay 9 n (by have : 18446744073709551616 < 128 ^ (9 + 1) := by decide
                           omega) 0 0 r (fun h => by omega) (by simpa using hn) (by omega)
  simpa [rd] using this
theorem lay_inj {a b : Nat} (ha : a < 18446744073709551616) (hb : b < 18446744073709551616) (h : lay a = lay b) : a = b := by
  have h1 := rd_lay a ha []
  rw [h, rd_lay b hb []] at h1
  simp only [Prod.mk.injEq] at h1
  exact h1.1.symm
theorem unz_zig (n : Int) : unz (zig n) = n := by
  unfold unz zig
  by_cases h : n < 0
  · rw [if_pos h, if_pos (by omega)]; omega
  · rw [if_neg h, if_neg (by omega)]; omega
theorem zig_lt (n : Int) (h : -9223372036854775808 ≤ n) (h2 : n ≤ 9223372036854775807) : zig n < 18446744073709551616 := by
  unfold zig; split <;> omega

theorem rd4_le4 (n : Nat) (hn : n < 4294967296) (r : List UInt8) : rd4 (le4 n ++ r) = n := by
  show (UInt8.ofNat n).toNat + 256 * (UInt8.ofNat (n / 256)).toNat + 65536 * (UInt8.ofNat (n / 65536)).toNat + 16777216 * (UInt8.ofNat (n / 16777216)).toNat = n
  simp only [UInt8.toNat_ofNat']
  omega
theorem le4_rd4 : ∀ (l : List UInt8), 4 ≤ l.length → l.take 4 = le4 (rd4 l)
  | a :: b :: c :: d :: r, _ => by
    have h0 := a.toNat_lt
    have h1 := b.toNat_lt
    have h2 := c.toNat_lt
    have h3 := d.toNat_lt
    have e : ∀ (x : UInt8) (n : Nat), n % 256 = x.toNat → UInt8.ofNat n = x := fun x n h => by
      apply UInt8.toNat_inj.1
      simp only [UInt8.toNat_ofNat']
      omega
    simp only [rd4, le4, List.take_succ_cons, List.take_zero, List.cons.injEq, and_true]
    refine ⟨(e a _ (by omega)).symm, (e b _ (by omega)).symm, (e c _ (by omega)).symm, (e d _ (by omega)).symm⟩
  | [], h => by simp at h
  | [_], h => by simp at h
  | [_, _], h => by simp at h
  | [_, _, _], h => by simp at h

theorem pc_zero {l : List UInt8} {most : Int} (h : pcE l most = 0) : ∃ n k, rd l = (n, k, 0) ∧ (n : Int) ≤ most ∧ k + n ≤ l.length ∧ pcK l most = k + n ∧ pcD l most = (l.drop k).take n := by
  have hf := rd_facts l
  have h' := h
  unfold pcE at h'
  obtain ⟨n, k, e, hr⟩ : ∃ n k e, rd l = (n, k, e) := ⟨_, _, _, rfl⟩
  have hK : pcK l most = (rd l).2.1 + (rd l).1 := by unfold pcK; rw [if_pos h]
  have hD : pcD l most = (l.drop (rd l).2.1).take (rd l).1 := by unfold pcD; rw [if_pos h]
  rw [hr] at h' hf hK hD
  simp only at h' hf hK hD
  by_cases h0 : e = 0
  · subst h0
    rw [if_neg (by simp)] at h'
    by_cases h1 : most < 0 ∨ most < n
    · rw [if_pos h1] at h'; cases h'
    · rw [if_neg h1] at h'
      by_cases h2 : l.length - k < n
      · rw [if_pos h2] at h'; cases h'
      · have := hf.2.2.2 rfl
        exact ⟨n, k, hr, by omega, by omega, hK, hD⟩
  · rw [if_pos h0] at h'; exact absurd h' h0

/-- What is read as a frame is laid as that frame. -/
theorem fr_canon {l : List UInt8} (h : frE l = 0) : l.take (frK l) = frLay (frKind l) (frD l) ∧ frK l ≤ l.length ∧ (frD l).length ≤ 2000 := by
  have hK : frK l = 5 + pcK (l.drop 5) 2000 := by unfold frK; rw [if_pos h]
  have hD : frD l = pcD (l.drop 5) 2000 := by unfold frD; rw [if_pos h]
  have hk : frKind l = l.getD 4 0 := by unfold frKind; rw [if_pos h]
  unfold frE at h
  by_cases h1 : l.length < 5
  · rw [if_pos h1] at h; cases h
  · rw [if_neg h1] at h
    by_cases h2 : pcE (l.drop 5) 2000 = 0
    · rw [if_neg (by simpa using h2)] at h
      by_cases h3 : rd4 l = crc ((l.drop 4).take (1 + pcK (l.drop 5) 2000))
      · obtain ⟨n, k, hr, hn, hkn, eK, eD⟩ := pc_zero h2
        have hc := rd_canon hr
        rw [eK] at hK h3
        rw [eD] at hD
        simp only [List.length_drop] at hkn
        have hDl : (frD l).length = n := by rw [hD]; simp; omega
        have e4 : l.drop 4 = l.getD 4 0 :: l.drop 5 := by
          rw [List.drop_eq_getElem_cons (by omega), List.getD_eq_getElem?_getD, List.getElem?_eq_getElem (by omega)]; rfl
        have hbody : (l.drop 4).take (1 + (k + n)) = frBody (frKind l) (frD l) := by
          rw [e4, Nat.add_comm 1, List.take_succ_cons, frBody, hDl, ← hk, List.take_add, hc, hD]
          rfl
        refine ⟨?_, by omega, by omega⟩
        rw [hK, show 5 + (k + n) = 4 + (1 + (k + n)) by omega, List.take_add, le4_rd4 l (by omega), h3, hbody]
        rfl
      · rw [if_pos h3] at h; cases h
    · rw [if_pos h2] at h; exact absurd h h2

/-- What is laid as a frame is read as that frame, whatever stands behind it. -/
theorem fr_back (kind : UInt8) (d r : List UInt8) (hd : d.length ≤ 2000) : frE (frLay kind d ++ r) = 0 ∧ frK (frLay kind d ++ r) = (frLay kind d).length ∧ frKind (frLay kind d ++ r) = kind ∧ frD (frLay kind d ++ r) = d := by
  have hl := lay_len d.length
  have e5 : (frLay kind d ++ r).drop 5 = lay d.length ++ (d ++ r) := by
    simp [frLay, le4, frBody]
  have e4 : (frLay kind d ++ r).drop 4 = frBody kind d ++ r := by simp [frLay, le4]
  have hr : rd (lay d.length ++ (d ++ r)) = (d.length, (lay d.length).length, 0) := rd_lay _ (by omega) _
  have hE : pcE (lay d.length ++ (d ++ r)) 2000 = 0 := by
    unfold pcE
    rw [hr]
    simp only
    rw [if_neg (by simp), if_neg (by omega), if_neg (by simp only [List.length_append]; omega)]
  have hK : pcK (lay d.length ++ (d ++ r)) 2000 = (lay d.length).length + d.length := by unfold pcK; rw [if_pos hE, hr]
  have hD : pcD (lay d.length ++ (d ++ r)) 2000 = d := by unfold pcD; rw [if_pos hE, hr]; simp
  have hb : (frBody kind d).length = 1 + ((lay d.length).length + d.length) := by simp [frBody]; omega
  have hln : (frLay kind d).length = 5 + ((lay d.length).length + d.length) := by simp [frLay, le4, hb]; omega
  have h0 : frE (frLay kind d ++ r) = 0 := by
    unfold frE
    rw [e5, e4, hE, hK, if_neg (by simp only [List.length_append]; omega), if_neg (by simp), if_neg]
    rw [← hb, List.take_left]
    have : rd4 (frLay kind d ++ r) = crc (frBody kind d) := by
      unfold frLay
      rw [List.append_assoc]
      exact rd4_le4 _ (crc_lt _) _
    rw [this]; simp
  refine ⟨h0, ?_, ?_, ?_⟩
  · unfold frK; rw [if_pos h0, e5, hK, hln]
  · unfold frKind; rw [if_pos h0]; simp [frLay, le4, frBody]
  · unfold frD; rw [if_pos h0, e5, hD]
end Go.Proofs.Ytgdplmbchoogiaa

/-
  DERIVED. The plain mathematics of the document's way to read a number.
-/
namespace Go.Proofs.Ytgdplmbchoogiaa

def valr : List UInt8 → Nat
  | [] => 0
  | c :: r => c.toNat % 128 + 128 * valr r
theorem valr_snoc : ∀ (p : List UInt8) (c : UInt8), valr (p ++ [c]) = valr p + c.toNat % 128 * 2 ^ (7 * p.length)
  | [], c => by simp [valr]
  | a :: p, c => by
    have e : 2 ^ (7 * (p.length + 1)) = 128 * 2 ^ (7 * p.length) := by rw [Nat.mul_add, Nat.pow_add]; omega
    rw [List.cons_append, valr, valr, valr_snoc p c, List.length_cons, e, Nat.mul_add, Nat.mul_left_comm]
    omega
theorem valr_lt : ∀ (p : List UInt8), valr p < 2 ^ (7 * p.length)
  | [] => by simp [valr]
  | a :: p => by
    have e : 2 ^ (7 * (p.length + 1)) = 128 * 2 ^ (7 * p.length) := by rw [Nat.mul_add, Nat.pow_add]; omega
    have h := valr_lt p
    have hm : a.toNat % 128 < 128 := Nat.mod_lt _ (by decide)
    simp only [valr, List.length_cons, e]
    omega

theorem layF_len_eq : ∀ (k f n : Nat), k ≤ f → n < 128 ^ (k + 1) → (k = 0 ∨ 128 ^ k ≤ n) → (layF f n).length = k + 1
  | 0, 0, n, _, _, _ => by simp [layF]
  | 0, f + 1, n, _, h, _ => by simp only [layF]; rw [if_pos (by simpa using h)]; rfl
  | k + 1, 0, n, h, _, _ => by omega
  | k + 1, f + 1, n, hk, h, h2 => by
    have h3 : 128 ^ (k + 1) ≤ n := by omega
    have h4 : 128 ^ k * 128 ≤ n := by rw [← Nat.pow_succ]; exact h3
    have h5 : 1 ≤ 128 ^ k := Nat.pow_pos (by decide)
    simp only [layF]
    rw [if_neg (by omega), List.length_cons, layF_len_eq k f (n / 128) (by omega) (by rw [Nat.pow_succ] at h; omega) (by right; omega)]
theorem layF_len_le : ∀ (k f n : Nat), n < 128 ^ (k + 1) → (layF f n).length ≤ k + 1
  | _, 0, n, _ => by simp [layF]
  | 0, f + 1, n, h => by simp only [layF]; rw [if_pos (by simpa using h)]; simp
  | k + 1, f + 1, n, h => by
    simp only [layF]
    split
    · simp
    · have := layF_len_le k f (n / 128) (by rw [Nat.pow_succ] at h; omega)
      simp only [List.length_cons]; omega

theorem take_snoc' (l : List UInt8) (k : Nat) (h : k < l.length) : l.take (k + 1) = l.take k ++ [l[k]] := List.take_succ_eq_append_getElem h

theorem pow7 (k : Nat) : 2 ^ (7 * k) = 128 ^ k := by rw [Nat.pow_mul]

/-- The document's way to read a number is that of rd. -/
theorem ref_uint (l : List UInt8) (k : Nat) (c : UInt8) (hk : k ≤ 9) (hl : k < l.length) (hc : c = l[k]) (h1 : c.toNat < 128) (h : rd l = rdGo k (valr (l.take k)) (l.drop k)) :
    ((lay (valr (l.take (k + 1)) % 18446744073709551616)).length ≠ k + 1 ∨ (k = 9 ∧ 1 < c.toNat) → rd l = (0, 0, 11)) ∧
    (¬ ((lay (valr (l.take (k + 1)) % 18446744073709551616)).length ≠ k + 1 ∨ (k = 9 ∧ 1 < c.toNat)) → rd l = (valr (l.take (k + 1)) % 18446744073709551616, k + 1, 0)) := by
  have hlt : (l.take k).length = k := by simp; omega
  have ev : valr (l.take (k + 1)) = valr (l.take k) + c.toNat * 2 ^ (7 * k) := by
    rw [take_snoc' l k hl, ← hc, valr_snoc, hlt, Nat.mod_eq_of_lt h1]
  have hv := valr_lt (l.take k)
  rw [hlt] at hv
  rw [List.drop_eq_getElem_cons hl, ← hc, rdGo, if_neg (by omega), if_neg (by omega)] at h
  generalize valr (l.take k) = x at *
  generalize hV : valr (l.take (k + 1)) = V at *
  by_cases h9 : k = 9 ∧ 1 < c.toNat
  · rw [if_pos (.inr h9)] at h
    exact ⟨fun _ => h, fun h' => absurd (.inr h9) h'⟩
  · have hVb : V < 18446744073709551616 := by
      by_cases hk9 : k = 9
      · subst hk9
        have : c.toNat * 2 ^ (7 * 9) ≤ 1 * 2 ^ (7 * 9) := Nat.mul_le_mul_right _ (by omega)
        omega
      · have hp : 2 ^ (7 * k) ≤ 2 ^ 56 := Nat.pow_le_pow_right (by decide) (by omega)
        have : c.toNat * 2 ^ (7 * k) ≤ 127 * 2 ^ 56 := Nat.mul_le_mul (by omega) hp
        omega
    rw [Nat.mod_eq_of_lt hVb]
    by_cases h0 : 0 < k ∧ c.toNat = 0
    · rw [if_pos (.inl h0)] at h
      refine ⟨fun _ => h, fun h' => absurd (.inl ?_) h'⟩
      obtain ⟨j, rfl⟩ : ∃ j, k = j + 1 := ⟨k - 1, by omega⟩
      have : V < 128 ^ (j + 1) := by rw [← pow7, ev, h0.2]; simpa using hv
      have := layF_len_le j 9 V this
      show (layF 9 V).length ≠ _
      omega
    · rw [if_neg (by omega)] at h
      have hb : V < 128 ^ (k + 1) := by
        rw [← pow7, Nat.mul_add, Nat.pow_add, ev]
        have : c.toNat * 2 ^ (7 * k) ≤ 127 * 2 ^ (7 * k) := Nat.mul_le_mul_right _ (by omega)
        omega
      have hll : (lay V).length = k + 1 := layF_len_eq k 9 V hk hb (by
        by_cases hk0 : k = 0
        · exact .inl hk0
        · right
          rw [← pow7, ev]
          have : 1 * 2 ^ (7 * k) ≤ c.toNat * 2 ^ (7 * k) := Nat.mul_le_mul_right _ (by omega)
          omega)
      refine ⟨fun h' => ?_, fun _ => by rw [h, ev]⟩
      rcases h' with h' | h'
      · exact absurd hll h'
      · exact absurd h' h9
theorem valr_drop (l : List UInt8) (n i : Nat) (hi : i < n) (hn : n ≤ l.length) : valr ((l.take n).drop i) = (l[i]'(by omega)).toNat % 128 + 128 * valr ((l.take n).drop (i + 1)) := by
  rw [List.drop_eq_getElem_cons (by simp; omega), valr]
  simp
end Go.Proofs.Ytgdplmbchoogiaa

/-
  DERIVED. The walks of Uint and Int.
-/
namespace Go.Proofs.Ytgdplmbchoogiaa
open Go.RowKit

theorem ret3 {k1 k2 k3 : IntKind} {a a' b b' c c' : Int} (h1 : a = a') (h2 : b = b') (h3 : c = c') : Ending.returned (.tuple #[.int k1 a, .int k2 b, .int k3 c]) = .returned (.tuple #[.int k1 a', .int k2 b', .int k3 c']) := by rw [h1, h2, h3]

theorem and127 (c : UInt8) : bits BinOp.and IntKind.u8 (c.toNat : Int) 127 = ((c.toNat % 128 : Nat) : Int) :=
  beq_iff_eq.1 (byte_all (fun k => bits BinOp.and IntKind.u8 (k : Int) 127 == ((k % 128 : Nat) : Int)) (by decide +kernel) c.toNat c.toNat_lt)

theorem pow_bd (k m : Nat) (hk : k ≤ 8) (hm : m < 128) : m * 2 ^ (7 * k) < 9223372036854775808 := by
  have h : 2 ^ (7 * k) ≤ 2 ^ 56 := Nat.pow_le_pow_right (by decide) (by omega)
  have h2 : m * 2 ^ (7 * k) ≤ 127 * 2 ^ 56 := Nat.mul_le_mul (by omega) h
  omega
theorem pow_bd9 (k m : Nat) (hk : k ≤ 9) (hm : m ≤ 1) : m * 2 ^ (7 * k) ≤ 9223372036854775808 := by
  have h : 2 ^ (7 * k) ≤ 2 ^ 63 := Nat.pow_le_pow_right (by decide) (by omega)
  have h2 : m * 2 ^ (7 * k) ≤ 1 * 2 ^ 63 := Nat.mul_le_mul (by omega) h
  omega
theorem pow9 (k : Nat) (hk : k ≤ 9) : 2 ^ (7 * k) ≤ 9223372036854775808 := Nat.pow_le_pow_right (by decide) (by omega : 7 * k ≤ 63)

theorem orv (k x : Nat) (c : UInt8) (hk : k ≤ 9) (hx : x < 2 ^ (7 * k)) (h : k ≤ 8 ∨ c.toNat ≤ 1) :
    bits BinOp.or IntKind.u64 (x : Int) (IntKind.u64.wrap (IntKind.u64.wrap (bits BinOp.and IntKind.u8 (c.toNat : Int) 127) * 2 ^ (7 * k))) = ((x + c.toNat % 128 * 2 ^ (7 * k) : Nat) : Int) := by
  have hp := pow9 k hk
  have hm : c.toNat % 128 < 128 := Nat.mod_lt _ (by decide)
  have hb : c.toNat % 128 * 2 ^ (7 * k) ≤ 9223372036854775808 := by
    rcases h with h | h
    · have := pow_bd k _ h hm; omega
    · exact pow_bd9 k _ hk (by omega)
  rw [and127]
  have e1 : IntKind.u64.wrap ((c.toNat % 128 : Nat) : Int) = ((c.toNat % 128 : Nat) : Int) := by rw [IntKind.wrap_u64]; omega
  have e2 : ((c.toNat % 128 : Nat) : Int) * 2 ^ (7 * k) = ((c.toNat % 128 * 2 ^ (7 * k) : Nat) : Int) := by rw [Int.natCast_mul, Int.natCast_pow]; rfl
  rw [e1, e2]
  have e3 : IntKind.u64.wrap ((c.toNat % 128 * 2 ^ (7 * k) : Nat) : Int) = ((c.toNat % 128 * 2 ^ (7 * k) : Nat) : Int) := by rw [IntKind.wrap_u64]; omega
  rw [e3, bits_or_u64_nat _ _ (by omega) (by omega)]
  have := Nat.two_pow_add_eq_or_of_lt hx (c.toNat % 128)
  rw [Nat.or_comm, Nat.mul_comm (c.toNat % 128), ← this, Nat.add_comm]

theorem orv_any (x y : Int) : ∃ n : Nat, n ≤ 18446744073709551615 ∧ bits BinOp.or IntKind.u64 x y = (n : Int) := by
  have h1 := bits_lo_u64 .or x y
  have h2 := bits_hi_u64 .or x y
  exact ⟨(bits BinOp.or IntKind.u64 x y).toNat, by omega, by omega⟩

theorem drop_at {l : List UInt8} {k : Nat} (h : k < l.length) : l.drop k = l[k] :: l.drop (k + 1) := List.drop_eq_getElem_cons h

theorem acc_next (k x m : Nat) (hx : x < 2 ^ (7 * k)) (hm : m < 128) : x + m * 2 ^ (7 * k) < 2 ^ (7 * (k + 1)) := by
  have e : 2 ^ (7 * (k + 1)) = 128 * 2 ^ (7 * k) := by rw [Nat.mul_add, Nat.pow_add]; omega
  have h2 : m * 2 ^ (7 * k) ≤ 127 * 2 ^ (7 * k) := Nat.mul_le_mul_right _ (by omega)
  omega

theorem rd_next {l : List UInt8} {k x : Nat} {c : UInt8} (hk : k < 10) (hl : k < l.length) (hc : c = l[k]) (h : rd l = rdGo k x (l.drop k)) (h1 : 128 ≤ c.toNat) : rd l = rdGo (k + 1) (x + c.toNat % 128 * 2 ^ (7 * k)) (l.drop (k + 1)) := by
  rw [h, drop_at hl, ← hc, rdGo, if_neg (by omega), if_pos h1]
theorem rd_bad {l : List UInt8} {k x : Nat} {c : UInt8} (hk : k < 10) (hl : k < l.length) (hc : c = l[k]) (h : rd l = rdGo k x (l.drop k)) (h1 : c.toNat < 128) (h2 : (0 < k ∧ c.toNat = 0) ∨ (k = 9 ∧ 1 < c.toNat)) : rd l = (0, 0, 11) := by
  rw [h, drop_at hl, ← hc, rdGo, if_neg (by omega), if_neg (by omega), if_pos h2]
theorem rd_good {l : List UInt8} {k x : Nat} {c : UInt8} (hk : k < 10) (hl : k < l.length) (hc : c = l[k]) (h : rd l = rdGo k x (l.drop k)) (h1 : c.toNat < 128) (h2 : ¬ ((0 < k ∧ c.toNat = 0) ∨ (k = 9 ∧ 1 < c.toNat))) : rd l = (x + c.toNat % 128 * 2 ^ (7 * k), k + 1, 0) := by
  rw [h, drop_at hl, ← hc, rdGo, if_neg (by omega), if_neg (by omega), if_neg h2, Nat.mod_eq_of_lt h1]
theorem rd_end {l : List UInt8} {k x : Nat} (h : rd l = rdGo k x (l.drop k)) (hk : ¬ (k < 10 ∧ k < l.length)) (hk1 : k ≤ 10) (hk2 : k ≤ l.length) : rd l = (0, 0, if l.length < 10 then 10 else 11) := by
  rw [h]
  by_cases h1 : k < l.length
  · have : k = 10 := by omega
    subst this
    rw [drop_at h1, rdGo, if_pos (by omega), if_neg (by omega)]
  · rw [List.drop_eq_nil_of_le (by omega), rdGo]
    by_cases h2 : k < 10
    · rw [if_pos h2, if_pos (by omega)]
    · rw [if_neg h2, if_neg (by omega)]

set_option maxHeartbeats 2000000 in
set_option maxRecDepth 100000 in
theorem Uint_some (b off cap : Nat) (l : List UInt8) (w : World) (_h1 : l.length ≤ cap) (_h2 : cap ≤ 9223372036854775807)
    (hc : ∀ i, (h : i < l.length) → w.cell? ⟨b, off + i, none⟩ = some (bv l[i])) :
    Calls Try.prog 34 #[.slice (some ⟨b, off, none⟩) l.length cap] w fun e w' => e = .returned (.tuple #[.int .u64 (rd l).1, .int .i64 (rd l).2.1, .int .i64 (rd l).2.2]) ∧ w = w' := by
  go_enter Try.func34, Try.ntmps34
  go_wp2
  all_goals
    go_loop [5, 11] (fun n i => ∃ k x acc : Nat, k ≤ 10 ∧ k ≤ l.length ∧ i = .int .i64 k ∧ n = .int .u64 x ∧ x ≤ 18446744073709551615 ∧ (k ≤ 9 → x = acc) ∧ Hid (acc < 2 ^ (7 * k)) ∧ Hid (rd l = rdGo k acc (l.drop k))) (fun _ i => 10 - (intOf i).toNat)
    case atStart => exact ⟨0, 0, 0, by omega, by omega, rfl, rfl, by omega, fun _ => rfl, hide (by decide), hide rfl⟩
    case round =>
      obtain ⟨k, x, acc, hk1, hk2, rfl, rfl, hx, hxa, hacc, HR⟩ := hrel
      by_cases hk : k < 10 ∧ k < l.length
      · obtain ⟨hk3, hk4⟩ := hk
        obtain rfl := hxa (by omega)
        have hcx := hc k hk4
        obtain ⟨c, hcc⟩ : ∃ c, c = l[k] := ⟨_, rfl⟩
        rw [← hcc] at hcx
        have Hcc := hide hcc
        clear hcc hc hxa
        by_cases hA : 128 ≤ c.toNat
        · go_wp2
          go_round
          case rel =>
            by_cases h8 : k ≤ 8
            · exact ⟨k + 1, x + c.toNat % 128 * 2 ^ (7 * k), _, by omega, by omega, by go_num, by rw [orv k x c (by omega) (unhide hacc) (.inl h8)], by have := pow_bd k _ h8 (Nat.mod_lt c.toNat (by decide : 128 > 0)); have := pow9 k (by omega); have := unhide hacc; omega, fun _ => rfl, hide (acc_next k x _ (unhide hacc) (Nat.mod_lt _ (by decide))), hide (rd_next hk3 hk4 (unhide Hcc) (unhide HR) hA)⟩
            · obtain ⟨n, hn, en⟩ := orv_any (x : Int) (IntKind.u64.wrap (IntKind.u64.wrap (bits BinOp.and IntKind.u8 (c.toNat : Int) 127) * 2 ^ (7 * k)))
              exact ⟨k + 1, n, _, by omega, by omega, by go_num, by rw [en], hn, fun h => by omega, hide (acc_next k x _ (unhide hacc) (Nat.mod_lt _ (by decide))), hide (rd_next hk3 hk4 (unhide Hcc) (unhide HR) hA)⟩
          case measure => simp [intOf]; omega
        · by_cases hB : (0 < k ∧ c.toNat = 0) ∨ (k = 9 ∧ 1 < c.toNat)
          · have hrd := rd_bad hk3 hk4 (unhide Hcc) (unhide HR) (by omega) hB
            have HF : Hid (rd l = (0, 0, 11)) := hide hrd
            clear hrd
            go_wp2
            all_goals first | (exfalso; omega) | skip
            all_goals
              go_ret3
              rw [unhide HF]
              exact ⟨rfl, rfl⟩
          · have HF : Hid (rd l = (x + c.toNat % 128 * 2 ^ (7 * k), k + 1, 0)) := hide (rd_good hk3 hk4 (unhide Hcc) (unhide HR) (by omega) hB)
            have HO : Hid (bits BinOp.or IntKind.u64 (x : Int) (IntKind.u64.wrap (IntKind.u64.wrap (bits BinOp.and IntKind.u8 (c.toNat : Int) 127) * 2 ^ (7 * k))) = ((x + c.toNat % 128 * 2 ^ (7 * k) : Nat) : Int)) := hide (orv k x c (by omega) (unhide hacc) (by omega))
            rcases (show k < 1 ∨ (1 ≤ k ∧ 1 ≤ c.toNat ∧ k ≤ 8) ∨ (1 ≤ k ∧ 1 ≤ c.toNat ∧ 9 ≤ k ∧ c.toNat ≤ 1) from by omega) with hG | ⟨hG1, hG2, hG3⟩ | ⟨hG1, hG2, hG3, hG4⟩
            rotate_left
            all_goals try have hb0 : ((c.toNat : Int) == 0) = false := beq_eq_false_iff_ne.2 (by omega)
            all_goals
              clear hB hx
              go_wp2
              go_ret3
              rw [unhide HF]
              exact ⟨ret3 (unhide HO) (by show _ = ((k + 1 : Nat) : Int); omega) rfl, rfl⟩
      · have HF := hide (rd_end (unhide HR) hk hk1 hk2)
        by_cases hA : k < l.length
        all_goals go_wp2
        all_goals
          go_ret3
          rw [unhide HF]
          exact ⟨ret3 rfl rfl (by show _ = ((if l.length < 10 then 10 else 11 : Nat) : Int); split <;> omega), rfl⟩

theorem Uint_any (v : Value) (l : List UInt8) (w : World) (hv : Sl w v l) :
    Calls Try.prog 34 #[v] w fun e w' => e = .returned (.tuple #[.int .u64 (rd l).1, .int .i64 (rd l).2.1, .int .i64 (rd l).2.2]) ∧ w = w' := by
  rcases hv.cases with ⟨rfl, ao, rfl⟩ | ⟨b, off, cap, rfl, h1, h2, h3, hc⟩
  rotate_left
  · exact Uint_some b off cap l w h1 h2 hc
  · go_enter Try.func34, Try.ntmps34
    go_wp2
    refine wp_loop_rounds 1 ?_
    rw [rounds_succ]
    go_wp2
    go_ret3
    exact ⟨rfl, rfl⟩
end Go.Proofs.Ytgdplmbchoogiaa

/-
  DERIVED. The document's Uint.
-/
namespace Go.Proofs.Ytgdplmbchoogiaa
open Go.RowKit
set_option linter.unusedVariables false

theorem rd_next' {l : List UInt8} {k : Nat} {c : UInt8} (hk : k < 10) (hl : k < l.length) (hc : c = l[k]) (h : rd l = rdGo k (valr (l.take k)) (l.drop k)) (h1 : 128 ≤ c.toNat) : rd l = rdGo (k + 1) (valr (l.take (k + 1))) (l.drop (k + 1)) := by
  have := rd_next hk hl hc h h1
  rw [take_snoc' l k hl, valr_snoc, ← hc]
  have e : (l.take k).length = k := by simp; omega
  rw [e]
  exact this

theorem val_step (V : Nat) (c : Nat) : (((V % 18446744073709551616 : Nat) : Int) * 128 % 18446744073709551616 + ((c : Int) % 128) % 18446744073709551616) % 18446744073709551616 = (((c % 128 + 128 * V) % 18446744073709551616 : Nat) : Int) := by omega

set_option maxHeartbeats 4000000 in
set_option maxRecDepth 100000 in
theorem rUint_some (b off cap : Nat) (l : List UInt8) (w : World) (_h1 : l.length ≤ cap) (_h2 : cap ≤ 9223372036854775807) (hb : b < w.heap.size)
    (hc : ∀ i, (h : i < l.length) → w.cell? ⟨b, off + i, none⟩ = some (bv l[i])) :
    Calls Try.prog 37 #[.slice (some ⟨b, off, none⟩) l.length cap] w fun e w' => e = .returned (.tuple #[.int .u64 (rd l).1, .int .i64 (rd l).2.1, .int .i64 (rd l).2.2]) ∧ Below w.heap.size w w' := by
  go_enter Try.func37, Try.ntmps37
  go_wp2
  go_loop [5] (fun i => ∃ k : Nat, k ≤ 10 ∧ k ≤ l.length ∧ i = .int .i64 k ∧ Hid (rd l = rdGo k (valr (l.take k)) (l.drop k))) (fun i => 10 - (intOf i).toNat)
  case atStart => exact ⟨0, by omega, by omega, rfl, hide rfl⟩
  case round =>
    obtain ⟨k, hk1, hk2, rfl, HR⟩ := hrel
    by_cases hk : k < 10 ∧ k < l.length
    · obtain ⟨hk3, hk4⟩ := hk
      have hcx := hc k hk4
      obtain ⟨c, hcc⟩ : ∃ c, c = l[k] := ⟨_, rfl⟩
      rw [← hcc] at hcx
      have Hcc := hide hcc
      have HC := hide hc
      clear hcc hc
      by_cases hA : 128 ≤ c.toNat
      · go_wp2
        go_round
        case rel => exact ⟨k + 1, by omega, by omega, by go_num, hide (rd_next' hk3 hk4 (unhide Hcc) (unhide HR) hA)⟩
        case measure => simp [intOf]; omega
      · have h10 : ((k : Int) == 10) = false := beq_eq_false_iff_ne.2 (by omega)
        have hln : ((k : Int) == (l.length : Int)) = false := beq_eq_false_iff_ne.2 (by omega)
        go_wp2
        go_loop [6, 7] (fun n i => ∃ j : Nat, j ≤ k + 1 ∧ i = .int .i64 ((j : Int) - 1) ∧ n = .int .u64 (valr ((l.take (k + 1)).drop j) % 18446744073709551616 : Nat)) (fun _ i => (intOf i + 1).toNat)
        case atStart => exact ⟨k + 1, by omega, by go_num, by simp [valr]⟩
        case round =>
          obtain ⟨j, hj, rfl, rfl⟩ := hrel
          by_cases hj0 : 1 ≤ j
          · have hjl : j - 1 < l.length := by omega
            have hcj := unhide HC (j - 1) hjl
            have hvd := valr_drop l (k + 1) (j - 1) (by omega) (by omega)
            rw [show j - 1 + 1 = j by omega] at hvd
            obtain ⟨d, hdd⟩ : ∃ d, d = l[j - 1] := ⟨_, rfl⟩
            rw [← hdd] at hcj hvd
            obtain ⟨V, hV⟩ : ∃ V, V = valr ((l.take (k + 1)).drop j) := ⟨_, rfl⟩
            rw [← hV] at hvd ⊢
            have HV := hide hvd
            have hst := val_step V d.toNat
            have HS := hide hst
            clear hvd hV hdd hst
            have hd8 := d.toNat_lt
            clear hcx
            go_wp2
            go_round
            case rel =>
              refine ⟨j - 1, by omega, by go_num, ?_⟩
              rw [unhide HV]
              show Value.int .u64 _ = Value.int .u64 _
              congr 1
              clear HS HV
              (try simp only [IntKind.wrap_u64])
              omega
            case measure => simp [intOf]; omega
          · obtain rfl : j = 0 := by omega
            rw [List.drop_zero]
            have hru := ref_uint l k c (by omega) hk4 (unhide Hcc) (by omega) (unhide HR)
            obtain ⟨N, hN⟩ : ∃ N, N = valr (l.take (k + 1)) % 18446744073709551616 := ⟨_, rfl⟩
            rw [← hN] at hru ⊢
            have hNlt : N ≤ 18446744073709551615 := by omega
            have HRU := hide hru
            clear hru hN
            go_wp2_with fail
            refine (rPutUint_at _ N _ hNlt rfl).mono ?_
            rintro e w1 ⟨v1, rfl, own1, b1⟩
            obtain ⟨ao, cp, rfl, q1, q2, q4⟩ := own1.sl
            have hll := lay_len N
            obtain ⟨m, hm⟩ : ∃ m, m = (lay N).length := ⟨_, rfl⟩
            have HRU2 := unhide HRU
            rw [← hm] at hll q1 HRU2 ⊢
            have HF := hide HRU2
            have cx1 := (b1.cell (p := ⟨b, off + k, none⟩) (by show b < w.heap.size; exact hb)).trans hcx
            have HB := hide b1
            clear own1 b1 q4 hm HRU2 hcx HRU HR q2
            by_cases hmk : m = k + 1
            · subst hmk
              by_cases hk9 : k = 9
              · subst hk9
                by_cases hc1 : 1 < c.toNat
                · have HE := hide ((unhide HF).1 (.inr ⟨rfl, hc1⟩))
                  go_wp2
                  go_ret3
                  rw [unhide HE]
                  exact ⟨rfl, unhide HB⟩
                · have HE := hide ((unhide HF).2 (by omega))
                  go_wp2
                  go_ret3
                  rw [unhide HE]
                  exact ⟨rfl, unhide HB⟩
              · have HE := hide ((unhide HF).2 (by omega))
                have h9 : ((k : Int) == 9) = false := beq_eq_false_iff_ne.2 (by omega)
                have hkk : (((k + 1 : Nat) : Int) != (k : Int) + 1) = false := by simp
                go_wp2
                go_ret3
                rw [unhide HE]
                exact ⟨ret3 rfl (by show _ = ((k + 1 : Nat) : Int); omega) rfl, unhide HB⟩
            · have HE := hide ((unhide HF).1 (.inl hmk))
              have hkk : ((m : Int) != (k : Int) + 1) = true := by rw [bne_iff_ne]; omega
              clear hmk
              go_wp2
              go_ret3
              rw [unhide HE]
              exact ⟨rfl, unhide HB⟩
    · have HF := hide (rd_end (unhide HR) hk hk1 hk2)
      by_cases hk10 : k = 10
      · subst hk10
        go_wp2
        all_goals
          go_ret3
          rw [unhide HF]
          exact ⟨ret3 rfl rfl (by show _ = ((if l.length < 10 then 10 else 11 : Nat) : Int); rw [if_neg (by omega)]; rfl), Below.refl _ _⟩
      · obtain rfl : k = l.length := by omega
        have h10 : ((l.length : Int) == 10) = false := beq_eq_false_iff_ne.2 (by omega)
        go_wp2
        all_goals
          go_ret3
          rw [unhide HF]
          exact ⟨ret3 rfl rfl (by show _ = ((if l.length < 10 then 10 else 11 : Nat) : Int); rw [if_pos (by omega)]; rfl), Below.refl _ _⟩

theorem rUint_any (v : Value) (l : List UInt8) (w : World) (hv : Sl w v l) :
    Calls Try.prog 37 #[v] w fun e w' => e = .returned (.tuple #[.int .u64 (rd l).1, .int .i64 (rd l).2.1, .int .i64 (rd l).2.2]) ∧ Below w.heap.size w w' := by
  rcases hv.cases with ⟨rfl, ao, rfl⟩ | ⟨b, off, cap, rfl, h1, h2, h3, hc⟩
  rotate_left
  · exact rUint_some b off cap l w h1 h2 h3 hc
  · go_enter Try.func37, Try.ntmps37
    go_wp2
    refine wp_loop_rounds 1 ?_
    rw [rounds_succ]
    go_wp2
    go_ret3
    exact ⟨rfl, Below.refl _ _⟩
end Go.Proofs.Ytgdplmbchoogiaa

/-
  DERIVED. fill, bytes.Equal.
-/
namespace Go.Proofs.Ytgdplmbchoogiaa
open Go.RowKit
set_option linter.unusedVariables false

theorem list_beq (l m : List UInt8) : (l == m) = decide (l = m) := by
  by_cases h : l = m
  · rw [decide_eq_true h]
    exact beq_iff_eq.2 h
  · rw [decide_eq_false h]
    exact beq_eq_false_iff_ne.2 h
theorem Equal_any (w : World) (v u : Value) (l m : List UInt8) (hv : Sl w v l) (hu : Sl w u m) :
    Calls Try.prog 36 #[v, u] w fun e w' => e = .returned (.bool (decide (l = m))) ∧ w' = w := by
  have s1 := str_of hv
  have s2 := str_of hu
  have HE := hide (list_beq l m)
  clear hv hu
  go_enter Try.func36, Try.ntmps36
  go_wp2
  go_ret
  rw [← unhide HE]
  exact ⟨rfl, rfl⟩

/-- The bit of block j. -/
def bitR (l : List UInt8) (j : Nat) : Bool := decide ((l.getD (j / 8) 0).toNat / 2 ^ (j % 8) % 2 = 1)
/-- The first k blocks as the bits say, the others free. -/
def fillU (l : List UInt8) (k : Nat) : Nat → Bool := fun j => decide (j < k) && bitR l j
theorem fillU_zero (l : List UInt8) : fillU l 0 = none? := by funext j; simp [fillU, none?]
theorem fillU_step (l : List UInt8) (k : Nat) : (fun j => if j = k then bitR l k else fillU l k j) = fillU l (k + 1) := by
  funext j
  unfold fillU
  by_cases e : j = k
  · subst e; simp
  · rw [if_neg e, show decide (j < k + 1) = decide (j < k) from decide_eq_decide.2 (by omega)]
theorem fillU_free (l : List UInt8) (k : Nat) : fillU l k k = false := by simp [fillU]

theorem bit_and : ∀ r : Nat, r < 8 → ∀ x : Nat, x < 256 → (bits BinOp.and IntKind.u8 ((x : Int) / 2 ^ r) 1 == 1) = decide (x / 2 ^ r % 2 = 1) := by
  have h : (List.range 8).all (fun r => (List.range 256).all fun x => (bits BinOp.and IntKind.u8 ((x : Int) / 2 ^ r) 1 == 1) == decide (x / 2 ^ r % 2 = 1)) = true := by decide +kernel
  intro r hr x hx
  have h1 := List.all_eq_true.1 h r (List.mem_range.2 hr)
  have h2 := List.all_eq_true.1 h1 x (List.mem_range.2 hx)
  exact beq_iff_eq.1 h2
theorem bitR_at (l : List UInt8) (j : Nat) (c : UInt8) (hj : j / 8 < l.length) (hc : c = l[j / 8]) : (bits BinOp.and IntKind.u8 ((c.toNat : Int) / 2 ^ (j % 8)) 1 == 1) = bitR l j := by
  rw [bit_and (j % 8) (by omega) c.toNat c.toNat_lt]
  unfold bitR
  rw [List.getD_eq_getElem?_getD, List.getElem?_eq_getElem hj, hc]
  rfl

set_option maxHeartbeats 2000000 in
set_option maxRecDepth 20000 in
theorem fill_any (w0 w : World) (b B : Nat) (V : Nat → Bool) (v : Value) (l : List UInt8) (h : MapAt w b B none? V) (hv : Sl w0 v l) (h0 : w0.grownBy w none) (hb : w0.heap.size ≤ b) (hl : l.length ≤ 140737488351232) :
    Calls Try.prog 35 #[.pointer (some ⟨b, 0, none⟩), v] w fun e w' => (∃ x, e = .returned x) ∧ MapAt w' b B (fillU l (min B (8 * l.length))) V ∧ w.grownBy w' (some b) := by
  have hB := h.le
  have hBi : (B : Int) ≤ 512 := by omega
  have c0 := h.num
  have HM := hide h
  have HV := hide hv
  have H0 := hide h0
  have HB := hide hb
  obtain ⟨ao, cap, hve, h1, h2, h4⟩ := hv
  obtain ⟨n, hn⟩ : ∃ n, n = l.length := ⟨_, rfl⟩
  have HN := hide hn
  rw [← hn] at hve h1 hl ⊢
  obtain ⟨m, hm⟩ : ∃ m, m = min B (8 * n) := ⟨_, rfl⟩
  have Hm := hide hm
  rw [← hm]
  have hmB : m ≤ B := by omega
  have hnI : (n : Int) ≤ 140737488351232 := by omega
  subst hve
  have HH : Hid ((¬ (8 * (n : Int) < (B : Int)) ∧ Hid (m = B)) ∨ (8 * (n : Int) < (B : Int) ∧ Hid (m = 8 * n))) := hide (by
    by_cases e : 8 * n < B
    · exact .inr ⟨by omega, hide (by omega)⟩
    · exact .inl ⟨by omega, hide (by omega)⟩)
  clear h h0 hb h4 hn hm h2
  rcases unhide HH with ⟨hsp, HE⟩ | ⟨hsp, HE⟩
  · clear HH
    go_enter Try.func35, Try.ntmps35
    go_wp2
    go_loopw [13] (fun i wr => ∃ j : Nat, i = .int .i64 (j : Int) ∧ j ≤ m ∧ MapAt wr b B (fillU l j) V ∧ w0.grownBy wr none ∧ w.grownBy wr (some b)) (fun i _ => m - (intOf i).toNat)
    case atStart => exact ⟨0, rfl, by omega, by rw [fillU_zero]; exact unhide HM, unhide H0, World.grownBy.refl _ _⟩
    case round =>
      obtain ⟨j, rfl, hj, hr, hg0, hg⟩ := hrel
      by_cases hlt : j < m
      · have hlt1 : (j : Int) < (B : Int) := by omega
        have hlt2 : (j : Int) < 8 * (n : Int) := by have := unhide Hm; omega
        have hj5 : (j : Int) < 512 := by omega
        have hq : j / 8 < n := by omega
        have hqi : (j : Int) / 8 < (n : Int) := by omega
        have hq0 : (0 : Int) ≤ (j : Int) / 8 := by omega
        have cU := hr.used (n := j) (by omega)
        have cF := hr.frozen (1 + j)
        obtain ⟨ao', cap', e, _, _, h4⟩ := (unhide HV).grownN hg0
        rw [← unhide HN] at e
        injection e with e1 e2 e3
        clear e2 e3
        subst e1
        obtain ⟨vb, off, e, hvb, hc⟩ := h4 (by have := unhide HN; omega)
        subst e
        have cB := hc (j / 8) (by have := unhide HN; omega)
        obtain ⟨c, hcc⟩ : ∃ c, c = l[j / 8]'(by have := unhide HN; omega) := ⟨_, rfl⟩
        rw [← hcc] at cB
        have HCC := hide hcc
        have HR := hide hr
        have HG0 := hide hg0
        have HG := hide hg
        clear hc h4 hcc hr hg0 hg
        go_wp2_with fail
        go_region
        rw [bitR_at l j c (by have := unhide HN; omega) (unhide HCC)]
        have hz : wr.grownBy (wr.setCell ⟨b, 1 + j, none⟩ (.bool (bitR l j))).drew (some b) := (setCell_grown wr b (1 + j) _).trans (by exact ⟨rfl, rfl, rfl, Nat.le_refl _, fun _ _ _ => rfl⟩)
        have HR2 : Hid (MapAt (wr.setCell ⟨b, 1 + j, none⟩ (.bool (bitR l j))).drew b B (fillU l (j + 1)) V) := hide (by
          have h := (unhide HR).set j (by omega) (bitR l j)
          rw [fillU_step] at h
          exact ⟨h.blk, h.le⟩)
        have HG2 : Hid (w.grownBy (wr.setCell ⟨b, 1 + j, none⟩ (.bool (bitR l j))).drew (some b)) := hide ((unhide HG).trans hz)
        have HG3 : Hid (w0.grownBy (wr.setCell ⟨b, 1 + j, none⟩ (.bool (bitR l j))).drew none) := hide (own_stepW (unhide HG0) (unhide HB) hz)
        clear hz
        go_wp2
        go_roundw
        case rel => exact ⟨j + 1, by go_num, by omega, unhide HR2, unhide HG3, unhide HG2⟩
        case measure => simp [intOf]; omega
      · have hx : (¬ (j : Int) < (B : Int)) ∨ ¬ (j : Int) < 8 * (n : Int) := by have := unhide HE; omega
        obtain ⟨k, hk⟩ : ∃ k, k = m := ⟨_, rfl⟩
        have hjm : j = k := by omega
        have HR := hide hr
        have HG := hide hg
        rw [hjm, hk] at HR
        clear hr hg hg0
        have hx1 : ¬ (j : Int) < (B : Int) := by have := unhide HE; omega
        clear hx hjm hk hlt hj
        go_wp2
        go_end0
        exact ⟨⟨_, rfl⟩, unhide HR, unhide HG⟩
  · clear HH
    go_enter Try.func35, Try.ntmps35
    go_wp2
    go_loopw [13] (fun i wr => ∃ j : Nat, i = .int .i64 (j : Int) ∧ j ≤ m ∧ MapAt wr b B (fillU l j) V ∧ w0.grownBy wr none ∧ w.grownBy wr (some b)) (fun i _ => m - (intOf i).toNat)
    case atStart => exact ⟨0, rfl, by omega, by rw [fillU_zero]; exact unhide HM, unhide H0, World.grownBy.refl _ _⟩
    case round =>
      obtain ⟨j, rfl, hj, hr, hg0, hg⟩ := hrel
      by_cases hlt : j < m
      · have hlt1 : (j : Int) < (B : Int) := by omega
        have hlt2 : (j : Int) < 8 * (n : Int) := by have := unhide Hm; omega
        have hj5 : (j : Int) < 512 := by omega
        have hq : j / 8 < n := by omega
        have hqi : (j : Int) / 8 < (n : Int) := by omega
        have hq0 : (0 : Int) ≤ (j : Int) / 8 := by omega
        have cU := hr.used (n := j) (by omega)
        have cF := hr.frozen (1 + j)
        obtain ⟨ao', cap', e, _, _, h4⟩ := (unhide HV).grownN hg0
        rw [← unhide HN] at e
        injection e with e1 e2 e3
        clear e2 e3
        subst e1
        obtain ⟨vb, off, e, hvb, hc⟩ := h4 (by have := unhide HN; omega)
        subst e
        have cB := hc (j / 8) (by have := unhide HN; omega)
        obtain ⟨c, hcc⟩ : ∃ c, c = l[j / 8]'(by have := unhide HN; omega) := ⟨_, rfl⟩
        rw [← hcc] at cB
        have HCC := hide hcc
        have HR := hide hr
        have HG0 := hide hg0
        have HG := hide hg
        clear hc h4 hcc hr hg0 hg
        go_wp2_with fail
        go_region
        rw [bitR_at l j c (by have := unhide HN; omega) (unhide HCC)]
        have hz : wr.grownBy (wr.setCell ⟨b, 1 + j, none⟩ (.bool (bitR l j))).drew (some b) := (setCell_grown wr b (1 + j) _).trans (by exact ⟨rfl, rfl, rfl, Nat.le_refl _, fun _ _ _ => rfl⟩)
        have HR2 : Hid (MapAt (wr.setCell ⟨b, 1 + j, none⟩ (.bool (bitR l j))).drew b B (fillU l (j + 1)) V) := hide (by
          have h := (unhide HR).set j (by omega) (bitR l j)
          rw [fillU_step] at h
          exact ⟨h.blk, h.le⟩)
        have HG2 : Hid (w.grownBy (wr.setCell ⟨b, 1 + j, none⟩ (.bool (bitR l j))).drew (some b)) := hide ((unhide HG).trans hz)
        have HG3 : Hid (w0.grownBy (wr.setCell ⟨b, 1 + j, none⟩ (.bool (bitR l j))).drew none) := hide (own_stepW (unhide HG0) (unhide HB) hz)
        clear hz
        go_wp2
        go_roundw
        case rel => exact ⟨j + 1, by go_num, by omega, unhide HR2, unhide HG3, unhide HG2⟩
        case measure => simp [intOf]; omega
      · have hx : (¬ (j : Int) < (B : Int)) ∨ ¬ (j : Int) < 8 * (n : Int) := by have := unhide HE; omega
        obtain ⟨k, hk⟩ : ∃ k, k = m := ⟨_, rfl⟩
        have hjm : j = k := by omega
        have HR := hide hr
        have HG := hide hg
        rw [hjm, hk] at HR
        clear hr hg hg0
        have hx1 : ¬ (j : Int) < 8 * (n : Int) := by have := unhide HE; omega
        clear hx hjm hk hlt hj
        go_wp2
        go_end0
        exact ⟨⟨_, rfl⟩, unhide HR, unhide HG⟩

end Go.Proofs.Ytgdplmbchoogiaa

/-
  DERIVED. Read.
-/
namespace Go.Proofs.Ytgdplmbchoogiaa
open Go.RowKit
set_option linter.unusedVariables false

/-- The blocks in use that the bytes tell. -/
def rdU (l : List UInt8) : Nat → Bool := fillU (l.drop (rd l).2.1) (min (rd l).1 (8 * (l.drop (rd l).2.1).length))
/-- The bytes are a map's. -/
def okR (l : List UInt8) : Prop := (rd l).2.2 = 0 ∧ (rd l).1 ≤ 512 ∧ tell (rd l).1 (rdU l) = l
def AReadPost (w : World) (l : List UInt8) (e : Ending) (w' : World) : Prop :=
  w.grownBy w' none ∧ ((¬ okR l ∧ e = .returned (.tuple #[.pointer none, .int .i64 52])) ∨ (okR l ∧ ∃ b, e = .returned (.tuple #[.pointer (some ⟨b, 0, none⟩), .int .i64 0]) ∧ MapAt w' b (rd l).1 (rdU l) (rdU l)))
theorem Sl.from {w : World} (b off cap : Nat) (l : List UInt8) (hb : b < w.heap.size) (h1 : l.length ≤ cap) (h2 : cap ≤ 9223372036854775807) (hc : ∀ i, (h : i < l.length) → w.cell? ⟨b, off + i, none⟩ = some (bv l[i])) (k : Nat) (hk : k ≤ l.length) :
    Sl w (.slice (some ⟨b, off + k, none⟩) (l.length - k) (cap - k)) (l.drop k) := by
  refine ⟨_, _, by rw [List.length_drop], by rw [List.length_drop]; omega, by unfold maxLen; omega, fun _ => ⟨b, off + k, rfl, hb, fun i hi => ?_⟩⟩
  rw [List.length_drop] at hi
  rw [Nat.add_assoc, hc (k + i) (by omega), List.getElem_drop]

set_option maxHeartbeats 4000000 in
set_option maxRecDepth 20000 in
theorem Read_any (w : World) (v : Value) (l : List UInt8) (hv : Sl w v l) (hl : l.length ≤ 140737488351232) : Calls Try.prog 20 #[v] w (AReadPost w l) := by
  have hrf := rd_facts l
  have HV := hide hv
  by_cases hok : (rd l).2.2 = 0 ∧ (rd l).1 ≤ 512
  · obtain ⟨hE, hN⟩ := hok
    have hk := hrf.2.2.2 hE
    rcases hv.cases with ⟨hl0, _⟩ | ⟨vb, off, cap, hve, h1, h2, hb, hc⟩
    · rw [hl0] at hk; simp at hk; omega
    have HD := hide (Sl.from (w := w) vb off cap l hb h1 h2 hc (rd l).2.1 hk.2.1)
    have hnl : (l.drop (rd l).2.1).length ≤ 140737488351232 := by rw [List.length_drop]; omega
    have HNL := hide hnl
    have hU : ∃ U, U = rdU l := ⟨_, rfl⟩
    obtain ⟨U, hU⟩ := hU
    have HU := hide hU
    have HF : Hid (fillU (l.drop (rd l).2.1) (min (rd l).1 (8 * (l.drop (rd l).2.1).length)) = U) := hide hU.symm
    have HOk : Hid (okR l ↔ tell (rd l).1 U = l) := hide ⟨fun h => by rw [hU]; exact h.2.2, fun h => ⟨hE, hN, by rw [← hU]; exact h⟩⟩
    have HPost : Hid (∀ e w', (w.grownBy w' none ∧ ((¬ tell (rd l).1 U = l ∧ e = .returned (.tuple #[.pointer none, .int .i64 52])) ∨ (tell (rd l).1 U = l ∧ ∃ b, e = .returned (.tuple #[.pointer (some ⟨b, 0, none⟩), .int .i64 0]) ∧ MapAt w' b (rd l).1 U U))) → AReadPost w l e w') := hide (fun e w' h => by
      obtain ⟨h1, h2⟩ := h
      refine ⟨h1, ?_⟩
      rcases h2 with ⟨h2, h3⟩ | ⟨h2, b, h3, h4⟩
      · exact .inl ⟨fun h => h2 ((unhide HOk).1 h), h3⟩
      · exact .inr ⟨(unhide HOk).2 h2, b, h3, by rw [← hU]; exact h4⟩)
    refine Calls.mono ?_ (fun e w' h => unhide HPost e w' h)
    have RU := hide (Uint_any v l w hv)
    rw [hE] at RU
    obtain ⟨B, hB⟩ : ∃ B, B = (rd l).1 := ⟨_, rfl⟩
    obtain ⟨k, hkk⟩ : ∃ k, k = (rd l).2.1 := ⟨_, rfl⟩
    rw [← hB, ← hkk] at RU
    rw [← hB]
    rw [← hB] at hN HF
    rw [← hkk] at HD HNL HF hk
    obtain ⟨n, hn⟩ : ∃ n, n = l.length := ⟨_, rfl⟩
    rw [← hn] at HD hk hve h1
    have hk1 := hk.1
    have hk2 := hk.2.1
    have hnI : (n : Int) ≤ 140737488351232 := by omega
    have hcI : (cap : Int) ≤ 9223372036854775807 := by omega
    have hBI : (B : Int) ≤ 512 := by omega
    have hkn : (k : Int) ≤ (n : Int) := by omega
    have hnc : (n : Int) ≤ (cap : Int) := by omega
    subst hve
    have HNn : Hid (n = l.length) := hide hn
    clear hc hb HOk HPost hU HU hB hkk hn hrf hE hk hnl
    have HDn : Hid (cap = k → Sl w (.slice (some ⟨vb, off, none⟩) 0 0) (l.drop k)) := hide (fun e => by
      have e0 : l.drop k = [] := List.drop_eq_nil_of_le (by have := unhide HNn; omega)
      rw [e0]
      exact ⟨_, _, rfl, by simp, by simp, fun h => absurd rfl h⟩)
    by_cases hck : cap = k
    · have HDk := hide (unhide HDn hck)
      have hnk : n = k := by omega
      subst hnk
      subst hck
      clear HDn HD h1 hk2 hkn hnc hcI HNn
      by_cases heq0 : tell B U = l
      all_goals
        have HQ := hide heq0
        clear heq0
        go_enter Try.func20, Try.ntmps20
        go_wp2_with fail
        refine (unhide RU).mono ?_
        rintro e w1 ⟨rfl, rfl⟩
        go_wp2_with fail
        refine (New_any B _ hN).mono ?_
        rintro e w2 ⟨rfl, m2, g2⟩
        have M2 := hide m2
        have G2 := hide g2
        obtain ⟨b, hb⟩ : ∃ b, b = w.heap.size := ⟨_, rfl⟩
        rw [← hb] at M2 ⊢
        have HB : Hid (w.heap.size ≤ b) := hide (by omega)
        clear m2 g2 hb
        go_wp2_with fail
        refine (fill_any w w2 b B none? _ _ (unhide M2) (unhide HDk) (unhide G2) (unhide HB) (unhide HNL)).mono ?_
        rintro e w3 ⟨⟨x, rfl⟩, m3, g3⟩
        rw [unhide HF] at m3
        have M3 := hide m3
        have G3 : Hid (w.grownBy w3 none) := hide (own_stepW (unhide G2) (unhide HB) g3)
        clear m3 g3 M2 G2
        go_wp2_with fail
        refine (Commit_any w3 b B U none? (unhide M3)).mono ?_
        rintro e w4 ⟨⟨y, rfl⟩, m4, g4⟩
        have M4 := hide m4
        have G4 : Hid (w.grownBy w4 none) := hide (own_stepW (unhide G3) (unhide HB) g4)
        clear m4 g4 M3 G3
        go_wp2_with fail
        refine (Bytes_any w4 b B U U (unhide M4)).mono ?_
        rintro e w5 ⟨vt, rfl, o5, g5⟩
        have O5 := hide (Own.sl o5)
        have M5 := hide ((unhide M4).grown g5 (by simp))
        have G5 : Hid (w.grownBy w5 none) := hide ((unhide G4).trans g5)
        clear o5 g5 M4 G4
        go_wp2_with fail
        refine (Equal_any w5 _ _ _ l (unhide O5) ((unhide HV).grownN (unhide G5))).mono ?_
        rintro e w6 ⟨rfl, rfl⟩
        first
          | rw [decide_eq_true (unhide HQ)]
          | rw [decide_eq_false (unhide HQ)]
        go_wp2
        go_ret2
        first
          | exact ⟨unhide G5, .inr ⟨unhide HQ, b, rfl, unhide M5⟩⟩
          | exact ⟨unhide G5, .inl ⟨unhide HQ, rfl⟩⟩
    · clear HDn HNn
      by_cases heq0 : tell B U = l
      all_goals
        have HQ := hide heq0
        clear heq0
        go_enter Try.func20, Try.ntmps20
        go_wp2_with fail
        refine (unhide RU).mono ?_
        rintro e w1 ⟨rfl, rfl⟩
        go_wp2_with fail
        refine (New_any B _ hN).mono ?_
        rintro e w2 ⟨rfl, m2, g2⟩
        have M2 := hide m2
        have G2 := hide g2
        obtain ⟨b, hb⟩ : ∃ b, b = w.heap.size := ⟨_, rfl⟩
        rw [← hb] at M2 ⊢
        have HB : Hid (w.heap.size ≤ b) := hide (by omega)
        clear m2 g2 hb
        go_wp2_with fail
        refine (fill_any w w2 b B none? _ _ (unhide M2) (unhide HD) (unhide G2) (unhide HB) (unhide HNL)).mono ?_
        rintro e w3 ⟨⟨x, rfl⟩, m3, g3⟩
        rw [unhide HF] at m3
        have M3 := hide m3
        have G3 : Hid (w.grownBy w3 none) := hide (own_stepW (unhide G2) (unhide HB) g3)
        clear m3 g3 M2 G2
        go_wp2_with fail
        refine (Commit_any w3 b B U none? (unhide M3)).mono ?_
        rintro e w4 ⟨⟨y, rfl⟩, m4, g4⟩
        have M4 := hide m4
        have G4 : Hid (w.grownBy w4 none) := hide (own_stepW (unhide G3) (unhide HB) g4)
        clear m4 g4 M3 G3
        go_wp2_with fail
        refine (Bytes_any w4 b B U U (unhide M4)).mono ?_
        rintro e w5 ⟨vt, rfl, o5, g5⟩
        have O5 := hide (Own.sl o5)
        have M5 := hide ((unhide M4).grown g5 (by simp))
        have G5 : Hid (w.grownBy w5 none) := hide ((unhide G4).trans g5)
        clear o5 g5 M4 G4
        go_wp2_with fail
        refine (Equal_any w5 _ _ _ l (unhide O5) ((unhide HV).grownN (unhide G5))).mono ?_
        rintro e w6 ⟨rfl, rfl⟩
        first
          | rw [decide_eq_true (unhide HQ)]
          | rw [decide_eq_false (unhide HQ)]
        go_wp2
        go_ret2
        first
          | exact ⟨unhide G5, .inr ⟨unhide HQ, b, rfl, unhide M5⟩⟩
          | exact ⟨unhide G5, .inl ⟨unhide HQ, rfl⟩⟩
  · have HNo : Hid (¬ okR l) := hide (fun h => hok ⟨h.1, h.2.1⟩)
    have RU := hide (Uint_any v l w hv)
    have hb1 := hrf.1
    obtain ⟨B, hB⟩ : ∃ B, B = (rd l).1 := ⟨_, rfl⟩
    obtain ⟨k, hkk⟩ : ∃ k, k = (rd l).2.1 := ⟨_, rfl⟩
    obtain ⟨E, hE⟩ : ∃ E, E = (rd l).2.2 := ⟨_, rfl⟩
    rw [← hB, ← hkk, ← hE] at RU
    rw [← hB, ← hE] at hok
    rw [← hB] at hb1
    clear hv hrf hB hkk hE
    by_cases hE : E = 0
    · subst hE
      have hBn : ¬ B ≤ 512 := fun h => hok ⟨rfl, h⟩
      have hBI : (512 : Int) < (B : Int) := by omega
      clear hok hBn
      go_enter Try.func20, Try.ntmps20
      go_wp2_with fail
      refine (unhide RU).mono ?_
      rintro e w1 ⟨rfl, rfl⟩
      go_wp2
      go_ret2
      exact ⟨World.grownBy.refl _ _, .inl ⟨unhide HNo, rfl⟩⟩
    · have hEI : ((E : Int) == 0) = false := beq_eq_false_iff_ne.2 (by omega)
      have hEn : ¬ (E : Int) = 0 := by omega
      clear hok hE
      go_enter Try.func20, Try.ntmps20
      go_wp2_with fail
      refine (unhide RU).mono ?_
      rintro e w1 ⟨rfl, rfl⟩
      go_wp2
      go_ret2
      exact ⟨World.grownBy.refl _ _, .inl ⟨unhide HNo, rfl⟩⟩

end Go.Proofs.Ytgdplmbchoogiaa
