/-
  DERIVED. bits, Bytes.
-/
import Derived.Test.YtmnmciajldoabaaAdrop
import Derived.Test.YtmnmciajldoabaaLay
import Derived.Deep.RegionHeld3
namespace Go.Proofs.Ytmnmciajldoabaa
open Go.RowKit
set_option linter.unusedVariables false

/-- The i-th byte, of the first n blocks. -/
def byteAt (U : Nat → Bool) (n i : Nat) : Nat := ((List.range 8).map fun k => if 8 * i + k < n ∧ U (8 * i + k) = true then 2 ^ k else 0).sum
theorem byteAt_eq (U : Nat → Bool) (n i : Nat) : byteAt U n i = (if 8 * i + 0 < n ∧ U (8 * i + 0) = true then 1 else 0) + (if 8 * i + 1 < n ∧ U (8 * i + 1) = true then 2 else 0) + (if 8 * i + 2 < n ∧ U (8 * i + 2) = true then 4 else 0) + (if 8 * i + 3 < n ∧ U (8 * i + 3) = true then 8 else 0) + (if 8 * i + 4 < n ∧ U (8 * i + 4) = true then 16 else 0) + (if 8 * i + 5 < n ∧ U (8 * i + 5) = true then 32 else 0) + (if 8 * i + 6 < n ∧ U (8 * i + 6) = true then 64 else 0) + (if 8 * i + 7 < n ∧ U (8 * i + 7) = true then 128 else 0) := by
  simp [byteAt, List.range_succ]
  omega
theorem cond_far {U : Nat → Bool} {n j : Nat} (h : n ≤ j) (x : Nat) : (if j < n ∧ U j = true then x else 0) = 0 := by rw [if_neg (by omega)]
theorem cond_near {U : Nat → Bool} {n j : Nat} (h : j < n) (x : Nat) : (if j < n ∧ U j = true then x else 0) = (if U j = true then x else 0) := by simp [h]
theorem cond_le (p : Prop) [Decidable p] (x : Nat) : (if p then x else 0) ≤ x := by split <;> omega

theorem byteAt_next (U : Nat → Bool) (q r : Nat) (hr : r < 8) : byteAt U (8 * q + r) q < 2 ^ r ∧ byteAt U (8 * q + r + 1) q = byteAt U (8 * q + r) q + (if U (8 * q + r) = true then 2 ^ r else 0) := by
  rw [byteAt_eq, byteAt_eq]
  have hc : r = 0 ∨ r = 1 ∨ r = 2 ∨ r = 3 ∨ r = 4 ∨ r = 5 ∨ r = 6 ∨ r = 7 := by omega
  have e0 := cond_le (U (8 * q + 0) = true) 1
  have e1 := cond_le (U (8 * q + 1) = true) 2
  have e2 := cond_le (U (8 * q + 2) = true) 4
  have e3 := cond_le (U (8 * q + 3) = true) 8
  have e4 := cond_le (U (8 * q + 4) = true) 16
  have e5 := cond_le (U (8 * q + 5) = true) 32
  have e6 := cond_le (U (8 * q + 6) = true) 64
  have d : ∀ k, (8 * q + k < 8 * q + r) = (k < r) := fun k => propext (by omega)
  have d' : ∀ k, (8 * q + k < 8 * q + r + 1) = (k < r + 1) := fun k => propext (by omega)
  simp only [d, d']
  clear d d'
  rcases hc with rfl | rfl | rfl | rfl | rfl | rfl | rfl | rfl <;>
    (simp only [Nat.reduceAdd, Nat.reduceLT, Nat.reducePow, true_and, false_and, ↓reduceIte, Nat.lt_irrefl]
     first | omega | (constructor <;> omega))
theorem byteAt_other (U : Nat → Bool) (q r i : Nat) (hr : r < 8) (hi : i ≠ q) : byteAt U (8 * q + r + 1) i = byteAt U (8 * q + r) i := by
  rw [byteAt_eq, byteAt_eq]
  rcases Nat.lt_or_gt_of_ne hi with h | h
  · rw [cond_near (by omega), cond_near (by omega), cond_near (by omega), cond_near (by omega), cond_near (by omega), cond_near (by omega), cond_near (by omega), cond_near (by omega), cond_near (by omega), cond_near (by omega), cond_near (by omega), cond_near (by omega), cond_near (by omega), cond_near (by omega), cond_near (by omega), cond_near (by omega)]
  · rw [cond_far (by omega), cond_far (by omega), cond_far (by omega), cond_far (by omega), cond_far (by omega), cond_far (by omega), cond_far (by omega), cond_far (by omega), cond_far (by omega), cond_far (by omega), cond_far (by omega), cond_far (by omega), cond_far (by omega), cond_far (by omega), cond_far (by omega), cond_far (by omega)]

/-- The bytes, of the first n blocks. -/
def bitsN (U : Nat → Bool) (m n : Nat) : List UInt8 := (List.range m).map fun i => UInt8.ofNat (byteAt U n i)
theorem bitsN_len (U : Nat → Bool) (m n : Nat) : (bitsN U m n).length = m := by simp [bitsN]
theorem bitsN_zero (U : Nat → Bool) (m : Nat) : bitsN U m 0 = List.replicate m 0 := by
  apply List.ext_getElem
  · simp [bitsN]
  · intro i h1 h2
    have : byteAt U 0 i = 0 := by rw [byteAt_eq]; simp
    simp [bitsN, this]
theorem bitsN_step (U : Nat → Bool) (m q r : Nat) (hr : r < 8) (hq : q < m) : bitsN U m (8 * q + r + 1) = (bitsN U m (8 * q + r)).set q (UInt8.ofNat (byteAt U (8 * q + r) q + (if U (8 * q + r) = true then 2 ^ r else 0))) := by
  apply List.ext_getElem
  · simp [bitsN]
  · intro i h1 h2
    by_cases e : i = q
    · subst e
      simp [bitsN, (byteAt_next U i r hr).2]
    · rw [List.getElem_set_ne (fun h => e h.symm)]
      simp [bitsN, byteAt_other U q r i hr e]
theorem or_bit : ∀ r : Nat, r < 8 → ∀ x : Nat, x < 2 ^ r → bits BinOp.or IntKind.u8 (x : Int) ((2 ^ r : Nat) : Int) = ((x + 2 ^ r : Nat) : Int) := by
  have h : (List.range 8).all (fun r => (List.range (2 ^ r)).all fun x => bits BinOp.or IntKind.u8 (x : Int) ((2 ^ r : Nat) : Int) == ((x + 2 ^ r : Nat) : Int)) = true := by decide +kernel
  intro r hr x hx
  have h1 := List.all_eq_true.1 h r (List.mem_range.2 hr)
  have h2 := List.all_eq_true.1 h1 x (List.mem_range.2 hx)
  exact beq_iff_eq.1 h2

theorem made_zero (n : Nat) : madeCells #[Value.int .u8 0] n = ((List.replicate n (0 : UInt8)).map bv).toArray := by
  apply Array.ext'
  rw [toList_madeCells_one, List.map_replicate]
  exact congrArg (List.replicate n) (show Value.int .u8 0 = bv 0 from rfl)
theorem run_make_bytes (w : World) (m : Nat) (hm : m ≤ 512) : (Instr.makeSlice 42 (.int .i64 (m : Int)) (.int .i64 (m : Int))).run Try.prog w = .ok (.slice (some ⟨w.heap.size, 0, none⟩) m m) (w.alloc (.cells ((List.replicate m (0 : UInt8)).map bv).toArray 5)) := by
  obtain ⟨i, hi, hh⟩ := Option.map_eq_some_iff.1 Try.info5
  simp only [Prod.mk.injEq] at hh
  have h := run_make (P := Try.prog) w 42 5 i _ Try.underlying42 hi hh.1 .i64 .i64 m m (by omega) (Int.le_refl _) (by rw [hh.2.2]; omega) (by omega)
  rw [h, hh.2.1, Int.toNat_natCast, Nat.mul_one]
  show Result.ok _ (w.alloc (.cells (madeCells #[Value.int .u8 0] m) 5)) = _
  rw [made_zero]

def BRow (w : World) (g : Nat) (L : List UInt8) : Prop := w.heap[g]? = some (.cells (L.map bv).toArray 5 (0, 0))
theorem BRow.cell {w : World} {g : Nat} {L : List UInt8} (h : BRow w g L) {i : Nat} (hi : i < L.length) : w.cell? ⟨g, i, none⟩ = some (bv L[i]) := by
  rw [cell_of_row _ _ _ _ _ _ h]; simp [hi]
theorem BRow.set {w : World} {g : Nat} {L : List UInt8} (h : BRow w g L) (i : Nat) (c : UInt8) : BRow (w.setCell ⟨g, i, none⟩ (bv c)) g (L.set i c) := by
  unfold BRow
  rw [heap_setCell_same w g i _ _ _ h]
  simp [List.map_set]

set_option maxHeartbeats 2000000 in
set_option maxRecDepth 20000 in
theorem bits_any (w : World) (b B : Nat) (U V : Nat → Bool) (h : MapAt w b B U V) :
    Calls Try.prog 39 #[.pointer (some ⟨b, 0, none⟩)] w fun e w' => ∃ v, e = .returned v ∧ Own w' w.heap.size v (bitsN U ((B + 7) / 8) B) ∧ w.grownBy w' none := by
  have hB := h.le
  have hBi : (B : Int) ≤ 512 := by omega
  have c0 := h.num
  obtain ⟨m, hm⟩ : ∃ m, m = (B + 7) / 8 := ⟨_, rfl⟩
  have hq : ((B : Int) + 8 - 1) / 8 = (m : Int) := by omega
  have hq2 : ((B : Int) + 7) / 8 = (m : Int) := by omega
  have mk := run_make_bytes w m (by omega)
  have hg0 : w.grownBy (w.alloc (.cells ((List.replicate m (0 : UInt8)).map bv).toArray 5)) none := World.grownBy_alloc _ _ _
  have hr0 : BRow (w.alloc (.cells ((List.replicate m (0 : UInt8)).map bv).toArray 5)) w.heap.size (bitsN U m 0) := by rw [bitsN_zero]; exact heap_alloc_new _ _
  obtain ⟨W1, hW1⟩ : ∃ W1, W1 = w.alloc (.cells ((List.replicate m (0 : UInt8)).map bv).toArray 5) := ⟨_, rfl⟩
  rw [← hW1] at mk hg0 hr0
  have c1 := (h.grown hg0 (by simp)).num
  have HM := hide h
  have HG0 := hide hg0
  have HR0 := hide hr0
  rw [← hm]
  have Hm := hide hm
  clear h hW1 hg0 hr0 hm
  go_enter Try.func39, Try.ntmps39
  go_wp2
  go_loopw [17] (fun i wr => ∃ n : Nat, i = .int .i64 (n : Int) ∧ n ≤ B ∧ BRow wr w.heap.size (bitsN U m n) ∧ w.grownBy wr none) (fun i _ => B - (intOf i).toNat)
  case atStart => exact ⟨0, rfl, by omega, unhide HR0, unhide HG0⟩
  case round =>
    obtain ⟨n, rfl, hn, hr, hg⟩ := hrel
    have hmp := (unhide HM).grown hg (by simp)
    by_cases hlt : n < B
    · have hlt' : (n : Int) < (B : Int) := by omega
      have hn5 : (n : Int) < 512 := by omega
      have cU := hmp.used (n := n) (by omega)
      have hqm : n / 8 < m := by have := unhide Hm; omega
      have hqi : ((n : Int) / 8) < (m : Int) := by omega
      have hq0 : (0 : Int) ≤ (n : Int) / 8 := by omega
      have cB := hr.cell (i := n / 8) (by rw [bitsN_len]; exact hqm)
      have cF : wr.frozen? ⟨w.heap.size, n / 8, none⟩ = false := by simp [World.frozen?, show wr.heap[w.heap.size]? = _ from hr]
      have hr8 : n % 8 < 8 := by omega
      have en : n = 8 * (n / 8) + n % 8 := by omega
      have HST := hide (bitsN_step U m (n / 8) (n % 8) hr8 hqm)
      rw [← en] at HST
      have hby : ((bitsN U m n)[n / 8]'(by rw [bitsN_len]; exact hqm)) = UInt8.ofNat (byteAt U n (n / 8)) := by simp [bitsN]
      have hbl := (byteAt_next U (n / 8) (n % 8) hr8).1
      rw [← en] at hbl
      rw [hby] at cB
      cases hU : U n with
      | false =>
        rw [hU] at cU
        have HR : Hid (BRow wr w.heap.size (bitsN U m (n + 1))) := hide (by
          rw [unhide HST]
          have e : (bitsN U m n).set (n / 8) (UInt8.ofNat (byteAt U n (n / 8) + 0)) = bitsN U m n := by rw [Nat.add_zero, ← hby]; exact List.set_getElem_self _
          simp only [hU]
          rw [show (if false = true then 2 ^ (n % 8) else 0) = 0 from rfl, e]
          exact hr)
        have HG := hide hg
        clear HST hby hr hg en hmp
        go_wp2
        go_roundw
        case rel => exact ⟨n + 1, rfl, by omega, unhide HR, unhide HG⟩
        case measure => simp [intOf]; omega
      | true =>
        rw [hU] at cU
        obtain ⟨x, hx⟩ : ∃ x, x = byteAt U n (n / 8) := ⟨_, rfl⟩
        rw [← hx] at cB hbl HST hby
        have hxs : x < 256 := Nat.lt_of_lt_of_le hbl (by have : 2 ^ (n % 8) ≤ 2 ^ 7 := Nat.pow_le_pow_right (by omega) (by omega); omega)
        have hxv : ((UInt8.ofNat x).toNat : Int) = (x : Int) := by simp; omega
        have HEN := hide en
        have HX := hide hx
        have HR := hide hr
        have HG := hide hg
        have HBL := hide hbl
        clear hby en hx hr hg hmp hbl
        go_wp2_with fail
        go_region
        have hp : (2 : Int) ^ (n % 8) = ((2 ^ (n % 8) : Nat) : Int) := by push_cast; rfl
        have hp7 : 2 ^ (n % 8) ≤ 2 ^ 7 := Nat.pow_le_pow_right (by omega) (by omega)
        have hval : bits BinOp.or IntKind.u8 ((x : Int) % 256) ((2 : Int) ^ (n % 8) % 256) = ((UInt8.ofNat (x + 2 ^ (n % 8))).toNat : Int) := by
          have hb := unhide HBL
          rw [hp, show (x : Int) % 256 = (x : Int) by omega, show ((2 ^ (n % 8) : Nat) : Int) % 256 = ((2 ^ (n % 8) : Nat) : Int) by omega, or_bit (n % 8) hr8 x hb]
          simp only [UInt8.toNat_ofNat']
          congr 1
          omega
        rw [hval]
        have HR2 : Hid (BRow (wr.setCell ⟨w.heap.size, n / 8, none⟩ (bv (UInt8.ofNat (x + 2 ^ (n % 8))))).drew w.heap.size (bitsN U m (n + 1))) := hide (by
          have := (unhide HR).set (n / 8) (UInt8.ofNat (x + 2 ^ (n % 8)))
          rw [unhide HST]
          simp only [hU, if_true]
          exact this)
        have HG2 : Hid (w.grownBy (wr.setCell ⟨w.heap.size, n / 8, none⟩ (bv (UInt8.ofNat (x + 2 ^ (n % 8))))).drew none) := hide (by
          have hgs := (unhide HG).andThen (setCell_grown wr w.heap.size (n / 8) (bv (UInt8.ofNat (x + 2 ^ (n % 8))))) (fun j e => by cases e; exact .inl (Nat.le_refl _))
          exact ⟨hgs.os, hgs.tape, hgs.output, hgs.size, hgs.block⟩)
        clear hval hp hp7
        go_wp2
        go_roundw
        case rel => exact ⟨n + 1, rfl, by omega, unhide HR2, unhide HG2⟩
        case measure => simp [intOf]; omega
    · have hlt' : ¬ (n : Int) < (B : Int) := by omega
      obtain rfl : n = B := by omega
      have HR := hide hr
      have HG := hide hg
      clear hr hg hmp
      go_wp2
      go_ret
      refine ⟨.slice (some ⟨w.heap.size, 0, none⟩) m m, rfl, ?_, unhide HG⟩
      have hr' := unhide HR
      refine ⟨by simp, .inr ⟨w.heap.size, m, _, by rw [bitsN_len], Nat.le_refl _, hr', by rw [bitsN_len]; omega, by unfold maxLen; have := unhide Hm; omega, by simp [bitsN_len], by simp [bitsN_len]; exact List.take_of_length_le (by simp [bitsN_len])⟩⟩

theorem PutUint_nil (n : Nat) (w : World) (hn : n ≤ 18446744073709551615) :
    Calls Try.prog 38 #[.slice none 0 0, .int .u64 n] w fun e w' => ∃ v', e = .returned v' ∧ Own w' w.heap.size v' (lay n) ∧ Below w.heap.size w w' := by
  have hv : Sl w (.slice none 0 0) [] := ⟨none, 0, rfl, by simp, by simp [maxLen], fun h => absurd rfl h⟩
  go_enter Try.func38, Try.ntmps38
  go_wp2_with (first | (go_at_call 44; refine (closed_any _ [] _ hv).mono ?_; rintro e w' ⟨v1, rfl, hroom, rfl⟩) | (go_at_call 43; refine (layUint_at w.heap.size _ [] _ n _ (Nat.le_refl _) (Or.inr hroom) (by simp) hn rfl).mono ?_; rintro e w' ⟨v2, rfl, hown, hbel⟩))
  go_ret
  exact ⟨_, rfl, by simpa using hown, hbel⟩

/-- A map as bytes. -/
def tell (B : Nat) (U : Nat → Bool) : List UInt8 := lay B ++ bitsN U ((B + 7) / 8) B

set_option maxHeartbeats 1000000 in
theorem Bytes_any (w : World) (b B : Nat) (U V : Nat → Bool) (h : MapAt w b B U V) :
    Calls Try.prog 23 #[.pointer (some ⟨b, 0, none⟩)] w fun e w' => ∃ v, e = .returned v ∧ Own w' w.heap.size v (tell B U) ∧ w.grownBy w' none := by
  have c0 := h.num
  have hB := h.le
  have hBi : (B : Int) ≤ 512 := by omega
  have HM := hide h
  clear h
  go_enter Try.func23, Try.ntmps23
  go_wp2_with fail
  refine (PutUint_nil B w (by omega)).mono ?_
  rintro e w1 ⟨v1, rfl, o1, b1⟩
  have g1 := grown_of_below b1
  have HM1 := hide ((unhide HM).grown g1 (by simp))
  have HO1 := hide o1
  have HG1 := hide g1
  clear o1 b1 g1 c0
  go_wp2_with fail
  refine (bits_any w1 b B U V (unhide HM1)).mono ?_
  rintro e w2 ⟨v2, rfl, o2, g2⟩
  have HO2 : Hid (Own w2 w.heap.size v1 (lay B)) := hide ((unhide HO1).below (below_of_grown g2) (Nat.le_refl _))
  have HS2 := hide o2.sl
  have HG2 : Hid (w.grownBy w2 none) := hide ((unhide HG1).trans g2)
  have hl1 := lay_len B
  have hl2 := bitsN_len U ((B + 7) / 8) B
  have HLn : Hid ((lay B).length + (bitsN U ((B + 7) / 8) B).length ≤ 140737488355328) := hide (by omega)
  have HBs : Hid (w.heap.size ≤ w2.heap.size) := hide (unhide HG2).size
  clear o2 g2 hl1 hl2
  go_wp2_with (at_builtin; refine wpList_append_mine rfl (.tmp 10) (.tmp 12) rfl w.heap.size _ (lay B) rfl (unhide HO2) _ (bitsN U ((B + 7) / 8) B) rfl (unhide HS2) (unhide HLn) (unhide HBs) ?_; intro v' w3 ho hb3; have HO3 := hide ho; have HB3 := hide hb3; clear ho hb3)
  go_ret
  exact ⟨_, rfl, unhide HO3, grown_of_below ((below_of_grown (unhide HG2)).trans (unhide HB3))⟩
theorem Bytes_nil (w : World) : Calls Try.prog 23 #[.pointer none] w fun e w' => e = .returned (.slice none 0 0) ∧ w' = w := by
  go_enter Try.func23, Try.ntmps23
  go_wp2
  go_ret
  exact ⟨rfl, rfl⟩
end Go.Proofs.Ytmnmciajldoabaa
