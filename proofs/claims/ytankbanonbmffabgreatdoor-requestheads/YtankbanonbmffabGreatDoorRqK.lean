/-
  DERIVED. The walk of strconv.ParseInt at base 16, of a few digits; of size.
-/
import Derived.Test.YtankbanonbmffabGreatDoorRqJ
namespace Go.Proofs.YtankbanonbmffabGreatDoor
open Go.RowKit
set_option linter.unusedVariables false

set_option maxRecDepth 100000 in
theorem hex_facts : ∀ n, n < 256 → qHex (UInt8.ofNat n) = true → qHexV (UInt8.ofNat n) < 16 ∧ (UInt8.ofNat n).toNat ≠ 95 ∧ (UInt8.ofNat n).toNat ≠ 43 ∧ (UInt8.ofNat n).toNat ≠ 45 ∧ (digitB (UInt8.ofNat n) = false → bits .or .u8 ((UInt8.ofNat n).toNat : Int) 32 = ((qHexV (UInt8.ofNat n) + 87 : Nat) : Int) ∧ 10 ≤ qHexV (UInt8.ofNat n)) := by decide +kernel
theorem hex_fact (c : UInt8) : qHex c = true → qHexV c < 16 ∧ c.toNat ≠ 95 ∧ c.toNat ≠ 43 ∧ c.toNat ≠ 45 ∧ (digitB c = false → bits .or .u8 (c.toNat : Int) 32 = ((qHexV c + 87 : Nat) : Int) ∧ 10 ≤ qHexV c) :=
  all_bytes (fun c => qHex c = true → qHexV c < 16 ∧ c.toNat ≠ 95 ∧ c.toNat ≠ 43 ∧ c.toNat ≠ 45 ∧ (digitB c = false → bits .or .u8 (c.toNat : Int) 32 = ((qHexV c + 87 : Nat) : Int) ∧ 10 ≤ qHexV c)) hex_facts c

theorem qSz_snoc (s : List UInt8) (c : UInt8) : qSz (s ++ [c]) = 16 * qSz s + qHexV c := by unfold qSz; rw [List.foldl_append]; rfl
theorem qSz_lt : ∀ (k : Nat) (s : List UInt8), s.length ≤ k → s.all qHex = true → qSz s < 16 ^ k
  | k, s, h, ha => by
    rcases List.eq_nil_or_concat s with rfl | ⟨r, c, rfl⟩
    · show 0 < 16 ^ k; exact Nat.pos_of_ne_zero (by simp)
    · rw [List.concat_eq_append] at h ha ⊢
      simp only [List.length_append, List.length_cons, List.length_nil] at h
      obtain ⟨j, rfl⟩ : ∃ j, k = j + 1 := ⟨k - 1, by omega⟩
      rw [List.all_append] at ha
      simp only [Bool.and_eq_true] at ha
      have h1 := qSz_lt j r (by omega) ha.1
      have h2 := (hex_fact c (by simpa using ha.2)).1
      rw [qSz_snoc, Nat.pow_succ]
      omega
  termination_by k s => s.length
  decreasing_by all_goals (subst_vars; simp [List.concat_eq_append] at *)

set_option maxHeartbeats 8000000 in
set_option maxRecDepth 20000 in
theorem ParseUint16_any (s : List UInt8) (w : World) (h0 : s ≠ []) (h4 : s.length ≤ 4) (ha : s.all qHex = true) :
    Calls Tryz.prog 84 #[qv s, .int .i64 16, .int .i64 0] w fun e w' => e = .returned (.tuple #[.int .u64 ((qSz s : Nat) : Int), .nilIface]) ∧ Below w.heap.size w w' := by
  obtain ⟨cap, w1, hcv, sm, b1, hc1, hc2⟩ := conv_small w s (by omega)
  have HB1 := hide b1
  have HS1 := hide sm
  have HA := hide ha
  have hse : (s == []) = false := beq_eq_false_iff_ne.2 h0
  have w64a : IntKind.u64.wrap 18446744073709551616 = 0 := by decide
  have w64b : IntKind.u64.wrap (-1) = 18446744073709551615 := by decide
  clear b1 sm ha h0
  go_enter Tryz.func84, Tryz.ntmps84
  go_wp2_with fail
  clear hcv
  go_loopw [12, 13, 15, 16, 17, 101] (fun u n _ _ _ i wr => ∃ (k : Nat) (n0 : Int), k ≤ s.length ∧ u = .bool false ∧ n = .int .u64 n0 ∧ i = .int .i64 k ∧ Hid (n0 = ((qSz (s.take k) : Nat) : Int)) ∧ Hid (wr = w1)) (fun _ _ _ _ _ i _ => s.length - (intOf i).toNat)
  case atStart => exact ⟨0, 0, by omega, rfl, rfl, rfl, hide rfl, hide rfl⟩
  case round =>
    obtain ⟨k, n0, hk, rfl, rfl, rfl, HN, HW⟩ := hrel
    by_cases hlt : k < s.length
    · obtain ⟨d, hd⟩ : ∃ d, s[k]? = some d := ⟨_, List.getElem?_eq_getElem hlt⟩
      obtain ⟨c0, f0⟩ := (unhide HS1).at hd
      rw [← unhide HW] at c0 f0
      have hhex : qHex d = true := List.all_eq_true.1 (unhide HA) d (List.mem_of_getElem? hd)
      obtain ⟨g1, g2, -, -, g5⟩ := hex_fact d hhex
      obtain ⟨v, hv⟩ : ∃ v : Int, v = (qHexV d : Int) := ⟨_, rfl⟩
      obtain ⟨m, hm⟩ : ∃ m : Int, m = n0 * 16 := ⟨_, rfl⟩
      obtain ⟨n1, hn1⟩ : ∃ n1 : Int, n1 = m + v := ⟨_, rfl⟩
      have hsz : qSz (s.take k) < 65536 := Nat.lt_of_lt_of_le (qSz_lt k (s.take k) (by simp; omega) (by
        rw [List.all_eq_true]; exact fun x hx => List.all_eq_true.1 (unhide HA) x (List.mem_of_mem_take hx))) (by
        have : k ≤ 4 := by omega
        exact Nat.pow_le_pow_right (n := 16) (by decide) this)
      have HN1 : Hid (n1 = ((qSz (s.take (k + 1)) : Nat) : Int)) := hide (by
        rw [List.take_add_one, hd]
        show n1 = ((qSz (s.take k ++ [d]) : Nat) : Int)
        rw [qSz_snoc]
        have := unhide HN
        omega)
      have hn0 : 0 ≤ n0 ∧ n0 < 65536 := by have := unhide HN; omega
      have q1 : decide ((1152921504606846976 : Int) ≤ n0) = false := decide_eq_false (by omega)
      have q2 : IntKind.u64.wrap (n0 * 16) = m := by simp [IntKind.wrap, IntKind.signed, IntKind.bits]; omega
      have q3 : IntKind.u64.wrap (m + v) = n1 := by simp [IntKind.wrap, IntKind.signed, IntKind.bits]; omega
      have q4 : decide (n1 < m) = false := decide_eq_false (by omega)
      have q5 : decide ((18446744073709551615 : Int) < n1) = false := decide_eq_false (by omega)
      have q6 : decide ((16 : Int) ≤ v) = false := decide_eq_false (by omega)
      have q7 : IntKind.u64.wrap v = v := by simp [IntKind.wrap, IntKind.signed, IntKind.bits]; omega
      have e95 : ((d.toNat : Int) == 95) = false := u8_ne g2
      cases hdg : digitB d with
      | true =>
        have h48 : 48 ≤ d.toNat ∧ d.toNat ≤ 57 := by unfold digitB at hdg; simp at hdg; omega
        have hvd : v = (d.toNat : Int) - 48 := by rw [hv]; unfold qHexV; rw [if_pos hdg]; omega
        have p1 : (48 : Int) ≤ d.toNat := by omega
        have p2 : (d.toNat : Int) ≤ 57 := by omega
        have p3 : IntKind.u8.wrap ((d.toNat : Int) - 48) = v := by simp [IntKind.wrap, IntKind.signed, IntKind.bits]; omega
        clear h48 hvd hdg hd hv hm hn1 hsz hn0 g1 g2 g5 hhex
        go_wp2_with fail
        go_roundw
        case rel => exact ⟨k + 1, n1, by omega, rfl, rfl, by go_num, HN1, HW⟩
        case measure => simp [intOf]; omega
      | false =>
        obtain ⟨g6, g7⟩ := g5 hdg
        obtain ⟨lw, hlw⟩ : ∃ lw : Int, lw = ((qHexV d + 87 : Nat) : Int) := ⟨_, rfl⟩
        have HLo : Hid (∀ W, Calls Tryz.prog 92 #[bv d] W fun e w' => e = .returned (.int .u8 lw) ∧ w' = W) := hide (fun W => by
          have := Tryz.internal_strconv_lower (d.toNat : Int) W
          rw [g6, ← hlw] at this
          exact this)
        have p1 : (97 : Int) ≤ lw := by omega
        have p2 : lw ≤ 122 := by omega
        have p3 : IntKind.u8.wrap (IntKind.u8.wrap (lw - 97) + 10) = v := by simp [IntKind.wrap, IntKind.signed, IntKind.bits]; omega
        have p4 : IntKind.u8.wrap (lw - 97) = lw - 97 := by simp [IntKind.wrap, IntKind.signed, IntKind.bits]; omega
        have p5 : IntKind.u8.wrap (lw - 97 + 10) = v := by simp [IntKind.wrap, IntKind.signed, IntKind.bits]; omega
        have hnd : (48 : Int) ≤ d.toNat ∧ decide ((d.toNat : Int) ≤ 57) = false := by
          unfold digitB at hdg; unfold qHex qLow qHigh digitB at hhex
          simp at hdg hhex ⊢; omega
        obtain ⟨p6, p7⟩ := hnd
        clear hdg hd hv hm hn1 hsz hn0 g1 g2 g5 g6 g7 hhex hlw
        go_wp2_with (go_at_call 92; refine (unhide HLo _).mono ?_; rintro e w2 ⟨rfl, rfl⟩)
        go_roundw
        case rel => exact ⟨k + 1, n1, by omega, rfl, rfl, by go_num, HN1, HW⟩
        case measure => simp [intOf]; omega
    · have HE : Hid (n0 = ((qSz s : Nat) : Int)) := hide (by have := unhide HN; rwa [List.take_of_length_le (by omega)] at this)
      go_wp2_with fail
      go_ret2
      rw [unhide HE, unhide HW]
      exact ⟨rfl, unhide HB1⟩

set_option maxHeartbeats 2000000 in
set_option maxRecDepth 20000 in
theorem ParseInt16i_any (s : List UInt8) (w : World) (h0 : s ≠ []) (h4 : s.length ≤ 4) (ha : s.all qHex = true) :
    Calls Tryz.prog 67 #[qv s, .int .i64 16, .int .i64 0] w fun e w' => e = .returned (.tuple #[.int .i64 ((qSz s : Nat) : Int), .nilIface]) ∧ Below w.heap.size w w' := by
  have HU := hide (ParseUint16_any s w h0 h4 ha)
  have hz := qSz_lt 4 s h4 ha
  obtain ⟨c, r, rfl⟩ : ∃ c r, s = c :: r := by
    cases s with
    | nil => exact absurd rfl h0
    | cons c r => exact ⟨c, r, rfl⟩
  have hB := qbyte_at (s := c :: r) (k := 0) (c := c) rfl
  obtain ⟨-, -, g3, g4, -⟩ := hex_fact c (List.all_eq_true.1 ha c (by simp))
  have e43 : ((c.toNat : Int) == 43) = false := u8_ne g3
  have e45 : ((c.toNat : Int) == 45) = false := u8_ne g4
  obtain ⟨s, hs⟩ : ∃ s, s = c :: r := ⟨_, rfl⟩
  have hse : (s == []) = false := by rw [hs]; rfl
  have hpos : 0 < s.length := by rw [hs]; simp
  rw [← hs] at HU hz hB ⊢
  obtain ⟨n, hn⟩ : ∃ n : Int, n = ((qSz s : Nat) : Int) := ⟨_, rfl⟩
  rw [← hn] at HU ⊢
  have w63 : IntKind.u64.wrap 9223372036854775808 = 9223372036854775808 := by decide
  have q1 : decide ((9223372036854775808 : Int) ≤ n) = false := decide_eq_false (by omega)
  have q2 : IntKind.i64.wrap n = n := by rw [IntKind.wrap_i64]; omega
  clear hs hn hz g3 g4 h0 h4 ha
  go_enter Tryz.func67, Tryz.ntmps67
  go_wp2_with (go_at_call 84; refine (unhide HU).mono ?_; rintro e w1 ⟨rfl, b1⟩; have HB1 := hide b1; clear b1)
  go_ret2
  exact ⟨rfl, unhide HB1⟩

theorem ParseInt16_any (s : List UInt8) (w : World) (h0 : s ≠ []) (h4 : s.length ≤ 4) (ha : s.all qHex = true) :
    Calls Tryz.prog 65 #[qv s, .int .i64 16, .int .i64 0] w fun e w' => e = .returned (.tuple #[.int .i64 ((qSz s : Nat) : Int), .nilIface]) ∧ Below w.heap.size w w' := by
  have HU := hide (ParseInt16i_any s w h0 h4 ha)
  obtain ⟨n, hn⟩ : ∃ n : Int, n = ((qSz s : Nat) : Int) := ⟨_, rfl⟩
  rw [← hn] at HU ⊢
  clear hn h0 h4 ha
  go_enter Tryz.func65, Tryz.ntmps65
  go_wp2_with (go_at_call 67; refine (unhide HU).mono ?_; rintro e w1 ⟨rfl, b1⟩; have HB1 := hide b1; clear b1)
  go_ret2
  exact ⟨rfl, unhide HB1⟩

/-- A size's line. -/
def qSizeL (s : List UInt8) : Rs Nat := match qLine 0 s with
  | .no e => .no e
  | .ok l n => if qSize l then .ok (qSz l) n else .no 400

theorem qSize_facts {l : List UInt8} (h : qSize l = true) : l ≠ [] ∧ l.length ≤ 4 ∧ l.all qHex = true := by
  unfold qSize at h
  simp only [Bool.and_eq_true, decide_eq_true_eq] at h
  exact ⟨fun e => by rw [e] at h; simp at h, h.1.2, h.2⟩

set_option maxRecDepth 20000 in
theorem size_any (g : Nat) (R : Rd) (w : World) (h : RdAt w g R) : Calls Tryz.prog 40 #[.pointer (some ⟨g, 0, none⟩)] w (QEnds (qSizeL (R.s.drop R.at')) (fun n => .int .i64 (n : Int)) g R w) := by
  have HC := hide (line_any g R w h)
  unfold qSizeL
  cases hq : qLine 0 (R.s.drop R.at') with
  | no s =>
    rw [hq] at HC
    clear h hq
    go_enter Tryz.func40, Tryz.ntmps40
    go_wp2_with (go_at_call 13; refine (unhide HC).mono ?_; rintro e w1 ⟨rfl, q1⟩; have HQ := hide q1; clear q1)
    exact ⟨rfl, rfl, unhide HQ⟩
  | ok l n =>
    rw [hq] at HC
    have hll := (qLine_ok _ _ _ _ hq).2.2.1 (by omega)
    have HS := hide (fun W => isSize_any l W (by omega))
    simp only
    cases hsz : qSize l with
    | false =>
      rw [hsz] at HS
      have HE : Hid ((if false = true then Rs.ok (qSz l) n else Rs.no 400) = Rs.no 400) := hide (by simp)
      rw [unhide HE]
      clear h hq hll hsz
      go_enter Tryz.func40, Tryz.ntmps40
      go_wp2_with (first | (go_at_call 13; refine (unhide HC).mono ?_; rintro e w1 ⟨⟨rfl, r1⟩, q1⟩; have HQ := hide q1; clear q1 r1) | (go_at_call 64; refine (unhide HS _).mono ?_; rintro e w2 ⟨rfl, rfl⟩) | (go_at_call 14; refine (need_no 400 _).mono ?_; rintro e w2 ⟨rfl, rfl⟩))
      exact ⟨rfl, rfl, unhide HQ⟩
    | true =>
      rw [hsz] at HS
      obtain ⟨a1, a2, a3⟩ := qSize_facts hsz
      have HP := hide (fun W => ParseInt16_any l W a1 a2 a3)
      have hz := qSz_lt 4 l a2 a3
      have HE : Hid ((if true = true then Rs.ok (qSz l) n else Rs.no 400) = Rs.ok (qSz l) n) := hide (by simp)
      rw [unhide HE]
      obtain ⟨z, hz2⟩ : ∃ z : Int, z = ((qSz l : Nat) : Int) := ⟨_, rfl⟩
      have wr : IntKind.i64.wrap z = z := by rw [IntKind.wrap_i64]; omega
      have HZ := hide hz2
      rw [← hz2] at HP
      clear h hq hll hsz a1 a2 a3 hz hz2
      go_enter Tryz.func40, Tryz.ntmps40
      go_wp2_with (first | (go_at_call 13; refine (unhide HC).mono ?_; rintro e w1 ⟨⟨rfl, r1⟩, q1⟩; have HQ := hide q1; have HR := hide r1; clear q1 r1) | (go_at_call 64; refine (unhide HS _).mono ?_; rintro e w2 ⟨rfl, rfl⟩) | (go_at_call 14; refine (need_ok 400 _).mono ?_; rintro e w2 ⟨rfl, rfl⟩) | (go_at_call 65; refine (unhide HP _).mono ?_; rintro e w3 ⟨rfl, b3⟩; have HQ3 := hide ((unhide HQ).trans (QF.of b3)); have HR3 := hide ((unhide HR).same (b3.block g (unhide HR).lt)); clear b3))
      go_ret
      exact ⟨⟨by rw [unhide HZ]; rfl, unhide HR3⟩, unhide HQ3⟩
end Go.Proofs.YtankbanonbmffabGreatDoor
