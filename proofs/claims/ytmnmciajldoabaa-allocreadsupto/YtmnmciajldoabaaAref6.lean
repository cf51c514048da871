/-
  DERIVED. The document's map: Bytes.
-/
import Derived.Test.YtmnmciajldoabaaAref3
import Derived.Test.YtmnmciajldoabaaAbits
import Derived.Test.YtmnmciajldoabaaIrput
namespace Go.Proofs.Ytmnmciajldoabaa
open Go.RowKit
set_option linter.unusedVariables false

def bit1 (U : Nat → Bool) (B j : Nat) : Nat := if j < B ∧ U j = true then 1 else 0
theorem bit1_le (U : Nat → Bool) (B j : Nat) : bit1 U B j ≤ 1 := by unfold bit1; split <;> omega
/-- A byte as the document makes it: m of its bits, from above. -/
def hx (U : Nat → Bool) (B i : Nat) : Nat → Nat
  | 0 => 0
  | m + 1 => 2 * hx U B i m + bit1 U B (8 * i + (7 - m))
theorem hx_lt (U : Nat → Bool) (B i : Nat) : ∀ m, hx U B i m < 2 ^ m
  | 0 => by simp [hx]
  | m + 1 => by
    have h1 := hx_lt U B i m
    have h2 := bit1_le U B (8 * i + (7 - m))
    rw [hx, Nat.pow_succ]
    omega
theorem cond_bit (U : Nat → Bool) (B j x : Nat) : (if j < B ∧ U j = true then x else 0) = x * bit1 U B j := by unfold bit1; split <;> simp
theorem hx_full (U : Nat → Bool) (B i : Nat) : hx U B i 8 = byteAt U B i := by
  rw [byteAt_eq]
  simp only [cond_bit, hx]
  simp only [show 7 - 0 = 7 from rfl, show 7 - 1 = 6 from rfl, show 7 - 2 = 5 from rfl, show 7 - 3 = 4 from rfl, show 7 - 4 = 3 from rfl, show 7 - 5 = 2 from rfl, show 7 - 6 = 1 from rfl, show 7 - 7 = 0 from rfl]
  omega
theorem hx_255 (U : Nat → Bool) (B i m : Nat) (hm : m ≤ 8) : hx U B i m ≤ 255 := by
  have h1 := hx_lt U B i m
  have h2 : 2 ^ m ≤ 2 ^ 8 := Nat.pow_le_pow_right (by omega) hm
  omega
theorem bitsN_snoc (U : Nat → Bool) (m n : Nat) : bitsN U (m + 1) n = bitsN U m n ++ [UInt8.ofNat (byteAt U n m)] := by simp [bitsN, List.range_succ]

set_option maxHeartbeats 4000000 in
theorem rBytes_any (w : World) (N b B : Nat) (v1 v2 : Value) (U V : Nat → Bool) (h : RmAt w N b B v1 v2 U V) :
    Calls Try.prog 32 #[.pointer (some ⟨b, 0, none⟩)] w fun e w' => ∃ v, e = .returned v ∧ Own w' w.heap.size v (tell B U) ∧ w.grownBy w' none := by
  have HM := hide h
  have hle := h.le
  have hBI : (B : Int) ≤ 512 := by omega
  have c0 := h.c0
  obtain ⟨o1, p1, hv1, q1, q2, _⟩ := h.now.form
  subst hv1
  clear h
  go_enter Try.func32, Try.ntmps32
  go_wp2_with fail
  refine (rPutUint_at _ B w (by omega) (by first | rfl | omega)).mono ?_
  rintro e w1 ⟨u1, rfl, o1', b1⟩
  have HO1 := hide o1'
  have HG1 := hide (grown_of_below b1)
  clear o1' b1 c0
  go_wp2
  go_loopw [3, 4] (fun a j wr => ∃ (i e : Nat), j = .int .i64 (e : Int) ∧ e ≤ 519 ∧ Hid (e = 8 * i ∧ i ≤ (B + 7) / 8) ∧ Own wr w.heap.size a (lay B ++ bitsN U i B) ∧ w.grownBy wr none) (fun _ j _ => 520 - (intOf j).toNat)
  case atStart => exact ⟨0, 0, rfl, by omega, hide ⟨rfl, by omega⟩, by simpa [bitsN] using unhide HO1, unhide HG1⟩
  case round =>
    obtain ⟨i, e, rfl, he, HE, hO, hG⟩ := hrel
    have HO := hide hO
    have HG := hide hG
    have M2 := hide ((unhide HM).grown hG)
    have c0 := (unhide M2).c0
    clear hO hG HO1 HG1
    by_cases hlt : e < B
    · have hlt' : (e : Int) < (B : Int) := by omega
      rename World => W0
      obtain ⟨oo, pp, ee, -, -, hh⟩ := (unhide M2).now.form
      injection ee with ee1 _ ee2
      subst ee1 ee2
      obtain ⟨g, eg, -, -, -, cz⟩ := hh (by omega)
      subst eg
      have HC := hide cz
      clear cz hh
      go_wp2_with fail
      go_loopw [5, 6] (fun x j wq => ∃ (m : Nat) (xx : Nat), j = .int .i64 ((7 : Int) - (m : Int)) ∧ m ≤ 8 ∧ x = .int .i64 (xx : Int) ∧ Hid (xx = hx U B i m) ∧ wq = W0) (fun _ j _ => (intOf j + 1).toNat)
      case atStart => exact ⟨0, 0, rfl, by omega, rfl, hide rfl, rfl⟩
      case round =>
        obtain ⟨m, xx, rfl, hm8, rfl, HX, hW⟩ := hrel
        subst wr
        have hx255 : xx ≤ 255 := by rw [unhide HX]; exact hx_255 U B i m hm8
        by_cases hm : m ≤ 7
        · obtain ⟨kk, hkk⟩ : ∃ kk : Nat, (7 : Int) - (m : Int) = (kk : Int) := ⟨7 - m, by omega⟩
          have HK : Hid (kk = 7 - m) := hide (by omega)
          have hk7 : kk ≤ 7 := by omega
          rw [hkk]
          clear hkk
          have hj : (e : Int) + (kk : Int) ≤ 600 := by omega
          by_cases hb : e + kk < B
          · have hb' : (e : Int) + (kk : Int) < (B : Int) := by omega
            have z5 := unhide HC (e + kk) hb
            cases hu : U (e + kk) with
            | true =>
              rw [hu] at z5
              have HX2 : Hid (2 * xx + 1 = hx U B i (m + 1)) := hide (by rw [hx, ← unhide HX, bit1, if_pos ⟨by have := (unhide HE).1; have := unhide HK; omega, by rw [← unhide HK, ← (unhide HE).1]; exact hu⟩])
              clear hu HX
              go_wp2
              go_roundw
              case rel => exact ⟨m + 1, 2 * xx + 1, by congr 1; have := unhide HK; omega, by omega, by congr 1, HX2, trivial⟩
              case measure => simp [intOf]
            | false =>
              rw [hu] at z5
              have HX2 : Hid (2 * xx = hx U B i (m + 1)) := hide (by rw [hx, ← unhide HX, bit1, if_neg (fun h => by rw [← unhide HK, ← (unhide HE).1, hu] at h; exact absurd h.2 (by simp))]; rfl)
              clear hu HX
              go_wp2
              go_roundw
              case rel => exact ⟨m + 1, 2 * xx, by congr 1; have := unhide HK; omega, by omega, by congr 1, HX2, trivial⟩
              case measure => simp [intOf]
          · have hb' : ¬ (e : Int) + (kk : Int) < (B : Int) := by omega
            have HX2 : Hid (2 * xx = hx U B i (m + 1)) := hide (by rw [hx, ← unhide HX, bit1, if_neg (fun h => by have := (unhide HE).1; have := unhide HK; omega)]; rfl)
            clear HX
            go_wp2
            go_roundw
            case rel => exact ⟨m + 1, 2 * xx, by congr 1; have := unhide HK; omega, by omega, by congr 1, HX2, trivial⟩
            case measure => simp [intOf]
        · have hm9 : m = 8 := by omega
          subst hm9
          obtain ⟨c, hc⟩ : ∃ c, c = UInt8.ofNat (byteAt U B i) := ⟨_, rfl⟩
          have Hc : Hid ((xx : Int) = (c.toNat : Int)) := hide (by rw [hc, ← hx_full, ← unhide HX]; simp; omega)
          have HL : Hid (lay B ++ bitsN U (i + 1) B = (lay B ++ bitsN U i B) ++ [c]) := hide (by rw [bitsN_snoc, hc, List.append_assoc])
          have hlen : (lay B ++ bitsN U i B).length ≤ 200 := by
            have := lay_len B
            have := (unhide HE).2
            rw [List.length_append, bitsN_len]
            omega
          clear hc HX
          go_wp2_with (at_builtin; refine wpList_append_mine rfl (.tmp 51) (.tmp 54) rfl w.heap.size _ (lay B ++ bitsN U i B) rfl ?hown _ [c] rfl ?hy ?hlen ?hbase ?_)
          case hown => exact (unhide HO).alloc _
          case hy => rw [unhide Hc]; exact Sl.new W0 [c] (by simp [maxLen]) (0, 0)
          case hlen => have : [c].length = 1 := rfl; omega
          case hbase => have := (unhide HG).size; simp; omega
          intro v' w5 hown1 hb1
          have O5 : Hid (Own w5 w.heap.size v' (lay B ++ bitsN U (i + 1) B)) := hide (by rw [unhide HL, List.append_assoc]; exact hown1)
          have G5 := hide (grown_of_below (((below_of_grown (unhide HG)).alloc (unhide HG).size _).trans hb1))
          have HE2 : Hid (e + 8 = 8 * (i + 1) ∧ i + 1 ≤ (B + 7) / 8) := hide (by have := unhide HE; omega)
          clear hown1 hb1 HG HO HE M2 c0
          go_wp2
          go_roundw
          case rel => exact ⟨i + 1, e + 8, rfl, by omega, HE2, unhide O5, unhide G5⟩
          case measure => simp [intOf]; omega
    · have hlt' : ¬ (e : Int) < (B : Int) := by omega
      have HE2 : Hid (i = (B + 7) / 8) := hide (by have := unhide HE; omega)
      go_wp2
      go_ret
      exact ⟨_, rfl, by rw [tell, ← unhide HE2]; exact unhide HO, unhide HG⟩
end Go.Proofs.Ytmnmciajldoabaa
