/-
  DERIVED. The walk of the document's Sum.
-/
import Derived.Test.YtoclnnkeabbicaaLent
import Derived.Test.YtoclnnkeabbicaaMath2
namespace Go.Proofs.Ytoclnnkeabbicaa
open Go.RowKit

def stpN : Nat → Nat → Nat
  | 0, r => r
  | j + 1, r => stp (stpN j r)
theorem stpN_lt : ∀ j {r : Nat}, r < 4294967296 → stpN j r < 4294967296
  | 0, _, h => h
  | j + 1, _, h => stp_lt (stpN_lt j h)

set_option maxHeartbeats 2000000 in
set_option maxRecDepth 100000 in
theorem rSum_some (b off cap : Nat) (l : List UInt8) (w : World) (h1 : l.length ≤ cap) (h2 : cap ≤ 9223372036854775807)
    (hc : ∀ i, (h : i < l.length) → w.cell? ⟨b, off + i, none⟩ = some (bv l[i])) :
    Calls Try.prog 42 #[.slice (some ⟨b, off, none⟩) l.length cap] w fun e w' => e = .returned (.int .u32 (crc l : Nat)) ∧ w = w' := by
  have hln : l.length ≤ 9223372036854775807 := by omega
  go_enter Try.func42, Try.ntmps42
  go_wp2
  go_loop [3, 4, 5, 6] (fun r i _ _ => ∃ k : Nat, k ≤ l.length ∧ i = .int .i64 k ∧ r = .int .u32 (crcRR 4294967295 (l.take k) : Nat)) (fun _ i _ _ => l.length - (intOf i).toNat)
  case atStart => exact ⟨0, by omega, rfl, rfl⟩
  case round =>
    obtain ⟨k, hk, rfl, rfl⟩ := hrel
    have hr := crcRR_lt (l.take k) 4294967295 (by decide)
    obtain ⟨r, hre⟩ : ∃ r, r = crcRR 4294967295 (l.take k) := ⟨_, rfl⟩
    rw [← hre] at hr ⊢
    by_cases hlt : k < l.length
    · have hcx := hc k hlt
      obtain ⟨c, hcc⟩ : ∃ c, c = l[k] := ⟨_, rfl⟩
      rw [← hcc] at hcx
      have hc8 := c.toNat_lt
      have hx := xor_u32 r c.toNat hr (by omega)
      have hq := xor_byte_lt hr c
      have HN : Hid (crcRR 4294967295 (l.take (k + 1)) = stp8 (r ^^^ c.toNat)) := hide (by rw [take_snoc l k hlt, ← hcc, crcRR_snoc, hre])
      have HH := hide hc
      clear hre hcc hc
      obtain ⟨q, hqe⟩ : ∃ q, q = r ^^^ c.toNat := ⟨_, rfl⟩
      rw [← hqe] at hx hq HN
      clear hqe
      go_wp2
      go_loop [3, 5, 6] (fun r j _ => ∃ m : Nat, m ≤ 8 ∧ j = .int .i64 m ∧ r = .int .u32 (stpN m q : Nat)) (fun _ j _ => 8 - (intOf j).toNat)
      case atStart => exact ⟨0, by omega, rfl, rfl⟩
      case round =>
        obtain ⟨m, hm, rfl, rfl⟩ := hrel
        have hs := stpN_lt m hq
        obtain ⟨s, hse⟩ : ∃ s, s = stpN m q := ⟨_, rfl⟩
        rw [← hse] at hs ⊢
        have HS := hide hse
        clear hse
        by_cases hm8 : m < 8
        · have hxp := xor_u32 (s / 2) 2197175160 (by omega) (by decide)
          have hxp' : bits .xor .u32 ((s : Int) / 2) 2197175160 = ((s / 2 ^^^ 2197175160 : Nat) : Int) := by rw [← hxp]; rfl
          clear hxp
          by_cases ho : s % 2 = 1
          · have ho' : ((s : Int) % 2 == 1) = true := beq_iff_eq.2 (by omega)
            have HE : Hid (stpN (m + 1) q = s / 2 ^^^ 2197175160) := hide (by rw [stpN, ← unhide HS, stp, if_pos ho])
            clear ho
            go_wp2
            go_round
            case rel => exact ⟨m + 1, by omega, by go_num, by rw [unhide HE]⟩
            case measure => simp [intOf]; omega
          · have ho' : ((s : Int) % 2 == 1) = false := beq_eq_false_iff_ne.2 (by omega)
            have HE : Hid (stpN (m + 1) q = s / 2) := hide (by rw [stpN, ← unhide HS, stp, if_neg ho])
            clear ho
            go_wp2
            go_round
            case rel => exact ⟨m + 1, by omega, by go_num, by rw [unhide HE]; go_num⟩
            case measure => simp [intOf]; omega
        · obtain rfl : m = 8 := by omega
          have HQ : Hid (crcRR 4294967295 (l.take (k + 1)) = s) := hide (by rw [unhide HN, unhide HS]; rfl)
          go_wp2
          go_round
          case rel => exact ⟨k + 1, by omega, by go_num, by rw [unhide HQ]⟩
          case measure => simp [intOf]; omega
    · have hxm : bits .xor .u32 (r : Int) 4294967295 = ((crc l : Nat) : Int) := by
        have := xor_u32 r 4294967295 hr (by decide)
        rw [hre, List.take_of_length_le (by omega), ← crcR_eq] at this ⊢
        exact this
      have HX := hide hxm
      clear hre hxm
      go_wp2
      go_ret
      rw [← unhide HX]
      exact ⟨rfl, rfl⟩

theorem rSum_any (v : Value) (l : List UInt8) (w : World) (hv : Sl w v l) :
    Calls Try.prog 42 #[v] w fun e w' => e = .returned (.int .u32 (crc l : Nat)) ∧ w = w' := by
  rcases hv.cases with ⟨rfl, ao, rfl⟩ | ⟨b, off, cap, rfl, h1, h2, h3, hc⟩
  · go_enter Try.func42, Try.ntmps42
    go_wp2
    refine wp_loop_rounds 1 ?_
    rw [rounds_succ]
    go_wp2
    go_ret
    exact ⟨rfl, rfl⟩
  · exact rSum_some b off cap l w h1 h2 hc
end Go.Proofs.Ytoclnnkeabbicaa
