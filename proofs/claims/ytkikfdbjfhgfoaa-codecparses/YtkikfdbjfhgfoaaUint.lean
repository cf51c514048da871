/-
  DERIVED. The walks of Uint and Int.
-/
import Derived.Test.YtkikfdbjfhgfoaaBase
import Derived.Laws.Bits64b
import Derived.Laws.Closers25b
namespace Go.Proofs.Ytkikfdbjfhgfoaa
open Go.RowKit

theorem ret3 {k1 k2 k3 : IntKind} {a a' b b' c c' : Int} (h1 : a = a') (h2 : b = b') (h3 : c = c') : Ending.returned (.tuple #[.int k1 a, .int k2 b, .int k3 c]) = .returned (.tuple #[.int k1 a', .int k2 b', .int k3 c']) := by rw [h1, h2, h3]

theorem and127 (c : UInt8) : bits BinOp.and IntKind.u8 (c.toNat : Int) 127 = ((c.toNat % 128 : Nat) : Int) :=
  beq_iff_eq.1 (byte_all (fun k => bits BinOp.and IntKind.u8 (k : Int) 127 == ((k % 128 : Nat) : Int)) (by decide +kernel) c.toNat c.toNat_lt)

theorem pow_bd (k m : Nat) (hk : k ≤ 8) (hm : m < 128) : m * 2 ^ (7 * k) < 9223372036854775808 := by
  have h : 2 ^ (7 * k) ≤ 2 ^ 56 := Nat.pow_le_pow_right (by decide) (by omega)
  have h2 : m * 2 ^ (7 * k) ≤ 127 * 2 ^ 56 := Nat.mul_le_mul (by omega) h
  omega
theorem pow_bd9 (k m : Nat) (hk : k ≤ 9) (hm : m ≤ 1) : m * 2 ^ (7 * k) ≤ 9223372036854775808 := by
  have h : 2 ^ (7 * k) ≤ 2 ^ 63 := Nat.pow_le_pow_right (by decide) (by omega)
  have h2 : m * 2 ^ (7 * k) ≤ 1 * 2 ^ 63 := Nat.mul_le_mul (by omega) h
  omega
theorem pow9 (k : Nat) (hk : k ≤ 9) : 2 ^ (7 * k) ≤ 9223372036854775808 := Nat.pow_le_pow_right (by decide) (by omega : 7 * k ≤ 63)

theorem orv (k x : Nat) (c : UInt8) (hk : k ≤ 9) (hx : x < 2 ^ (7 * k)) (h : k ≤ 8 ∨ c.toNat ≤ 1) :
    bits BinOp.or IntKind.u64 (x : Int) (IntKind.u64.wrap (IntKind.u64.wrap (bits BinOp.and IntKind.u8 (c.toNat : Int) 127) * 2 ^ (7 * k))) = ((x + c.toNat % 128 * 2 ^ (7 * k) : Nat) : Int) := by
  have hp := pow9 k hk
  have hm : c.toNat % 128 < 128 := Nat.mod_lt _ (by decide)
  have hb : c.toNat % 128 * 2 ^ (7 * k) ≤ 9223372036854775808 := by
    rcases h with h | h
    · have := pow_bd k _ h hm; omega
    · exact pow_bd9 k _ hk (by omega)
  rw [and127]
  have e1 : IntKind.u64.wrap ((c.toNat % 128 : Nat) : Int) = ((c.toNat % 128 : Nat) : Int) := by rw [IntKind.wrap_u64]; omega
  have e2 : ((c.toNat % 128 : Nat) : Int) * 2 ^ (7 * k) = ((c.toNat % 128 * 2 ^ (7 * k) : Nat) : Int) := by rw [Int.natCast_mul, Int.natCast_pow]; rfl
  rw [e1, e2]
  have e3 : IntKind.u64.wrap ((c.toNat % 128 * 2 ^ (7 * k) : Nat) : Int) = ((c.toNat % 128 * 2 ^ (7 * k) : Nat) : Int) := by rw [IntKind.wrap_u64]; omega
  rw [e3, bits_or_u64_nat _ _ (by omega) (by omega)]
  have := Nat.two_pow_add_eq_or_of_lt hx (c.toNat % 128)
  rw [Nat.or_comm, Nat.mul_comm (c.toNat % 128), ← this, Nat.add_comm]

theorem orv_any (x y : Int) : ∃ n : Nat, n ≤ 18446744073709551615 ∧ bits BinOp.or IntKind.u64 x y = (n : Int) := by
  have h1 := bits_lo_u64 .or x y
  have h2 := bits_hi_u64 .or x y
  exact ⟨(bits BinOp.or IntKind.u64 x y).toNat, by omega, by omega⟩

theorem drop_at {l : List UInt8} {k : Nat} (h : k < l.length) : l.drop k = l[k] :: l.drop (k + 1) := List.drop_eq_getElem_cons h

theorem acc_next (k x m : Nat) (hx : x < 2 ^ (7 * k)) (hm : m < 128) : x + m * 2 ^ (7 * k) < 2 ^ (7 * (k + 1)) := by
  have e : 2 ^ (7 * (k + 1)) = 128 * 2 ^ (7 * k) := by rw [Nat.mul_add, Nat.pow_add]; omega
  have h2 : m * 2 ^ (7 * k) ≤ 127 * 2 ^ (7 * k) := Nat.mul_le_mul_right _ (by omega)
  omega

theorem rd_next {l : List UInt8} {k x : Nat} {c : UInt8} (hk : k < 10) (hl : k < l.length) (hc : c = l[k]) (h : rd l = rdGo k x (l.drop k)) (h1 : 128 ≤ c.toNat) : rd l = rdGo (k + 1) (x + c.toNat % 128 * 2 ^ (7 * k)) (l.drop (k + 1)) := by
  rw [h, drop_at hl, ← hc, rdGo, if_neg (by omega), if_pos h1]
theorem rd_bad {l : List UInt8} {k x : Nat} {c : UInt8} (hk : k < 10) (hl : k < l.length) (hc : c = l[k]) (h : rd l = rdGo k x (l.drop k)) (h1 : c.toNat < 128) (h2 : (0 < k ∧ c.toNat = 0) ∨ (k = 9 ∧ 1 < c.toNat)) : rd l = (0, 0, 11) := by
  rw [h, drop_at hl, ← hc, rdGo, if_neg (by omega), if_neg (by omega), if_pos h2]
theorem rd_good {l : List UInt8} {k x : Nat} {c : UInt8} (hk : k < 10) (hl : k < l.length) (hc : c = l[k]) (h : rd l = rdGo k x (l.drop k)) (h1 : c.toNat < 128) (h2 : ¬ ((0 < k ∧ c.toNat = 0) ∨ (k = 9 ∧ 1 < c.toNat))) : rd l = (x + c.toNat % 128 * 2 ^ (7 * k), k + 1, 0) := by
  rw [h, drop_at hl, ← hc, rdGo, if_neg (by omega), if_neg (by omega), if_neg h2, Nat.mod_eq_of_lt h1]
theorem rd_end {l : List UInt8} {k x : Nat} (h : rd l = rdGo k x (l.drop k)) (hk : ¬ (k < 10 ∧ k < l.length)) (hk1 : k ≤ 10) (hk2 : k ≤ l.length) : rd l = (0, 0, if l.length < 10 then 10 else 11) := by
  rw [h]
  by_cases h1 : k < l.length
  · have : k = 10 := by omega
    subst this
    rw [drop_at h1, rdGo, if_pos (by omega), if_neg (by omega)]
  · rw [List.drop_eq_nil_of_le (by omega), rdGo]
    by_cases h2 : k < 10
    · rw [if_pos h2, if_pos (by omega)]
    · rw [if_neg h2, if_neg (by omega)]

set_option maxHeartbeats 2000000 in
set_option maxRecDepth 100000 in
theorem Uint_some (b off cap : Nat) (l : List UInt8) (w : World) (_h1 : l.length ≤ cap) (_h2 : cap ≤ 9223372036854775807)
    (hc : ∀ i, (h : i < l.length) → w.cell? ⟨b, off + i, none⟩ = some (bv l[i])) :
    Calls Try.prog 14 #[.slice (some ⟨b, off, none⟩) l.length cap] w fun e w' => e = .returned (.tuple #[.int .u64 (rd l).1, .int .i64 (rd l).2.1, .int .i64 (rd l).2.2]) ∧ w = w' := by
  go_enter Try.func14, Try.ntmps14
  go_wp2
  all_goals
    go_loop [5, 11] (fun n i => ∃ k x acc : Nat, k ≤ 10 ∧ k ≤ l.length ∧ i = .int .i64 k ∧ n = .int .u64 x ∧ x ≤ 18446744073709551615 ∧ (k ≤ 9 → x = acc) ∧ Hid (acc < 2 ^ (7 * k)) ∧ Hid (rd l = rdGo k acc (l.drop k))) (fun _ i => 10 - (intOf i).toNat)
    case atStart => exact ⟨0, 0, 0, by omega, by omega, rfl, rfl, by omega, fun _ => rfl, hide (by decide), hide rfl⟩
    case round =>
      obtain ⟨k, x, acc, hk1, hk2, rfl, rfl, hx, hxa, hacc, HR⟩ := hrel
      by_cases hk : k < 10 ∧ k < l.length
      · obtain ⟨hk3, hk4⟩ := hk
        obtain rfl := hxa (by omega)
        have hcx := hc k hk4
        obtain ⟨c, hcc⟩ : ∃ c, c = l[k] := ⟨_, rfl⟩
        rw [← hcc] at hcx
        have Hcc := hide hcc
        clear hcc hc hxa
        by_cases hA : 128 ≤ c.toNat
        · go_wp2
          go_round
          case rel =>
            by_cases h8 : k ≤ 8
            · exact ⟨k + 1, x + c.toNat % 128 * 2 ^ (7 * k), _, by omega, by omega, by go_num, by rw [orv k x c (by omega) (unhide hacc) (.inl h8)], by have := pow_bd k _ h8 (Nat.mod_lt c.toNat (by decide : 128 > 0)); have := pow9 k (by omega); have := unhide hacc; omega, fun _ => rfl, hide (acc_next k x _ (unhide hacc) (Nat.mod_lt _ (by decide))), hide (rd_next hk3 hk4 (unhide Hcc) (unhide HR) hA)⟩
            · obtain ⟨n, hn, en⟩ := orv_any (x : Int) (IntKind.u64.wrap (IntKind.u64.wrap (bits BinOp.and IntKind.u8 (c.toNat : Int) 127) * 2 ^ (7 * k)))
              exact ⟨k + 1, n, _, by omega, by omega, by go_num, by rw [en], hn, fun h => by omega, hide (acc_next k x _ (unhide hacc) (Nat.mod_lt _ (by decide))), hide (rd_next hk3 hk4 (unhide Hcc) (unhide HR) hA)⟩
          case measure => simp [intOf]; omega
        · by_cases hB : (0 < k ∧ c.toNat = 0) ∨ (k = 9 ∧ 1 < c.toNat)
          · have hrd := rd_bad hk3 hk4 (unhide Hcc) (unhide HR) (by omega) hB
            have HF : Hid (rd l = (0, 0, 11)) := hide hrd
            clear hrd
            go_wp2
            all_goals first | (exfalso; omega) | skip
            all_goals
              go_ret3
              rw [unhide HF]
              exact ⟨rfl, rfl⟩
          · have HF : Hid (rd l = (x + c.toNat % 128 * 2 ^ (7 * k), k + 1, 0)) := hide (rd_good hk3 hk4 (unhide Hcc) (unhide HR) (by omega) hB)
            have HO : Hid (bits BinOp.or IntKind.u64 (x : Int) (IntKind.u64.wrap (IntKind.u64.wrap (bits BinOp.and IntKind.u8 (c.toNat : Int) 127) * 2 ^ (7 * k))) = ((x + c.toNat % 128 * 2 ^ (7 * k) : Nat) : Int)) := hide (orv k x c (by omega) (unhide hacc) (by omega))
            rcases (show k < 1 ∨ (1 ≤ k ∧ 1 ≤ c.toNat ∧ k ≤ 8) ∨ (1 ≤ k ∧ 1 ≤ c.toNat ∧ 9 ≤ k ∧ c.toNat ≤ 1) from by omega) with hG | ⟨hG1, hG2, hG3⟩ | ⟨hG1, hG2, hG3, hG4⟩
            rotate_left
            all_goals try have hb0 : ((c.toNat : Int) == 0) = false := beq_eq_false_iff_ne.2 (by omega)
            all_goals
              clear hB hx
              go_wp2
              go_ret3
              rw [unhide HF]
              exact ⟨ret3 (unhide HO) (by show _ = ((k + 1 : Nat) : Int); omega) rfl, rfl⟩
      · have HF := hide (rd_end (unhide HR) hk hk1 hk2)
        by_cases hA : k < l.length
        all_goals go_wp2
        all_goals
          go_ret3
          rw [unhide HF]
          exact ⟨ret3 rfl rfl (by show _ = ((if l.length < 10 then 10 else 11 : Nat) : Int); split <;> omega), rfl⟩

theorem Uint_any (v : Value) (l : List UInt8) (w : World) (hv : Sl w v l) :
    Calls Try.prog 14 #[v] w fun e w' => e = .returned (.tuple #[.int .u64 (rd l).1, .int .i64 (rd l).2.1, .int .i64 (rd l).2.2]) ∧ w = w' := by
  rcases hv.cases with ⟨rfl, ao, rfl⟩ | ⟨b, off, cap, rfl, h1, h2, h3, hc⟩
  rotate_left
  · exact Uint_some b off cap l w h1 h2 hc
  · go_enter Try.func14, Try.ntmps14
    go_wp2
    refine wp_loop_rounds 1 ?_
    rw [rounds_succ]
    go_wp2
    go_ret3
    exact ⟨rfl, rfl⟩
end Go.Proofs.Ytkikfdbjfhgfoaa
