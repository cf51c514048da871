/-
  DERIVED. The walks of layUint, closed, PutUint, layInt, PutInt.
-/
import Derived.Test.YtkikfdbjfhgfoaaBase
namespace Go.Proofs.Ytkikfdbjfhgfoaa
open Go.RowKit

theorem closed_any (v : Value) (l : List UInt8) (w : World) (hv : Sl w v l) :
    Calls Try.prog 22 #[v] w fun e w' => ∃ v', e = .returned v' ∧ (Sl w v' l ∧ ∃ ao, v' = .slice ao l.length l.length) ∧ w = w' := by
  obtain ⟨ao, cap, rfl, h1, h2, h4⟩ := hv
  have H4 := hide h4
  clear h4
  go_enter Try.func22, Try.ntmps22
  go_wp2
  go_ret
  exact ⟨_, rfl, ⟨⟨ao, l.length, rfl, Nat.le_refl _, by omega, fun h => unhide H4 (by omega)⟩, ao, rfl⟩, rfl⟩

set_option maxHeartbeats 400000 in
theorem layUint_any (base : Nat) (v : Value) (l : List UInt8) (n : Int) (w : World) (hb : base ≤ w.heap.size) (hv : Room w base v l) (hn0 : 0 ≤ n) (hn1 : n ≤ 18446744073709551615) (hl : l.length + 10 ≤ 140737488355328) :
    Calls Try.prog 35 #[v, .int .u64 n] w fun e w' => ∃ v', e = .returned v' ∧ Own w' base v' (l ++ lay n.toNat) ∧ Below base w w' := by
  go_enter Try.func35, Try.ntmps35
  go_wp2
  go_loopw [0, 1] (fun u k wr => ∃ (m : Int) (l' : List UInt8), k = .int .u64 m ∧ 0 ≤ m ∧ m ≤ 18446744073709551615 ∧ Hid (lay n.toNat = l' ++ lay m.toNat) ∧ Room wr base u (l ++ l') ∧ Below base w wr) (fun _ k _ => (intOf k).toNat)
  case atStart => exact ⟨n, [], rfl, hn0, hn1, hide (by simp), by simpa using hv, Below.refl _ _⟩
  case round =>
    obtain ⟨m, l', rfl, hm0, hm1, HL, hroom, hbel⟩ := hrel
    have hsz : l'.length + 1 ≤ 10 := by
      have := congrArg List.length (unhide HL)
      have h1 := lay_len n.toNat
      have h2 := lay_len m.toNat
      simp at this
      omega
    have hbs := hbel.size
    by_cases hlt : 128 ≤ m
    · obtain ⟨c, hc⟩ : ∃ c, c = UInt8.ofNat (128 + m.toNat % 128) := ⟨_, rfl⟩
      have Hc : Hid (bits BinOp.or IntKind.u8 (m % 256) 128 = (c.toNat : Int)) := hide (by rw [hc]; exact or128 m hm0)
      have HL2 : Hid (lay n.toNat = (l' ++ [c]) ++ lay (m / 128).toNat) := hide (by
        rw [unhide HL, lay_big (by omega) (by omega), hc]
        have : m.toNat / 128 = (m / 128).toNat := by omega
        simp [this])
      clear hc HL
      go_wp2_with (at_builtin; refine wpList_append_room rfl (.tmp 7) (.tmp 11) rfl base _ (l ++ l') rfl ?hroom _ [c] rfl ?hy (by simp) ?hlen ?hbase ?_)
      case hroom => exact hroom.alloc _
      case hy => rw [unhide Hc]; exact Sl.new wr [c] (by simp [maxLen]) (0, 0)
      case hlen => simp; omega
      case hbase => simp; omega
      intro v' w1 hown hb1
      have R : Room w1 base v' (l ++ (l' ++ [c])) := Or.inl (by simpa using hown)
      have hb2 : Below base w w1 := (hbel.alloc (by omega) _).trans hb1
      clear hown hb1 hroom hbel
      go_wp2
      go_roundw
      case rel => exact ⟨m / 128, l' ++ [c], rfl, by omega, by omega, HL2, R, hb2⟩
      case measure => simp [intOf]; omega
    · obtain ⟨c, hc⟩ : ∃ c, c = UInt8.ofNat m.toNat := ⟨_, rfl⟩
      have Hc : Hid (m = (c.toNat : Int)) := hide (by have := byte_of m hm0 (by omega); rw [hc, ← this]; omega)
      have HL2 : Hid (lay n.toNat = l' ++ [c]) := hide (by
        rw [unhide HL, lay_small (by omega), hc])
      clear hc HL
      go_wp2_with (at_builtin; refine wpList_append_room rfl (.tmp 15) (.tmp 18) rfl base _ (l ++ l') rfl ?hroom2 _ [c] rfl ?hy2 (by simp) ?hlen2 ?hbase2 ?_)
      case hroom2 => exact hroom.alloc _
      case hy2 => rw [unhide Hc]; exact Sl.new wr [c] (by simp [maxLen]) (0, 0)
      case hlen2 => (try simp); omega
      case hbase2 => (try simp); omega
      intro v' w1 hown hb1
      have R : Own w1 base v' (l ++ lay n.toNat) := by rw [unhide HL2]; simpa using hown
      have hb2 : Below base w w1 := (hbel.alloc (by omega) _).trans hb1
      clear hown hb1 hroom hbel
      go_wp2
      go_ret
      exact ⟨_, rfl, R, hb2⟩

theorem layUint_at (base : Nat) (v : Value) (l : List UInt8) (x : Int) (n : Nat) (w : World) (hb : base ≤ w.heap.size) (hv : Room w base v l) (hl : l.length + 10 ≤ 140737488355328) (hn : n ≤ 18446744073709551615) (hx : x = n) :
    Calls Try.prog 35 #[v, .int .u64 x] w fun e w' => ∃ v', e = .returned v' ∧ Own w' base v' (l ++ lay n) ∧ Below base w w' := by
  subst hx
  exact layUint_any base v l n w hb hv (by omega) (by omega) hl

theorem zig_neg (n : Int) (h : n < 0) (h2 : -9223372036854775808 ≤ n) : IntKind.u64.wrap (IntKind.u64.wrap (2 * IntKind.u64.wrap (-n - 1)) + 1) = (zig n : Int) := by
  unfold zig; rw [if_pos h]; simp only [IntKind.wrap_u64]; omega
theorem zig_pos (n : Int) (h : ¬ n < 0) (h2 : n ≤ 9223372036854775807) : 2 * n = (zig n : Int) := by
  unfold zig; rw [if_neg h]; omega
theorem zig_le (n : Int) (h : -9223372036854775808 ≤ n) (h2 : n ≤ 9223372036854775807) : zig n ≤ 18446744073709551615 := by
  unfold zig; split <;> omega

set_option maxHeartbeats 400000 in
theorem layInt_any (base : Nat) (v : Value) (l : List UInt8) (n : Int) (w : World) (hb : base ≤ w.heap.size) (hv : Room w base v l) (hn0 : -9223372036854775808 ≤ n) (hn1 : n ≤ 9223372036854775807) (hl : l.length + 10 ≤ 140737488355328) :
    Calls Try.prog 39 #[v, .int .i64 n] w fun e w' => ∃ v', e = .returned v' ∧ Own w' base v' (l ++ lay (zig n)) ∧ Below base w w' := by
  have hx := not_i64 n hn0 hn1
  by_cases hlt : n < 0
  · go_enter Try.func39, Try.ntmps39
    go_wp2_with fail
    refine (layUint_at base v l _ (zig n) _ hb hv hl (zig_le n hn0 hn1) (zig_neg n hlt hn0)).mono ?_
    rintro e w' ⟨v', rfl, hown, hbel⟩
    clear hx
    go_wp2
    go_ret
    exact ⟨_, rfl, hown, hbel⟩
  · go_enter Try.func39, Try.ntmps39
    go_wp2_with fail
    refine (layUint_at base v l _ (zig n) _ hb hv hl (zig_le n hn0 hn1) (zig_pos n (by omega) hn1)).mono ?_
    rintro e w' ⟨v', rfl, hown, hbel⟩
    clear hx
    go_wp2
    go_ret
    exact ⟨_, rfl, hown, hbel⟩

theorem PutInt_any (v : Value) (l : List UInt8) (n : Int) (w : World) (hv : Sl w v l) (hn0 : -9223372036854775808 ≤ n) (hn1 : n ≤ 9223372036854775807) (hl : l.length + 10 ≤ 140737488355328) :
    Calls Try.prog 18 #[v, .int .i64 n] w fun e w' => ∃ v', e = .returned v' ∧ Own w' w.heap.size v' (l ++ lay (zig n)) ∧ Below w.heap.size w w' := by
  go_enter Try.func18, Try.ntmps18
  go_wp2_with (first | (go_at_call 22; refine (closed_any v l _ hv).mono ?_; rintro e w' ⟨v1, rfl, hroom, rfl⟩) | (go_at_call 39; refine (layInt_any w.heap.size _ l n _ (Nat.le_refl _) (Or.inr hroom) hn0 hn1 hl).mono ?_; rintro e w' ⟨v2, rfl, hown, hbel⟩))
  go_ret
  exact ⟨_, rfl, hown, hbel⟩
end Go.Proofs.Ytkikfdbjfhgfoaa
