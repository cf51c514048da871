/-
  DERIVED. The walks of PutUint, of the document's PutUint and Put32, and of behind.
-/
import Derived.Test.YtkikfdbjfhgfoaaLent
namespace Go.Proofs.Ytkikfdbjfhgfoaa
open Go.RowKit


theorem byte_128 (m : Int) (h : 0 ≤ m) : (128 + m % 128) % 256 = ((UInt8.ofNat (128 + m.toNat % 128)).toNat : Int) := by
  simp only [UInt8.toNat_ofNat']
  omega
theorem byte_128' (m : Int) (h : 0 ≤ m) : 128 + m % 128 = ((UInt8.ofNat (128 + m.toNat % 128)).toNat : Int) := by
  simp only [UInt8.toNat_ofNat']
  omega

set_option maxHeartbeats 1000000 in
theorem rPutUint_any (n : Int) (w : World) (hn0 : 0 ≤ n) (hn1 : n ≤ 18446744073709551615) :
    Calls Try.prog 25 #[.int .u64 n] w fun e w' => ∃ v', e = .returned v' ∧ Own w' w.heap.size v' (lay n.toNat) ∧ Below w.heap.size w w' := by
  go_enter Try.func25, Try.ntmps25
  go_wp2
  go_loopw [0, 3] (fun k u wr => ∃ (m : Int) (l' : List UInt8), k = .int .u64 m ∧ 0 ≤ m ∧ m ≤ 18446744073709551615 ∧ Hid (lay n.toNat = l' ++ lay m.toNat) ∧ Own wr w.heap.size u l' ∧ Below w.heap.size w wr) (fun k _ _ => (intOf k).toNat)
  case atStart => exact ⟨n, [], rfl, hn0, hn1, hide (by simp), World.ownsRow_nil _ _ _ _, Below.refl _ _⟩
  case round =>
    obtain ⟨m, l', rfl, hm0, hm1, HL, hown, hbel⟩ := hrel
    have hsz : l'.length + 1 ≤ 10 := by
      have := congrArg List.length (unhide HL)
      have h1 := lay_len n.toNat
      have h2 := lay_len m.toNat
      simp at this
      omega
    have hbs := hbel.size
    by_cases hlt : 128 ≤ m
    · obtain ⟨c, hc⟩ : ∃ c, c = UInt8.ofNat (128 + m.toNat % 128) := ⟨_, rfl⟩
      have Hc : Hid (128 + m % 128 = (c.toNat : Int)) := hide (by rw [hc]; exact byte_128' m hm0)
      have HL2 : Hid (lay n.toNat = (l' ++ [c]) ++ lay (m / 128).toNat) := hide (by
        rw [unhide HL, lay_big (by omega) (by omega), hc]
        have : m.toNat / 128 = (m / 128).toNat := by omega
        simp [this])
      clear hc HL
      go_wp2_with (at_builtin; refine wpList_append_mine rfl (.tmp 6) (.tmp 11) rfl w.heap.size _ l' rfl ?hown _ [c] rfl ?hy ?hlen ?hbase ?_)
      case hown => exact hown.alloc _
      case hy => rw [unhide Hc]; exact Sl.new wr [c] (by simp [maxLen]) (0, 0)
      case hlen => (try simp); omega
      case hbase => (try simp); omega
      intro v' w1 hown1 hb1
      have R : Own w1 w.heap.size v' (l' ++ [c]) := by simpa using hown1
      have hb2 : Below w.heap.size w w1 := (hbel.alloc (by omega) _).trans hb1
      clear hown hown1 hb1 hbel
      go_wp2
      go_roundw
      case rel => exact ⟨m / 128, l' ++ [c], rfl, by omega, by omega, HL2, R, hb2⟩
      case measure => simp [intOf]; omega
    · obtain ⟨c, hc⟩ : ∃ c, c = UInt8.ofNat m.toNat := ⟨_, rfl⟩
      have Hc : Hid (m = (c.toNat : Int)) := hide (by have := byte_of m hm0 (by omega); rw [hc, ← this]; omega)
      have HL2 : Hid (lay n.toNat = l' ++ [c]) := hide (by
        rw [unhide HL, lay_small (by omega), hc])
      clear hc HL
      go_wp2_with (at_builtin; refine wpList_append_mine rfl (.tmp 15) (.tmp 18) rfl w.heap.size _ l' rfl ?hown2 _ [c] rfl ?hy2 ?hlen2 ?hbase2 ?_)
      case hown2 => exact hown.alloc _
      case hy2 => rw [unhide Hc]; exact Sl.new wr [c] (by simp [maxLen]) (0, 0)
      case hlen2 => (try simp); omega
      case hbase2 => (try simp); omega
      intro v' w1 hown1 hb1
      have R : Own w1 w.heap.size v' (lay n.toNat) := by rw [unhide HL2]; simpa using hown1
      have hb2 : Below w.heap.size w w1 := (hbel.alloc (by omega) _).trans hb1
      clear hown hown1 hb1 hbel
      go_wp2
      go_ret
      exact ⟨_, rfl, R, hb2⟩
theorem rPutUint_at (x : Int) (n : Nat) (w : World) (hn : n ≤ 18446744073709551615) (hx : x = n) :
    Calls Try.prog 25 #[.int .u64 x] w fun e w' => ∃ v', e = .returned v' ∧ Own w' w.heap.size v' (lay n) ∧ Below w.heap.size w w' := by
  subst hx
  exact rPutUint_any n w (by omega) (by omega)
end Go.Proofs.Ytkikfdbjfhgfoaa
