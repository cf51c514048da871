/-
  DERIVED. The walks of U32, Put32, bytes.Clone, piece.
-/
import Derived.Test.YtkikfdbjfhgfoaaSum
import Derived.Test.YtkikfdbjfhgfoaaLay
import Derived.Test.YtkikfdbjfhgfoaaUint
namespace Go.Proofs.Ytkikfdbjfhgfoaa
open Go.RowKit

theorem Sl.mk {w : World} (b off cap : Nat) (l : List UInt8) (hb : b < w.heap.size) (h1 : l.length ≤ cap) (h2 : cap ≤ 9223372036854775807) (hc : ∀ i, (h : i < l.length) → w.cell? ⟨b, off + i, none⟩ = some (bv l[i])) : Sl w (.slice (some ⟨b, off, none⟩) l.length cap) l :=
  ⟨_, cap, rfl, h1, by unfold maxLen; omega, fun _ => ⟨b, off, rfl, hb, hc⟩⟩

theorem Sl.cut {w : World} (b off cap : Nat) (l : List UInt8) (hb : b < w.heap.size) (h1 : l.length ≤ cap) (h2 : cap ≤ 9223372036854775807) (hc : ∀ i, (h : i < l.length) → w.cell? ⟨b, off + i, none⟩ = some (bv l[i])) (k n : Nat) (hkn : k + n ≤ l.length) :
    Sl w (.slice (some ⟨b, off + k, none⟩) n (cap - k)) ((l.drop k).take n) := by
  have hl : ((l.drop k).take n).length = n := by simp; omega
  have := Sl.mk (w := w) b (off + k) (cap - k) ((l.drop k).take n) hb (by omega) (by omega) (fun i hi => by
    have := hc (k + i) (by omega)
    rw [Nat.add_assoc, this]
    simp)
  rw [hl] at this
  exact this

theorem or_shift (i a b : Nat) (h : a < 2 ^ i) : a ||| b * 2 ^ i = a + b * 2 ^ i := by
  have := Nat.two_pow_add_eq_or_of_lt h b
  rw [Nat.or_comm, Nat.mul_comm b, ← this, Nat.add_comm]

theorem u32_bytes (c0 c1 c2 c3 : UInt8) : bits BinOp.or IntKind.u32 (bits BinOp.or IntKind.u32 (bits BinOp.or IntKind.u32 ((c0.toNat : Int) % 4294967296) ((c1.toNat : Int) % 4294967296 * 256 % 4294967296)) ((c2.toNat : Int) % 4294967296 * 65536 % 4294967296)) ((c3.toNat : Int) % 4294967296 * 16777216 % 4294967296)
    = ((c0.toNat + 256 * c1.toNat + 65536 * c2.toNat + 16777216 * c3.toNat : Nat) : Int) := by
  have h0 := c0.toNat_lt
  have h1 := c1.toNat_lt
  have h2 := c2.toNat_lt
  have h3 := c3.toNat_lt
  have e0 : (c0.toNat : Int) % 4294967296 = (c0.toNat : Int) := by omega
  have e1 : (c1.toNat : Int) % 4294967296 * 256 % 4294967296 = ((c1.toNat * 2 ^ 8 : Nat) : Int) := by omega
  have e2 : (c2.toNat : Int) % 4294967296 * 65536 % 4294967296 = ((c2.toNat * 2 ^ 16 : Nat) : Int) := by omega
  have e3 : (c3.toNat : Int) % 4294967296 * 16777216 % 4294967296 = ((c3.toNat * 2 ^ 24 : Nat) : Int) := by omega
  rw [e0, e1, e2, e3, or_u32 _ _ (by omega) (by omega), or_shift 8 _ _ (by omega), or_u32 _ _ (by omega) (by omega), or_shift 16 _ _ (by omega), or_u32 _ _ (by omega) (by omega), or_shift 24 _ _ (by omega)]
  omega

theorem ret2 {k1 k2 : IntKind} {a a' b b' : Int} (h1 : a = a') (h2 : b = b') : Ending.returned (.tuple #[.int k1 a, .int k2 b]) = .returned (.tuple #[.int k1 a', .int k2 b']) := by rw [h1, h2]

set_option maxHeartbeats 1000000 in
theorem U32_any (v : Value) (l : List UInt8) (w : World) (hv : Sl w v l) :
    Calls Try.prog 51 #[v] w fun e w' => e = .returned (.tuple #[.int .u32 (if l.length < 4 then 0 else rd4 l : Nat), .int .i64 (if l.length < 4 then 10 else 0 : Nat)]) ∧ ∀ B, Below B w w' := by
  rcases hv.cases with ⟨rfl, ao, rfl⟩ | ⟨b, off, cap, rfl, h1, h2, h3, hc⟩
  · go_enter Try.func51, Try.ntmps51
    go_wp2
    go_ret2
    exact ⟨rfl, fun B => Below.refl _ _⟩
  · by_cases hl : l.length < 4
    · rw [if_pos hl, if_pos hl]
      go_enter Try.func51, Try.ntmps51
      go_wp2
      go_ret2
      exact ⟨rfl, fun B => Below.refl _ _⟩
    · rw [if_neg hl, if_neg hl]
      obtain ⟨c0, c1, c2, c3, r, rfl⟩ : ∃ c0 c1 c2 c3 r, l = c0 :: c1 :: c2 :: c3 :: r := by
        match l, hl with
        | c0 :: c1 :: c2 :: c3 :: r, _ => exact ⟨c0, c1, c2, c3, r, rfl⟩
        | [], h => exact absurd (by simp) h
        | [_], h => exact absurd (by simp) h
        | [_, _], h => exact absurd (by simp) h
        | [_, _, _], h => exact absurd (by simp) h
      have e0 := hc 0 (by simp)
      have e1 := hc 1 (by simp)
      have e2 := hc 2 (by simp)
      have e3 := hc 3 (by simp)
      simp only [List.getElem_cons_zero, List.getElem_cons_succ, Nat.add_zero] at e0 e1 e2 e3
      obtain ⟨n, hn⟩ : ∃ n, n = (c0 :: c1 :: c2 :: c3 :: r).length := ⟨_, rfl⟩
      rw [← hn] at hl h1 ⊢
      have i0 : (0 : Int) < (n : Int) := by omega
      have i1 : (1 : Int) < (n : Int) := by omega
      have i2 : (2 : Int) < (n : Int) := by omega
      have i3 : (3 : Int) < (n : Int) := by omega
      clear hc hn
      go_enter Try.func51, Try.ntmps51
      go_wp2
      go_quiet (fail)
      go_wp2
      go_ret2
      exact ⟨ret2 (u32_bytes c0 c1 c2 c3) rfl, fun B => below_drewN (Below.refl _ _) _⟩

/-- Four bytes are laid behind. -/
theorem Put32_any (v : Value) (l : List UInt8) (x : Int) (n : Nat) (w : World) (hv : Sl w v l) (hn : n < 4294967296) (hx : x = n) (hl : l.length + 4 ≤ 140737488355328) :
    Calls Try.prog 36 #[v, .int .u32 x] w fun e w' => ∃ v', e = .returned v' ∧ Own w' w.heap.size v' (l ++ le4 n) ∧ Below w.heap.size w w' := by
  subst hx
  have b0 : ((n : Int) % 256) = ((UInt8.ofNat n).toNat : Int) := by simp only [UInt8.toNat_ofNat']; omega
  have b1 : ((n : Int) / 256 % 256) = ((UInt8.ofNat (n / 256)).toNat : Int) := by simp only [UInt8.toNat_ofNat']; omega
  have b2 : ((n : Int) / 65536 % 256) = ((UInt8.ofNat (n / 65536)).toNat : Int) := by simp only [UInt8.toNat_ofNat']; omega
  have b3 : ((n : Int) / 16777216) = ((UInt8.ofNat (n / 16777216)).toNat : Int) := by simp only [UInt8.toNat_ofNat']; omega
  have HB := hide (And.intro b0 (And.intro b1 (And.intro b2 b3)))
  clear b0 b1 b2 b3
  go_enter Try.func36, Try.ntmps36
  go_wp2_with (first | (go_at_call 22; refine (closed_any v l _ hv).mono ?_; rintro e w' ⟨v1, rfl, hroom, rfl⟩) | (at_builtin; refine wpList_append_room rfl (.tmp 6) (.tmp 18) rfl w.heap.size _ l rfl ?hroom _ (le4 n) rfl ?hy (by simp [le4]) ?hlen ?hbase ?_))
  case hroom => exact Room.alloc (.inr hroom) _
  case hy => obtain ⟨b0, b1, b2, b3⟩ := unhide HB; rw [b0, b1, b2, b3]; exact Sl.new w (le4 n) (by simp [le4, maxLen]) (0, 0)
  case hlen => simp [le4]; omega
  case hbase => simp
  intro v' w1 hown hb1
  have hb2 := ((Below.refl w.heap.size w).alloc (Nat.le_refl _) _).trans hb1
  clear hb1
  go_wp2
  go_ret
  exact ⟨_, rfl, hown, hb2⟩

/-- Clone: the same bytes, in memory of its own. -/
theorem Clone_any (v : Value) (l : List UInt8) (w : World) (hv : Sl w v l) (hl : l.length ≤ 140737488355328) :
    Calls Try.prog 52 #[v] w fun e w' => ∃ v', e = .returned v' ∧ Own w' w.heap.size v' l ∧ Below w.heap.size w w' := by
  have hnil := fun (w : World) => Lib.run_eql_slice_nil (P := Try.prog) (w := w) 22
  have hap : ∀ (v : Value) (a : Addr) (cap : Nat), v = .slice (some a) l.length cap → Sl w v l → Calls Try.prog 52 #[v] w fun e w' => ∃ v', e = .returned v' ∧ Own w' w.heap.size v' l ∧ Below w.heap.size w w' := by
    rintro v a cap rfl hv
    go_enter Try.func52, Try.ntmps52
    go_wp2_with (at_builtin; refine wpList_append_mine rfl (.tmp 5) (.tmp 6) rfl w.heap.size _ [] rfl ?hown _ l rfl ?hy ?hlen ?hbase ?_)
    case hown => exact World.ownsRow_lit w #[] 0 (Nat.le_refl _) (by simp [maxLen]) rfl
    case hy => exact hv.alloc _
    case hlen => simpa using hl
    case hbase => simp
    intro v' w1 hown hb1
    have hb2 := ((Below.refl w.heap.size w).alloc (Nat.le_refl _) _).trans hb1
    clear hb1 hnil
    go_wp2
    go_ret
    exact ⟨_, rfl, hown, hb2⟩
  rcases hv.cases with ⟨rfl, ao, rfl⟩ | ⟨b, off, cap, rfl, h1, h2, h3, hc⟩
  · cases ao with
    | none =>
      clear hap
      go_enter Try.func52, Try.ntmps52
      go_wp2
      go_ret
      exact ⟨_, rfl, World.ownsRow_nil _ _ _ _, Below.refl _ _⟩
    | some a => exact hap _ a 0 rfl hv
  · exact hap _ _ cap rfl hv

theorem ret_s2 {v : Value} {k1 k2 : IntKind} {a a' b b' : Int} (h1 : a = a') (h2 : b = b') : Ending.returned (.tuple #[v, .int k1 a, .int k2 b]) = .returned (.tuple #[v, .int k1 a', .int k2 b']) := by rw [h1, h2]

theorem Uint_at (v : Value) (l : List UInt8) (n k e : Nat) (w : World) (hv : Sl w v l) (h : rd l = (n, k, e)) :
    Calls Try.prog 14 #[v] w fun o w' => o = .returned (.tuple #[.int .u64 n, .int .i64 k, .int .i64 e]) ∧ w = w' := by
  have := Uint_any v l w hv
  rw [h] at this
  exact this

theorem nil_sl (w : World) : Sl w (.slice none 0 0) [] := Own.sl (World.ownsRow_nil _ w.heap.size _ _)

/-- A number, and so many bytes. -/
theorem piece_any (v : Value) (l : List UInt8) (most : Int) (w : World) (hv : Sl w v l) (hm0 : -9223372036854775808 ≤ most) (hm : most ≤ 9223372036854775807) :
    Calls Try.prog 50 #[v, .int .i64 most] w fun e w' => ∃ v', e = .returned (.tuple #[v', .int .i64 (pcK l most : Nat), .int .i64 (pcE l most : Nat)]) ∧ Sl w v' (pcD l most) ∧ w = w' := by
  have hf := rd_facts l
  have hp : pcE l most = if (rd l).2.2 ≠ 0 then (rd l).2.2 else if most < 0 ∨ most < (rd l).1 then 12 else if l.length - (rd l).2.1 < (rd l).1 then 10 else 0 := rfl
  have hq : pcK l most = if pcE l most = 0 then (rd l).2.1 + (rd l).1 else 0 := rfl
  have hd : pcD l most = if pcE l most = 0 then (l.drop (rd l).2.1).take (rd l).1 else [] := rfl
  obtain ⟨n, k, e, hr⟩ : ∃ n k e, rd l = (n, k, e) := ⟨_, _, _, rfl⟩
  rw [hr] at hf hp hq hd
  simp only at hf hp hq hd
  obtain ⟨f1, f2, f3, f4⟩ := hf
  by_cases he : e = 0
  · subst he
    rw [if_neg (by simp)] at hp
    obtain ⟨g1, g2, g3⟩ := f4 rfl
    clear f4 f3 f2
    by_cases hA : most < 0 ∨ most < n
    · rw [if_pos hA] at hp
      rw [hp] at hq hd ⊢
      rw [if_neg (by decide)] at hq hd
      rw [hq, hd]
      clear hp hq hd
      by_cases hneg : most < 0
      all_goals
        go_enter Try.func50, Try.ntmps50
        go_wp2_with (go_at_call 14; refine (Uint_at v l n k 0 _ hv hr).mono ?_; rintro e w' ⟨rfl, rfl⟩)
        go_ret3
        exact ⟨_, rfl, nil_sl _, rfl⟩
    · rw [if_neg hA] at hp
      by_cases hB : l.length - k < n
      · rw [if_pos hB] at hp
        rw [hp] at hq hd ⊢
        rw [if_neg (by decide)] at hq hd
        rw [hq, hd]
        have HA := hide hA
        clear hp hq hd
        obtain ⟨ao, cap, rfl, h1, h2, h4⟩ := id hv
        unfold maxLen at h2
        clear h4
        have hm2 : 0 ≤ most := by omega
        have hm3 : (n : Int) ≤ most := by omega
        clear hA
        go_enter Try.func50, Try.ntmps50
        go_wp2_with (go_at_call 14; refine (Uint_at _ l n k 0 _ hv hr).mono ?_; rintro e w' ⟨rfl, rfl⟩)
        go_ret3
        exact ⟨_, rfl, nil_sl _, rfl⟩
      · rw [if_neg hB] at hp
        rw [hp] at hq hd ⊢
        rw [if_pos rfl] at hq hd
        rw [hq, hd]
        have HA := hide hA
        clear hp hq hd
        have hv0 := hide hv
        rcases hv.cases with ⟨rfl, ao, rfl⟩ | ⟨b, off, cap, rfl, h1, h2, h3, hc⟩
        · simp at g2; omega
        · have hm2 : 0 ≤ most := by omega
          have hm3 : (n : Int) ≤ most := by omega
          have hkn : k + n ≤ l.length := by omega
          clear hA hB
          have HC := hide hc
          clear hc hv
          go_enter Try.func50, Try.ntmps50
          go_wp2_with (go_at_call 14; refine (Uint_at _ l n k 0 _ (unhide hv0) hr).mono ?_; rintro e w' ⟨rfl, rfl⟩)
          · have : n = 0 := by omega
            subst this
            go_ret3
            refine ⟨_, rfl, ?_, rfl⟩
            exact Sl.mk b off 0 [] h3 (by simp) (by omega) (fun i hi => by simp at hi)
          · go_ret3
            refine ⟨_, rfl, ?_, rfl⟩
            exact Sl.cut b off cap l h3 h1 h2 (unhide HC) k n hkn
  · rw [if_pos he] at hp
    rw [hp] at hq hd ⊢
    rw [if_neg he] at hq hd
    rw [hq, hd]
    have hne : ((e : Int) != 0) = true := by rw [bne_iff_ne]; omega
    clear f1 f2 f3 f4 hp hq hd
    go_enter Try.func50, Try.ntmps50
    go_wp2_with (go_at_call 14; refine (Uint_at v l n k e _ hv hr).mono ?_; rintro e w' ⟨rfl, rfl⟩)
    go_ret3
    exact ⟨_, rfl, nil_sl _, rfl⟩
end Go.Proofs.Ytkikfdbjfhgfoaa
