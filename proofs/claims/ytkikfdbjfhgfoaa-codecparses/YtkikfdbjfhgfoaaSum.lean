/-
  DERIVED. The walks of sum, Sum.
-/
import Derived.Test.YtkikfdbjfhgfoaaTab
namespace Go.Proofs.Ytkikfdbjfhgfoaa
open Go.RowKit

theorem xor_u8 (a b : Nat) (ha : a < 256) (hb : b < 256) : bits .xor .u8 (a : Int) (b : Int) = ((a ^^^ b : Nat) : Int) := by
  have hx : a ^^^ b < 256 := Nat.xor_lt_two_pow (n := 8) ha hb
  have h1 : ∀ a : Nat, a < 256 → (BitVec.ofInt 8 (a : Int)).toNat = a := fun a ha => by
    rw [BitVec.ofInt_natCast, BitVec.toNat_ofNat]; exact Nat.mod_eq_of_lt (by omega)
  show IntKind.u8.wrap ((BitVec.ofInt 8 (a : Int) ^^^ BitVec.ofInt 8 (b : Int)).toNat : Int) = _
  rw [BitVec.toNat_xor, h1 a ha, h1 b hb, IntKind.wrap_u8]
  omega

theorem crcR_snoc (r : Nat) (l : List UInt8) (c : UInt8) : crcR r (l ++ [c]) = (crcR r l / 256) ^^^ crcTab.getD ((crcR r l % 256) ^^^ c.toNat) 0 := by
  simp [crcR, List.foldl_append]
theorem take_snoc (l : List UInt8) (k : Nat) (h : k < l.length) : l.take (k + 1) = l.take k ++ [l[k]] := by
  rw [List.take_succ_eq_append_getElem h]

set_option maxHeartbeats 1000000 in
set_option maxRecDepth 100000 in
theorem sum_some (g b off cap : Nat) (l : List UInt8) (w : World) (ht : Tab w g crcTab) (h1 : l.length ≤ cap) (h2 : cap ≤ 9223372036854775807)
    (hc : ∀ i, (h : i < l.length) → w.cell? ⟨b, off + i, none⟩ = some (bv l[i])) :
    Calls Try.prog 40 #[.pointer (some ⟨g, 0, none⟩), .slice (some ⟨b, off, none⟩) l.length cap] w fun e w' => e = .returned (.int .u32 (crc l : Nat)) ∧ w = w' := by
  have hln : l.length ≤ 9223372036854775807 := by omega
  go_enter Try.func40, Try.ntmps40
  go_wp2
  go_loop [5, 10] (fun r i => ∃ k : Nat, k ≤ l.length ∧ i = .int .i64 k ∧ r = .int .u32 (crcR 4294967295 (l.take k) : Nat)) (fun _ i => l.length - (intOf i).toNat)
  case atStart => exact ⟨0, by omega, rfl, rfl⟩
  case round =>
    obtain ⟨k, hk, rfl, rfl⟩ := hrel
    have hr := crcR_lt (l.take k) 4294967295 (by decide)
    obtain ⟨r, hre⟩ : ∃ r, r = crcR 4294967295 (l.take k) := ⟨_, rfl⟩
    rw [← hre] at hr ⊢
    by_cases hlt : k < l.length
    · have hcx := hc k hlt
      obtain ⟨c, hcc⟩ : ∃ c, c = l[k] := ⟨_, rfl⟩
      rw [← hcc] at hcx
      have hc8 := c.toNat_lt
      have hix : r % 256 ^^^ c.toNat < 256 := Nat.xor_lt_two_pow (n := 8) (by omega) hc8
      have hx8 := xor_u8 (r % 256) c.toNat (by omega) hc8
      have hcell := ht.cell _ hix
      have hT := crcTab_lt (r % 256 ^^^ c.toNat)
      have hn := crcR_snoc 4294967295 (l.take k) c
      rw [← hre] at hn
      obtain ⟨ix, hixe⟩ : ∃ ix, ix = r % 256 ^^^ c.toNat := ⟨_, rfl⟩
      rw [← hixe] at hix hx8 hcell hT hn
      obtain ⟨T, hTe⟩ : ∃ T, T = crcTab.getD ix 0 := ⟨_, rfl⟩
      rw [← hTe] at hcell hT hn
      have hx := xor_u32 (r / 256) T (by omega) hT
      have hx8' : bits .xor .u8 ((r : Int) % 256) (c.toNat : Int) = (ix : Int) := by rw [← hx8]; rfl
      have hx' : bits .xor .u32 ((r : Int) / 256) (T : Int) = ((r / 256 ^^^ T : Nat) : Int) := by rw [← hx]; rfl
      have HN : Hid (crcR 4294967295 (l.take (k + 1)) = r / 256 ^^^ T) := hide (by rw [take_snoc l k hlt, ← hcc, hn])
      clear hx hx8 hn hTe hixe hcc hre hc ht
      go_wp2
      go_round
      case rel => exact ⟨k + 1, by omega, by go_num, by rw [unhide HN]⟩
      case measure => simp [intOf]; omega
    · have HE : Hid (bits .xor .u32 IntKind.u32.max (r : Int) = ((crc l : Nat) : Int)) := hide (by
        have e : IntKind.u32.max = ((4294967295 : Nat) : Int) := by decide
        rw [e, xor_u32 _ _ (by decide) hr, Nat.xor_comm, hre, List.take_of_length_le (by omega)]
        rfl)
      have HR := hide hre
      clear hre
      go_wp2
      go_ret
      rw [← unhide HE]
      exact ⟨rfl, rfl⟩

theorem sum_any (g : Nat) (v : Value) (l : List UInt8) (w : World) (ht : Tab w g crcTab) (hv : Sl w v l) :
    Calls Try.prog 40 #[.pointer (some ⟨g, 0, none⟩), v] w fun e w' => e = .returned (.int .u32 (crc l : Nat)) ∧ w = w' := by
  rcases hv.cases with ⟨rfl, ao, rfl⟩ | ⟨b, off, cap, rfl, h1, h2, h3, hc⟩
  rotate_left
  · exact sum_some g b off cap l w ht h1 h2 hc
  · go_enter Try.func40, Try.ntmps40
    go_wp2
    refine wp_loop_rounds 1 ?_
    rw [rounds_succ]
    go_wp2
    go_ret
    exact ⟨rfl, rfl⟩

set_option maxHeartbeats 1000000 in
theorem Sum_any (v : Value) (l : List UInt8) (w : World) (hv : Sl w v l) :
    Calls Try.prog 19 #[v] w fun e w' => e = .returned (.int .u32 (crc l : Nat)) ∧ Below w.heap.size w w' := by
  go_enter Try.func19, Try.ntmps19
  go_wp2_with fail
  refine (makeSumTable_any _).mono ?_
  rintro e w1 ⟨rfl, hb1⟩
  have ht := zero_tab w1
  have hs := hb1.size
  have hv1 := hv.below hb1 (Nat.le_refl _)
  have hb2 : Below w.heap.size w ((w1.alloc (.cells zeroTab 77)).setRow w1.heap.size (tabCells crcTab)) := (hb1.alloc hs _).trans (below_setRow' _ _ _ _ hs)
  have hb3 : Below w1.heap.size w1 ((w1.alloc (.cells zeroTab 77)).setRow w1.heap.size (tabCells crcTab)) := ((Below.refl _ _).alloc (Nat.le_refl _) _).trans (below_setRow' _ _ _ _ (Nat.le_refl _))
  have hv2 := hv1.below hb3 (Nat.le_refl _)
  have ht2 : Tab ((w1.alloc (.cells zeroTab 77)).setRow w1.heap.size (tabCells crcTab)) w1.heap.size crcTab := ⟨setRow_heap _ _ _ _ _ _ ht.1, tabB_len 255⟩
  have HH := hide (And.intro ht2 (And.intro hb2 hv2))
  clear hb2 hb3 ht2 hv1 hv2
  go_wp2_with (first | (refine wpList_alloc_tab rfl rfl ?_) | (refine wpList_store_row rfl 77 (.tmp 3) (.tmp 4) rfl w1.heap.size (tabCells crcTab) rfl rfl 77 (tabCells (tabA 0)) ht.1 (by rw [tab_size]; kernel_rfl) (by rw [tab_size, tab_size]; exact (tabA_len 0).trans (tabB_len 255).symm) (tab_one _) ?_) | (go_at_call 40; refine (sum_any w1.heap.size v l _ (unhide HH).1 (unhide HH).2.2).mono ?_; rintro e w2 ⟨rfl, rfl⟩))
  go_ret
  exact ⟨rfl, (unhide HH).2.1⟩
end Go.Proofs.Ytkikfdbjfhgfoaa
