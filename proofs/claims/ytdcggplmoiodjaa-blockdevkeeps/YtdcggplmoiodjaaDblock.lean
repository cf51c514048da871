/-
  DERIVED. The law's Block: a block of one byte, and a few at its beginning.
-/
import Derived.Test.YtdcggplmoiodjaaDrow
namespace Go.Proofs.Ytdcggplmoiodjaa
open Go.RowKit
set_option linter.unusedVariables false

/-- So many bytes are filled. -/
def fillL (x : UInt8) (k : Nat) : List UInt8 := List.replicate k x ++ List.replicate (512 - k) 0
theorem fillL_len (x : UInt8) (k : Nat) (h : k ≤ 512) : (fillL x k).length = 512 := by simp [fillL]; omega
theorem fillL_set (x : UInt8) (k : Nat) (h : k < 512) : (fillL x k).set k x = fillL x (k + 1) := fill_set x k h

/-- The bytes of a string that go over, and those that stay. -/
def headL (s : ByteArray) (L : List UInt8) : List UInt8 := s.data.toList.take L.length ++ L.drop s.size

theorem run_copy_str (w : World) (ty : TypeId) (g cap : Nat) (L : List UInt8) (s : ByteArray) (hg : Row w g L) :
    ∃ w', (Builtin.copy_ #[49, 9] ty #[.slice (some ⟨g, 0, none⟩) L.length cap, .string s]).run Try.prog w = .ok (goInt (Nat.min s.size L.length)) w' ∧ Row w' g (headL s L) ∧ w' = w.setRow g ((headL s L).map bv).toArray := by
  obtain ⟨m, hm⟩ : ∃ m, m = Nat.min s.size L.length := ⟨_, rfl⟩
  obtain ⟨cs, hcs⟩ : ∃ cs : List Value, cs = List.take m (List.map bv s.data.toList) := ⟨_, rfl⟩
  have hsz : s.data.toList.length = s.size := Array.length_toList
  have hm1 : m ≤ s.size := by rw [hm]; exact Nat.min_le_left _ _
  have hm2 : m ≤ L.length := by rw [hm]; exact Nat.min_le_right _ _
  have hlen : cs.length = m := by rw [hcs, List.length_take, List.length_map, hsz]; exact Nat.min_eq_left hm1
  have h1 : ∀ v ∈ cs, v.oneCell' = true := by
    rw [hcs]
    intro v hv
    obtain ⟨x, _, rfl⟩ := List.mem_map.1 (List.mem_of_mem_take hv)
    rfl
  have hst := run_storeCells_at Try.prog g 0 5 cs 0 (L.map bv).toArray w hg (by simp [hlen]; exact hm2) h1
  have hfin : (cs ++ (L.map bv).drop cs.length) = (headL s L).map bv := by
    unfold headL
    rw [hlen, List.map_append, hcs, List.map_take, List.map_drop]
    rcases Nat.le_total s.size L.length with h | h
    · have e : m = s.size := by rw [hm]; exact Nat.min_eq_left h
      rw [e, List.take_of_length_le (by simp [hsz]), List.take_of_length_le (by simp only [List.length_map, hsz]; exact h)]
    · have e : m = L.length := by rw [hm]; exact Nat.min_eq_right h
      rw [e, List.drop_eq_nil_of_le (i := L.length) (by simp), List.drop_eq_nil_of_le (i := s.size) (by simpa using h)]
  obtain ⟨i, hi, hh⟩ := Option.map_eq_some_iff.1 Try.info5
  simp only [Prod.mk.injEq] at hh
  refine ⟨w.setRow g ((headL s L).map bv).toArray, ?_, setRow_heap _ _ _ _ _ _ hg, rfl⟩
  rw [← hfin]
  simp only [Nat.zero_add, List.take_zero, List.nil_append] at hst
  simp [Builtin.copy_, run_underlying Try.underlying49, Builtin.lenOf, Builtin.firstCells, sizeOf, typeInfo, hi, ← hm]
  rw [← hcs, hst]
  rfl

set_option maxRecDepth 20000 in
theorem Block_any (p : Int) (s : ByteArray) (w : World) (p1 : -9223372036854775808 ≤ p) (p2 : p < 9223372036854775808) :
    Calls Try.prog 20 #[.int .i64 p, .string s] w fun e w' => e = .returned (.slice (some ⟨w.heap.size, 0, none⟩) 512 512) ∧ Row w' w.heap.size (headL s (fillL (UInt8.ofNat (pickR p 255)) 512)) ∧ Below w.heap.size w w' := by
  have mk := run_make_512 w
  have HB := hide ((Below.refl w.heap.size w).alloc (Nat.le_refl _) (.cells ((List.replicate 512 (0 : UInt8)).map bv).toArray 5))
  have HR : Hid (Row (w.alloc (.cells ((List.replicate 512 (0 : UInt8)).map bv).toArray 5)) w.heap.size (fillL (UInt8.ofNat (pickR p 255)) 0)) := hide (heap_alloc_self _ _)
  obtain ⟨w0, hw0⟩ : ∃ w0, w0 = w.alloc (.cells ((List.replicate 512 (0 : UInt8)).map bv).toArray 5) := ⟨_, rfl⟩
  rw [← hw0] at mk HB HR
  clear hw0
  go_enter Try.func20, Try.ntmps20
  go_wp2
  go_loopw [6] (fun i wr => ∃ k : Nat, k ≤ 512 ∧ i = .int .i64 k ∧ Row wr w.heap.size (fillL (UInt8.ofNat (pickR p 255)) k) ∧ Below w.heap.size w wr) (fun i _ => 512 - (intOf i).toNat)
  case atStart => exact ⟨0, by omega, rfl, unhide HR, unhide HB⟩
  case round =>
    obtain ⟨k, hk, rfl, h0, hb⟩ := hrel
    by_cases h5 : k < 512
    · obtain ⟨y, hcl⟩ : ∃ y, wr.cell? ⟨w.heap.size, k, none⟩ = some (.int .u8 y) := ⟨_, h0.cell k (by rw [fillL_len _ _ hk]; exact h5)⟩
      have hfz := h0.frozen k
      have h2 := h0.set k (UInt8.ofNat (pickR p 255))
      rw [fillL_set _ _ h5] at h2
      have H1 := hide h2
      clear h2
      have HB1 := hide (hb.setCell (p := ⟨w.heap.size, k, none⟩) (by simp) (bv (UInt8.ofNat (pickR p 255))))
      clear h0 hb
      go_wp2_with (go_at_call 19; refine (Pick_byte p _ p1 p2).mono ?_; rintro e w' ⟨rfl, rfl⟩)
      have hb8 : ((pickR p 255 : Nat) : Int) % 256 = ((UInt8.ofNat (pickR p 255)).toNat : Int) := by rw [UInt8.toNat_ofNat']; omega
      rw [hb8]
      refine ⟨⟨k + 1, by omega, rfl, unhide H1, unhide HB1⟩, ?_⟩
      simp [intOf]
      omega
    · obtain rfl : k = 512 := by omega
      obtain ⟨w2, hcp, hr2, he2⟩ := run_copy_str wr 3 w.heap.size 512 _ s h0
      rw [fillL_len _ _ hk] at hcp
      have HX := hide (And.intro hr2 (hb.trans (show Below w.heap.size wr w2 by rw [he2]; exact below_setRowD _ _ _ _ (Nat.le_refl _))))
      clear hr2 he2 h0 hb HR mk
      go_wp2
      go_ret
      exact ⟨rfl, unhide HX⟩
end Go.Proofs.Ytdcggplmoiodjaa
