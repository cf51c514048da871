/-
  DERIVED. The law's Block: a block of one byte, and a few at its beginning.
-/
import Derived.Test.YtbgaomfoiooegaaDrow
namespace Go.Proofs.Ytbgaomfoiooegaa
open Go.RowKit
set_option linter.unusedVariables false

/-- So many bytes are filled. -/
def fillL (x : UInt8) (k : Nat) : List UInt8 := List.replicate k x ++ List.replicate (512 - k) 0
theorem fillL_len (x : UInt8) (k : Nat) (h : k ≤ 512) : (fillL x k).length = 512 := by simp [fillL]; omega
theorem fillL_set (x : UInt8) (k : Nat) (h : k < 512) : (fillL x k).set k x = fillL x (k + 1) := fill_set x k h

/-- The bytes of a string that go over, and those that stay. -/
def headL (s : ByteArray) (L : List UInt8) : List UInt8 := s.data.toList.take L.length ++ L.drop s.size

theorem run_copy_str (w : World) (ty : TypeId) (g cap : Nat) (L : List UInt8) (s : ByteArray) (hg : Row w g L) :
    ∃ w', (Builtin.copy_ #[22, 9] ty #[.slice (some ⟨g, 0, none⟩) L.length cap, .string s]).run Try.prog w = .ok (goInt (Nat.min s.size L.length)) w' ∧ Row w' g (headL s L) ∧ w' = w.setRow g ((headL s L).map bv).toArray := by
  obtain ⟨m, hm⟩ : ∃ m, m = Nat.min s.size L.length := ⟨_, rfl⟩
  obtain ⟨cs, hcs⟩ : ∃ cs : List Value, cs = List.take m (List.map bv s.data.toList) := ⟨_, rfl⟩
  have hsz : s.data.toList.length = s.size := Array.length_toList
  have hm1 : m ≤ s.size := by rw [hm]; exact Nat.min_le_left _ _
  have hm2 : m ≤ L.length := by rw [hm]; exact Nat.min_le_right _ _
  have hlen : cs.length = m := by rw [hcs, List.length_take, List.length_map, hsz]; exact Nat.min_eq_left hm1
  have h1 : ∀ v ∈ cs, v.oneCell' = true := by
    rw [hcs]
    intro v hv
    obtain ⟨x, _, rfl⟩ := List.mem_map.1 (List.mem_of_mem_take hv)
    rfl
  have hst := run_storeCells_at Try.prog g 0 5 cs 0 (L.map bv).toArray w hg (by simp [hlen]; exact hm2) h1
  have hfin : (cs ++ (L.map bv).drop cs.length) = (headL s L).map bv := by
    unfold headL
    rw [hlen, List.map_append, hcs, List.map_take, List.map_drop]
    rcases Nat.le_total s.size L.length with h | h
    · have e : m = s.size := by rw [hm]; exact Nat.min_eq_left h
      rw [e, List.take_of_length_le (by simp [hsz]), List.take_of_length_le (by simp only [List.length_map, hsz]; exact h)]
    · have e : m = L.length := by rw [hm]; exact Nat.min_eq_right h
      rw [e, List.drop_eq_nil_of_le (i := L.length) (by simp), List.drop_eq_nil_of_le (i := s.size) (by simpa using h)]
  obtain ⟨i, hi, hh⟩ := Option.map_eq_some_iff.1 Try.info5
  simp only [Prod.mk.injEq] at hh
  refine ⟨w.setRow g ((headL s L).map bv).toArray, ?_, setRow_heap _ _ _ _ _ _ hg, rfl⟩
  rw [← hfin]
  simp only [Nat.zero_add, List.take_zero, List.nil_append] at hst
  simp [Builtin.copy_, run_underlying Try.underlying22, Builtin.lenOf, Builtin.firstCells, sizeOf, typeInfo, hi, ← hm]
  rw [← hcs, hst]
  rfl

end Go.Proofs.Ytbgaomfoiooegaa
