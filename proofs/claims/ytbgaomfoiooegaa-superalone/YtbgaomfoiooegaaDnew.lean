/-
  DERIVED. New: a device of noughts.
-/
import Derived.Test.YtbgaomfoiooegaaDev
import Derived.Laws.MakeOwn
import Derived.WideMake
namespace Go.Proofs.Ytbgaomfoiooegaa
open Go.RowKit
set_option linter.unusedVariables false

/-- So many cells of noughts. -/
def noughts (n : Nat) : Array Value := Array.replicate n (.int .u8 0)
theorem infoBlock : (Try.prog.info? 72).map (fun i => (i.zero, i.size, i.bytes)) = some (some (.agg (noughts 512)), 512, 512) := by kernel_rfl

theorem made_noughts (n : Nat) : madeCells (noughts 512) (n * 512) = noughts (n * 512) := by
  unfold madeCells noughts
  apply Array.ext
  · simp
  · intro i h1 h2
    have : i % 512 < (Array.replicate 512 (Value.int .u8 0)).size := by rw [Array.size_replicate]; omega
    rw [Array.getElem_map, Array.getElem_range, Array.getElem_replicate, Array.size_replicate, getElem!_pos (Array.replicate 512 (Value.int .u8 0)) (i % 512) this, Array.getElem_replicate]

theorem run_make_blocks (w : World) (n : Nat) (hn : n ≤ 512) : (Instr.makeSlice 55 (.int .i64 n) (.int .i64 n)).run Try.prog w = .ok (.slice (some ⟨w.heap.size, 0, none⟩) n n) (w.alloc (.cells (noughts (n * 512)) 72)) := by
  obtain ⟨i, hi, hh⟩ := Option.map_eq_some_iff.1 infoBlock
  simp only [Prod.mk.injEq] at hh
  have h := run_make (P := Try.prog) w 55 72 i _ Try.underlying55 hi hh.1 .i64 .i64 n n (by omega) (Int.le_refl _) (by rw [hh.2.2]; omega) (by omega)
  rw [h, hh.2.1, Int.toNat_natCast]
  show Result.ok _ (w.alloc (.cells (madeCells (noughts 512) (n * 512)) 72)) = _
  rw [made_noughts]

theorem heap_alloc_self (w : World) (o : Obj) : (w.alloc o).heap[w.heap.size]? = some o := by
  show (w.heap.push o)[w.heap.size]? = some o
  simp

/-- The world behind New. -/
def newW (w : World) (n : Nat) : World := ((w.alloc (.cells (noughts (n * 512)) 72)).alloc (.map #[] 0)).alloc (.cells #[.slice (some ⟨w.heap.size, 0, none⟩) n n, .map (some (w.heap.size + 1)), .bool false, .int .i64 0, .bool false, .int .i64 0] 58)

set_option maxRecDepth 20000 in
theorem New_ok (n : Nat) (w : World) (h1 : 64 ≤ n) (h2 : n ≤ 512) :
    Calls Try.prog 10 #[.int .i64 n] w fun e w' => e = .returned (.tuple #[.pointer (some ⟨w.heap.size + 2, 0, none⟩), .int .i64 0]) ∧ w' = newW w n := by
  have mk := run_make_blocks w n h2
  have mm : ∀ w : World, (Instr.makeMap 56 none).run Try.prog w = .ok (.map (some w.heap.size)) (w.alloc (.map #[] 0)) := fun w => rfl
  go_enter Try.func10, Try.ntmps10
  go_wp2
  go_ret2
  exact ⟨rfl, rfl⟩

theorem New_bad (k : Int) (w : World) (h : k < 64 ∨ 512 < k) :
    Calls Try.prog 10 #[.int .i64 k] w fun e w' => e = .returned (.tuple #[.pointer none, .int .i64 21]) ∧ w = w' := by
  rcases h with h | h
  · go_enter Try.func10, Try.ntmps10
    go_wp2
    go_ret2
    exact ⟨rfl, rfl⟩
  · have h3 : ¬ k < 64 := by omega
    go_enter Try.func10, Try.ntmps10
    go_wp2
    go_ret2
    exact ⟨rfl, rfl⟩

theorem newW_dev (w : World) (n : Nat) : DevAt (newW w n) (w.heap.size + 2) (.slice (some ⟨w.heap.size, 0, none⟩) n n) (.map (some (w.heap.size + 1))) false 0 false 0 := by
  unfold DevAt newW
  have : w.heap.size + 2 = (((w.alloc (.cells (noughts (n * 512)) 72)).alloc (.map #[] 0))).heap.size := by simp
  rw [this]
  exact heap_alloc_self _ _
theorem newW_map (w : World) (n : Nat) : (newW w n).heap[w.heap.size + 1]? = some (.map #[] 0) := by
  unfold newW
  have : w.heap.size + 1 = (w.alloc (.cells (noughts (n * 512)) 72)).heap.size := by simp
  rw [Below.heap_alloc _ _ _ (by simp), this]
  exact heap_alloc_self _ _
theorem newW_row (w : World) (n : Nat) : (newW w n).heap[w.heap.size]? = some (.cells (noughts (n * 512)) 72 (0, 0)) := by
  unfold newW
  rw [Below.heap_alloc _ _ _ (by simp; omega), Below.heap_alloc _ _ _ (by simp)]
  exact heap_alloc_self _ _
theorem newW_below (w : World) (n : Nat) : Below w.heap.size w (newW w n) :=
  (((Below.refl _ _).alloc (Nat.le_refl _) _).alloc (by simp) _).alloc (by simp; omega) _
end Go.Proofs.Ytbgaomfoiooegaa
