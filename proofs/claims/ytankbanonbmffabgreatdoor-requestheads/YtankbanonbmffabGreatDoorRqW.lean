/-
  DERIVED. Parse: its deferred closure.
-/
import Derived.Test.YtankbanonbmffabGreatDoorRqV
import Derived.Defers
import Derived.Recover
namespace Go.Proofs.YtankbanonbmffabGreatDoor
open Go.RowKit
set_option linter.unusedVariables false

theorem assert_status (n : Int) (w : World) : (Instr.typeAssert (.iface 36 (.int .i64 n)) 20 36 true).run Tryz.prog w = .ok (.tuple #[.int .i64 n, .bool true]) w := by kernel_rfl
theorem assert_none (w : World) : (Instr.typeAssert .nilIface 20 36 true).run Tryz.prog w = .ok (.tuple #[.int .i64 0, .bool false]) w := by kernel_rfl

def rq0 : Array Value := rqV [] [] [] (.slice none 0 0) [] false
/-- The results' three boxes. -/
structure PBx (w : World) (rb : Nat) (cs : Array Value) (n s : Int) : Prop where
  r : w.heap[rb]? = some (.cells cs 27 (0, 0))
  n_ : w.heap[rb + 1]? = some (.cells #[.int .i64 n] 3 (0, 0))
  s_ : w.heap[rb + 2]? = some (.cells #[.int .i64 s] 3 (0, 0))
theorem PBx.below {B : Nat} {w w' : World} {rb : Nat} {cs : Array Value} {n s : Int} (h : PBx w rb cs n s) (hb : Below B w w') (hB : rb + 3 ≤ B) : PBx w' rb cs n s :=
  ⟨(hb.block rb (by omega)).trans h.r, (hb.block (rb + 1) (by omega)).trans h.n_, (hb.block (rb + 2) (by omega)).trans h.s_⟩
theorem PBx.lt {w : World} {rb : Nat} {cs : Array Value} {n s : Int} (h : PBx w rb cs n s) : rb + 3 ≤ w.heap.size := lt_of_block h.s_

theorem PBx.store {w : World} {rb : Nat} (h : PBx w rb rq0 0 0) (n : Int) : ∃ w', (((((((((w.setCell ⟨rb, 0, none⟩ (qv [])).setCell ⟨rb, 1, none⟩ (qv [])).setCell ⟨rb, 2, none⟩ (qv [])).setCell ⟨rb, 3, none⟩ (.slice none 0 0)).setCell ⟨rb, 4, none⟩ (qv [])).setCell ⟨rb, 5, none⟩ (.bool false)).setCell ⟨rb + 1, 0, none⟩ (.int .i64 0)).setCell ⟨rb + 2, 0, none⟩ (.int .i64 n)) = w') ∧ PBx w' rb rq0 0 n ∧ Below rb w w' := by
  refine ⟨_, rfl, ⟨?_, ?_, ?_⟩, ?_⟩
  · rw [Below.heap_setCell _ _ _ _ (by show rb ≠ rb + 2; omega), Below.heap_setCell _ _ _ _ (by show rb ≠ rb + 1; omega)]
    exact heap_setCell_same _ rb 5 _ _ _ (heap_setCell_same _ rb 4 _ _ _ (heap_setCell_same _ rb 3 _ _ _ (heap_setCell_same _ rb 2 _ _ _ (heap_setCell_same _ rb 1 _ _ _ (heap_setCell_same w rb 0 _ _ _ h.r)))))
  · rw [Below.heap_setCell _ _ _ _ (by show rb + 1 ≠ rb + 2; omega)]
    refine (heap_setCell_same _ (rb + 1) 0 #[.int .i64 0] _ _ ?_).trans rfl
    rw [Below.heap_setCell _ _ _ _ (by show rb + 1 ≠ rb; omega), Below.heap_setCell _ _ _ _ (by show rb + 1 ≠ rb; omega), Below.heap_setCell _ _ _ _ (by show rb + 1 ≠ rb; omega), Below.heap_setCell _ _ _ _ (by show rb + 1 ≠ rb; omega), Below.heap_setCell _ _ _ _ (by show rb + 1 ≠ rb; omega), Below.heap_setCell _ _ _ _ (by show rb + 1 ≠ rb; omega)]
    exact h.n_
  · refine (heap_setCell_same _ (rb + 2) 0 #[.int .i64 0] _ _ ?_).trans rfl
    rw [Below.heap_setCell _ _ _ _ (by show rb + 2 ≠ rb + 1; omega), Below.heap_setCell _ _ _ _ (by show rb + 2 ≠ rb; omega), Below.heap_setCell _ _ _ _ (by show rb + 2 ≠ rb; omega), Below.heap_setCell _ _ _ _ (by show rb + 2 ≠ rb; omega), Below.heap_setCell _ _ _ _ (by show rb + 2 ≠ rb; omega), Below.heap_setCell _ _ _ _ (by show rb + 2 ≠ rb; omega), Below.heap_setCell _ _ _ _ (by show rb + 2 ≠ rb; omega)]
    exact h.s_
  · exact (((((((((Below.refl rb w).setCell (p := ⟨rb, 0, none⟩) (Nat.le_refl _) _).setCell (p := ⟨rb, 1, none⟩) (Nat.le_refl _) _).setCell (p := ⟨rb, 2, none⟩) (Nat.le_refl _) _).setCell (p := ⟨rb, 3, none⟩) (Nat.le_refl _) _).setCell (p := ⟨rb, 4, none⟩) (Nat.le_refl _) _).setCell (p := ⟨rb, 5, none⟩) (Nat.le_refl _) _).setCell (p := ⟨rb + 1, 0, none⟩) (by show rb ≤ rb + 1; omega) _).setCell (p := ⟨rb + 2, 0, none⟩) (by show rb ≤ rb + 2; omega) _)

set_option maxRecDepth 20000 in
set_option maxHeartbeats 4000000 in
theorem catchQ_panicking (rb : Nat) (n : Int) (older : List PanicEntry) (w : World) (h : PBx w rb rq0 0 0) :
    CallsD Tryz.prog 7 #[.pointer (some ⟨rb, 0, none⟩), .pointer (some ⟨rb + 1, 0, none⟩), .pointer (some ⟨rb + 2, 0, none⟩)] (.panicking ({ v := .iface 36 (.int .i64 n), recovered := false } :: older)) w fun e u' w' =>
      e = .returned (.tuple #[]) ∧ u' = .panicking ({ v := .iface 36 (.int .i64 n), recovered := true } :: older) ∧ PBx w' rb rq0 0 n ∧ Below rb w w' := by
  obtain ⟨w', hw', HP, HB⟩ := h.store n
  have c0 : w.cell? ⟨rb, 0, none⟩ = some (qv []) := (cell_of_row _ _ _ _ _ _ h.r).trans rfl
  have c1 : w.cell? ⟨rb, 1, none⟩ = some (qv []) := (cell_of_row _ _ _ _ _ _ h.r).trans rfl
  have c2 : w.cell? ⟨rb, 2, none⟩ = some (qv []) := (cell_of_row _ _ _ _ _ _ h.r).trans rfl
  have c3 : w.cell? ⟨rb, 3, none⟩ = some (.slice none 0 0) := (cell_of_row _ _ _ _ _ _ h.r).trans rfl
  have c4 : w.cell? ⟨rb, 4, none⟩ = some (qv []) := (cell_of_row _ _ _ _ _ _ h.r).trans rfl
  have c5 : w.cell? ⟨rb, 5, none⟩ = some (.bool false) := (cell_of_row _ _ _ _ _ _ h.r).trans rfl
  have d0 : w.cell? ⟨rb + 1, 0, none⟩ = some (.int .i64 0) := (cell_of_row _ _ _ _ _ _ h.n_).trans rfl
  have d1 : w.cell? ⟨rb + 2, 0, none⟩ = some (.int .i64 0) := (cell_of_row _ _ _ _ _ _ h.s_).trans rfl
  have f0 : ∀ i, w.frozen? ⟨rb, i, none⟩ = false := fun i => by simp [World.frozen?, h.r]
  have f1 : w.frozen? ⟨rb + 1, 0, none⟩ = false := by simp [World.frozen?, h.n_]
  have f2 : w.frozen? ⟨rb + 2, 0, none⟩ = false := by simp [World.frozen?, h.s_]
  have HW := hide hw'
  have HP' := hide HP
  have HB' := hide HB
  clear h hw' HP HB
  refine callsD_of_wpS Tryz.func7 rfl fun c₀ cs hu => ?_
  apply wpS_seq
  apply wpS_region
  simp [wpOpsS, go_sem, assert_status, recoverD, hu, Tryz.ntmps7, Exit.thenS]
  apply wpS_seq
  apply wpS_region
  simp [wpOpsS, go_sem, Exit.thenS]
  refine wpS_cond (t := true) (by simp [Act.eval, Array.replicate]) ?_
  simp only [if_true]
  refine wpS_of_wp ?_
  go_wp2
  obtain rfl := unhide HW
  simp [bodyPostS, results, Tryz.results7]
  exact ⟨unhide HP', unhide HB'⟩

set_option maxRecDepth 20000 in
theorem catchQ_idle (rb : Nat) (w : World) :
    CallsD Tryz.prog 7 #[.pointer (some ⟨rb, 0, none⟩), .pointer (some ⟨rb + 1, 0, none⟩), .pointer (some ⟨rb + 2, 0, none⟩)] .returning w fun e u' w' => e = .returned (.tuple #[]) ∧ u' = .returning ∧ w' = w := by
  refine callsD_of_wpS Tryz.func7 rfl fun c₀ cs hu => ?_
  apply wpS_seq
  apply wpS_region
  simp [wpOpsS, go_sem, assert_none, recoverD, hu, Tryz.ntmps7, Exit.thenS]
  apply wpS_seq
  apply wpS_region
  simp [wpOpsS, go_sem, Exit.thenS]
  refine wpS_cond (t := false) (by simp [Act.eval, Array.replicate]) ?_
  simp only [Bool.false_eq_true, if_false]
  refine wpS_of_wp (wp_skip ?_)
  cases c₀
  simp_all [bodyPostS, results, Tryz.results7]
end Go.Proofs.YtankbanonbmffabGreatDoor
