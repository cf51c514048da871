/-
  DERIVED. The walks of apart and eventsApart.
-/
import Derived.Test.YtgpijeaehkabdaaXblk
namespace Go.Proofs.Ytgpijeaehkabdaa
open Go.RowKit
set_option linter.unusedVariables false

def ApPost (t : List UInt8) (v : Int) (fs : List Fld) (w : World) (e : Ending) (w' : World) : Prop :=
  ∃ q, e = .returned (.agg (ev t v (some ⟨q, 0, none⟩) fs.length fs.length)) ∧ w.heap.size ≤ q ∧ FdBlk w' q fs.length fs ∧ Below w.heap.size w w'

set_option maxRecDepth 20000 in
set_option maxHeartbeats 4000000 in
theorem apart_go (t : List UInt8) (v : Int) (a : Option Addr) (n c : Nat) (fs : List Fld) (w : World) (hv : FdL w (.slice a n c) fs) (h16 : fs.length ≤ 16) :
    Calls Try.prog 37 #[.agg (ev t v a n c)] w (ApPost t v fs w) := by
  obtain rfl : n = fs.length := by obtain ⟨_, _, e, _⟩ := hv; cases e; rfl
  obtain ⟨w1, hw1⟩ : ∃ w1, w1 = (w.alloc (.cells (ev t v a fs.length c) 43)).alloc (.cells (ev [] 0 none 0 0) 43) := ⟨_, rfl⟩
  have s1 : w1.heap.size = w.heap.size + 2 := by rw [hw1]; simp
  have b1 : Below w.heap.size w w1 := by rw [hw1]; exact ((Below.refl _ _).alloc (Nat.le_refl _) _).alloc (by simp) _
  have x0 : EBox w1 w.heap.size t v (.slice a fs.length c) := by
    unfold EBox; rw [hw1, Below.heap_alloc _ _ _ (by simp)]; exact heap_alloc_self _ _
  have y0 : EBox w1 (w.heap.size + 1) [] 0 (.slice none 0 0) := by
    unfold EBox; rw [hw1, show w.heap.size + 1 = (w.alloc (.cells (ev t v a fs.length c) 43)).heap.size by simp]; exact heap_alloc_self _ _
  obtain ⟨w2, hmk, f2, g2⟩ := make_fields w1 fs.length h16
  have x2 : EBox w2 w.heap.size t v (.slice a fs.length c) := x0.same (g2.block _ (by omega) (by simp))
  have y2 : EBox w2 (w.heap.size + 1) [] 0 (.slice none 0 0) := y0.same (g2.block _ (by omega) (by simp))
  have b2 : Below w.heap.size w w2 := b1.trans ⟨g2.os, g2.tape, g2.output, g2.size, fun k hk => g2.block k (by omega) (by simp)⟩
  have hcp := fun ty => copy_fields w2 ty w1.heap.size a fs.length c fs (hv.below b2 (Nat.le_refl _)) f2
  obtain ⟨w3, hc0, f3, g3⟩ := hcp 3
  have hcy : ∀ ty, (Builtin.copy_ #[41, 41] ty #[.slice (some ⟨w1.heap.size, 0, none⟩) fs.length fs.length, .slice a fs.length c]).run Try.prog w2 = .ok (goInt fs.length) w3 := fun ty => hc0
  have x3 : EBox w3 w.heap.size t v (.slice a fs.length c) := x2.same (g3.block _ (lt_of_block x2) (by rw [s1]; simp))
  have y3 : EBox w3 (w.heap.size + 1) [] 0 (.slice none 0 0) := y2.same (g3.block _ (lt_of_block y2) (by rw [s1]; simp))
  have b3 : Below w.heap.size w w3 := b2.trans ⟨g3.os, g3.tape, g3.output, g3.size, fun k hk => g3.block k (by have := b2.size; omega) (by rw [s1]; simp; omega)⟩
  have hz3 := b3.size
  obtain ⟨q, hq⟩ : ∃ q, q = w1.heap.size := ⟨_, rfl⟩
  have hq2 : q = w.heap.size + 2 := hq.trans s1
  have x4 := x3.set2 (.slice (some ⟨q, 0, none⟩) fs.length fs.length)
  have e01 : w.heap.size + 1 ≠ w.heap.size := by omega
  have y4 : EBox (w3.setCell ⟨w.heap.size, 2, none⟩ (.slice (some ⟨q, 0, none⟩) fs.length fs.length)) (w.heap.size + 1) [] 0 (.slice none 0 0) := y3.same (heap_setCell_other _ _ _ _ e01)
  have f4 : FdBlk (w3.setCell ⟨w.heap.size, 2, none⟩ (.slice (some ⟨q, 0, none⟩) fs.length fs.length)) q fs.length fs := by rw [hq]; exact f3.same (heap_setCell_other _ _ _ _ (show w1.heap.size ≠ w.heap.size by omega))
  have b4 : Below w.heap.size w (w3.setCell ⟨w.heap.size, 2, none⟩ (.slice (some ⟨q, 0, none⟩) fs.length fs.length)) := b3.setCell (Nat.le_refl _) _
  have y5 := ((y4.set0 t).set1 v).set2 (.slice (some ⟨q, 0, none⟩) fs.length fs.length)
  have b5 := ((b4.setCell (p := ⟨w.heap.size + 1, 0, none⟩) (Nat.le_succ _) (sv t)).setCell (p := ⟨w.heap.size + 1, 1, none⟩) (Nat.le_succ _) (.int .i64 v)).setCell (p := ⟨w.heap.size + 1, 2, none⟩) (Nat.le_succ _) (.slice (some ⟨q, 0, none⟩) fs.length fs.length)
  have eq1 : q ≠ w.heap.size + 1 := by omega
  have f5 := ((f4.same (heap_setCell_other _ ⟨w.heap.size + 1, 0, none⟩ _ (sv t) eq1)).same (heap_setCell_other _ ⟨w.heap.size + 1, 1, none⟩ _ (.int .i64 v) eq1)).same (heap_setCell_other _ ⟨w.heap.size + 1, 2, none⟩ _ (.slice (some ⟨q, 0, none⟩) fs.length fs.length) eq1)
  have Y5 := hide y5
  have B5 := hide b5
  have F5 := hide f5
  obtain ⟨p0, p1, p2, p3⟩ := x2.cells
  obtain ⟨q0, q1, q2, q3⟩ := x3.cells
  obtain ⟨r0, r1, r2, r3⟩ := x4.cells
  obtain ⟨u0, u1, u2, u3⟩ := y4.cells
  obtain ⟨z0, z1, z2, z3⟩ := x0.cells
  have hcy2 := hcy
  rw [← hq] at hcy2 hmk
  rw [hw1] at hmk
  have hq3 : w.heap.size ≤ q := by omega
  have HQ3 := hide hq3
  clear hq3 hq2 hq eq1 e01 hz3 s1 hw1
  obtain ⟨M, hM⟩ : ∃ M, M = fs.length := ⟨_, rfl⟩
  have HM := hide hM
  simp only [← hM] at hmk hcy2 p0 p1 p2 q0 q1 q2 r0 r1 r2 u0 u1 u2 z0 z1 z2 r3 u3 h16 ⊢
  clear hM hcy hc0 hcp f2 g2 f3 g3 x2 y2 x3 y3 x4 y4 f4 b4 y5 b5 f5 b1 b2 b3 x0 y0 hv
  go_enter Try.func37, Try.ntmps37
  go_wp2
  exact bodyPost_ret (results_cell_row rfl _ _ (w.heap.size + 1) 43 (ev t v (some ⟨q, 0, none⟩) M M) (0, 0) _ rfl (by rw [unhide HM]; exact unhide Y5) Try.underlying43 rfl infoEvent) rfl (by rw [unhide HM]; exact ⟨q, rfl, unhide HQ3, unhide F5, unhide B5⟩)
end Go.Proofs.Ytgpijeaehkabdaa
