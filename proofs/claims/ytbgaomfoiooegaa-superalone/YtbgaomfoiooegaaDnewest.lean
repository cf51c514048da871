/-
  DERIVED. newest: a block as it was written last.
-/
import Derived.Test.YtbgaomfoiooegaaDnew
import Derived.Deep.MidRow
namespace Go.Proofs.Ytbgaomfoiooegaa
open Go.RowKit
set_option linter.unusedVariables false

theorem sizeBlock : (Try.prog.info? 72).map (·.size) = some 512 := by kernel_rfl
theorem run_alloc_block (w : World) : (Instr.alloc 72 true (.tuple #[])).run Try.prog w = .ok (.pointer (some ⟨w.heap.size, 0, none⟩)) (w.alloc (.cells (noughts 512) 72)) := by kernel_rfl
theorem wpList_alloc_block {ops : Array Oper} {rest : List Oper} {o : Oper} {a : Act} {w : World} {Q : Exit → Act → World → Prop} (hgd : o.guard = none)
    (ho : o.op = .alloc 72) (h : wpList Try.prog ops Q rest (a.put o.dst (.pointer (some ⟨w.heap.size, 0, none⟩))) (w.alloc (.cells (noughts 512) 72))) : wpList Try.prog ops Q (o :: rest) a w := by
  refine wpList_plain hgd fun K hK => ?_
  unfold Oper.wp execOp
  simp only [ho, Sem.run_bind, Sem.run_pure, run_alloc_block, Result.andThen_ok]
  exact hK _ _ h

theorem below_setRowD (B : Nat) (w : World) (g : Nat) (cs : Array Value) (h : B ≤ g) : Below B w (w.setRow g cs) := by
  refine ⟨rfl, rfl, rfl, by simp [World.setRow], fun k hk => ?_⟩
  simp only [World.setRow, Array.getElem?_modify]
  rw [if_neg (by omega)]
theorem size_noughts (n : Nat) : (noughts n).size = n := by simp [noughts]

theorem newest_old {g n c : Nat} {b : Nat} {pm : Value} {fused : Bool} {fuse : Int} {down : Bool} {ops : Int} (w : World) (k : Nat) (ao : Option Addr) (cap : Nat) (cs : List Value)
    (h : DevAt w b (.slice (some ⟨g, 0, none⟩) n c) pm fused fuse down ops) (hk : k < n)
    (hl : ∀ o, (Instr.lookup 56 pm (.int .i64 k) false).run Try.prog (w.alloc o) = .ok (.slice ao 0 cap) (w.alloc o))
    (hr : w.rangeAt g (k * 512) cs) (hc : cs.length = 512) (h1 : ∀ v ∈ cs, v.oneCell' = true) :
    Calls Try.prog 34 #[.pointer (some ⟨b, 0, none⟩), .int .i64 k] w fun e w' => e = .returned (.agg cs.toArray) ∧ Below w.heap.size w w' := by
  have HB := hide ((Below.refl w.heap.size w).alloc (Nat.le_refl _) (.cells (noughts 512) 72))
  have h' : DevAt (w.alloc (.cells (noughts 512) 72)) b (.slice (some ⟨g, 0, none⟩) n c) pm fused fuse down ops := h.below (unhide HB) h.lt
  have c0 := h'.c0
  have c1 := h'.c1
  have hl' := hl (.cells (noughts 512) 72)
  have HR := hide (World.rangeAt_alloc hr (.cells (noughts 512) 72))
  clear h h' hl hr
  have H0 := hide (heap_alloc_self w (.cells (noughts 512) 72))
  have HS : Hid (cs.toArray.size = 512) := hide (by simpa using hc)
  go_enter Try.func34, Try.ntmps34
  go_wp2_with (first | (refine wpList_alloc_block rfl rfl ?_) | (refine wpList_load_mid rfl 72 (.tmp 26) rfl g (k * 512) rfl cs _ (unhide HR) Try.underlying72 rfl (by rw [hc]; exact sizeBlock) ?_) | (refine wpList_store_row rfl 72 (.tmp 4) (.tmp 27) rfl w.heap.size cs.toArray rfl rfl 72 (noughts 512) (unhide H0) (by rw [unhide HS]; exact sizeBlock) (by rw [unhide HS, size_noughts]) (all_oneCell_toArray h1) ?_))
  refine bodyPost_ret (v := .agg cs.toArray) (results_cell_row rfl _ _ w.heap.size 72 cs.toArray (0, 0) _ rfl (setRow_heap _ _ _ _ _ _ (unhide H0)) Try.underlying72 rfl (by rw [unhide HS]; exact sizeBlock)) rfl ⟨rfl, ?_⟩
  exact (unhide HB).trans (below_setRowD _ _ _ _ (Nat.le_refl _))

theorem newest_new {g n c : Nat} {b : Nat} {pm : Value} {fl : Value} {fused : Bool} {fuse : Int} {down : Bool} {ops : Int} (w : World) (k : Nat) (q j cap : Nat) (cs : List Value)
    (h : DevAt w b fl pm fused fuse down ops) (hj : j < 9223372036854775807)
    (hl : ∀ o, (Instr.lookup 56 pm (.int .i64 k) false).run Try.prog (w.alloc o) = .ok (.slice (some ⟨q, 0, none⟩) (j + 1) cap) (w.alloc o))
    (hr : w.rangeAt q (j * 512) cs) (hc : cs.length = 512) (h1 : ∀ v ∈ cs, v.oneCell' = true) :
    Calls Try.prog 34 #[.pointer (some ⟨b, 0, none⟩), .int .i64 k] w fun e w' => e = .returned (.agg cs.toArray) ∧ Below w.heap.size w w' := by
  have HB := hide ((Below.refl w.heap.size w).alloc (Nat.le_refl _) (.cells (noughts 512) 72))
  have h' : DevAt (w.alloc (.cells (noughts 512) 72)) b fl pm fused fuse down ops := h.below (unhide HB) h.lt
  have c1 := h'.c1
  have hl' := hl (.cells (noughts 512) 72)
  have HR := hide (World.rangeAt_alloc hr (.cells (noughts 512) 72))
  clear h h' hl hr
  have H0 := hide (heap_alloc_self w (.cells (noughts 512) 72))
  have HS : Hid (cs.toArray.size = 512) := hide (by simpa using hc)
  go_enter Try.func34, Try.ntmps34
  go_wp2_with (first | (refine wpList_alloc_block rfl rfl ?_) | (refine wpList_load_mid rfl 72 (.tmp 19) rfl q (j * 512) rfl cs _ (unhide HR) Try.underlying72 rfl (by rw [hc]; exact sizeBlock) ?_) | (refine wpList_store_row rfl 72 (.tmp 4) (.tmp 20) rfl w.heap.size cs.toArray rfl rfl 72 (noughts 512) (unhide H0) (by rw [unhide HS]; exact sizeBlock) (by rw [unhide HS, size_noughts]) (all_oneCell_toArray h1) ?_))
  refine bodyPost_ret (v := .agg cs.toArray) (results_cell_row rfl _ _ w.heap.size 72 cs.toArray (0, 0) _ rfl (setRow_heap _ _ _ _ _ _ (unhide H0)) Try.underlying72 rfl (by rw [unhide HS]; exact sizeBlock)) rfl ⟨rfl, ?_⟩
  exact (unhide HB).trans (below_setRowD _ _ _ _ (Nat.le_refl _))
end Go.Proofs.Ytbgaomfoiooegaa
