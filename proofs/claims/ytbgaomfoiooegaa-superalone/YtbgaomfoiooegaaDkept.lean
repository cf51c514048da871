/-
  DERIVED. kept: what a crash leaves of a block.
-/
import Derived.Test.YtbgaomfoiooegaaDnewest
namespace Go.Proofs.Ytbgaomfoiooegaa
open Go.RowKit
set_option linter.unusedVariables false

/-- What a pick picks among so many writes: 0 is what was flushed. -/
def pickR (p : Int) (L : Nat) : Nat := (if p < 0 then -(p + 1) else p).toNat % (L + 1)

theorem tm_neg (p : Int) (hn : p < 0) (L : Nat) : -((p + 1).tmod ((L : Int) + 1)) = (pickR p L : Int) := by
  unfold pickR
  rw [if_pos hn]
  obtain ⟨x, hx⟩ : ∃ x : Nat, p + 1 = -(x : Int) := ⟨(-(p + 1)).toNat, by omega⟩
  rw [hx, Int.neg_tmod, Int.neg_neg, Int.neg_neg, Int.toNat_natCast]
  rfl
theorem tm_pos (p : Int) (hn : ¬ p < 0) (L : Nat) : p.tmod ((L : Int) + 1) = (pickR p L : Int) := by
  unfold pickR
  rw [if_neg hn]
  obtain ⟨x, rfl⟩ : ∃ x : Nat, p = (x : Int) := ⟨p.toNat, by omega⟩
  rw [Int.toNat_natCast]
  rfl

set_option maxRecDepth 20000 in
theorem kept_old {g n c : Nat} {b : Nat} {pm : Value} {fused : Bool} {fuse : Int} {down : Bool} {ops : Int} (w : World) (k : Nat) (p : Int) (ao : Option Addr) (L cap : Nat) (cs : List Value)
    (h : DevAt w b (.slice (some ⟨g, 0, none⟩) n c) pm fused fuse down ops) (hk : k < n) (p1 : -9223372036854775808 ≤ p) (p2 : p < 9223372036854775808) (hL : L < 9223372036854775807)
    (hl : ∀ o, (Instr.lookup 56 pm (.int .i64 k) false).run Try.prog (w.alloc o) = .ok (.slice ao L cap) (w.alloc o)) (hp : pickR p L = 0)
    (hr : w.rangeAt g (k * 512) cs) (hc : cs.length = 512) (h1 : ∀ v ∈ cs, v.oneCell' = true) :
    Calls Try.prog 31 #[.pointer (some ⟨b, 0, none⟩), .int .i64 k, .int .i64 p] w fun e w' => e = .returned (.agg cs.toArray) ∧ Below w.heap.size w w' := by
  have HB := hide ((Below.refl w.heap.size w).alloc (Nat.le_refl _) (.cells (noughts 512) 72))
  have h' : DevAt (w.alloc (.cells (noughts 512) 72)) b (.slice (some ⟨g, 0, none⟩) n c) pm fused fuse down ops := h.below (unhide HB) h.lt
  have c0 := h'.c0
  have c1 := h'.c1
  have hl' := hl (.cells (noughts 512) 72)
  have HR := hide (World.rangeAt_alloc hr (.cells (noughts 512) 72))
  clear h h' hl hr
  have H0 := hide (heap_alloc_self w (.cells (noughts 512) 72))
  have HS : Hid (cs.toArray.size = 512) := hide (by simpa using hc)
  by_cases hn : p < 0
  · have ht : -((p + 1).tmod ((L : Int) + 1)) = 0 := by rw [tm_neg p hn L, hp]; rfl
    clear hp
    go_enter Try.func31, Try.ntmps31
    go_wp2_with (first | (refine wpList_alloc_block rfl rfl ?_) | (refine wpList_load_mid rfl 72 (.tmp 32) rfl g (k * 512) rfl cs _ (unhide HR) Try.underlying72 rfl (by rw [hc]; exact sizeBlock) ?_) | (refine wpList_store_row rfl 72 (.tmp 6) (.tmp 33) rfl w.heap.size cs.toArray rfl rfl 72 (noughts 512) (unhide H0) (by rw [unhide HS]; exact sizeBlock) (by rw [unhide HS, size_noughts]) (all_oneCell_toArray h1) ?_))
    refine bodyPost_ret (v := .agg cs.toArray) (results_cell_row rfl _ _ w.heap.size 72 cs.toArray (0, 0) _ rfl (setRow_heap _ _ _ _ _ _ (unhide H0)) Try.underlying72 rfl (by rw [unhide HS]; exact sizeBlock)) rfl ⟨rfl, ?_⟩
    exact (unhide HB).trans (below_setRowD _ _ _ _ (Nat.le_refl _))
  · have ht : p.tmod ((L : Int) + 1) = 0 := by rw [tm_pos p hn L, hp]; rfl
    clear hp
    go_enter Try.func31, Try.ntmps31
    go_wp2_with (first | (refine wpList_alloc_block rfl rfl ?_) | (refine wpList_load_mid rfl 72 (.tmp 32) rfl g (k * 512) rfl cs _ (unhide HR) Try.underlying72 rfl (by rw [hc]; exact sizeBlock) ?_) | (refine wpList_store_row rfl 72 (.tmp 6) (.tmp 33) rfl w.heap.size cs.toArray rfl rfl 72 (noughts 512) (unhide H0) (by rw [unhide HS]; exact sizeBlock) (by rw [unhide HS, size_noughts]) (all_oneCell_toArray h1) ?_))
    refine bodyPost_ret (v := .agg cs.toArray) (results_cell_row rfl _ _ w.heap.size 72 cs.toArray (0, 0) _ rfl (setRow_heap _ _ _ _ _ _ (unhide H0)) Try.underlying72 rfl (by rw [unhide HS]; exact sizeBlock)) rfl ⟨rfl, ?_⟩
    exact (unhide HB).trans (below_setRowD _ _ _ _ (Nat.le_refl _))

set_option maxRecDepth 20000 in
theorem kept_new {b : Nat} {fl pm : Value} {fused : Bool} {fuse : Int} {down : Bool} {ops : Int} (w : World) (k : Nat) (p : Int) (q L cap j : Nat) (cs : List Value)
    (h : DevAt w b fl pm fused fuse down ops) (p1 : -9223372036854775808 ≤ p) (p2 : p < 9223372036854775808) (hL : L < 9223372036854775807)
    (hl : ∀ o, (Instr.lookup 56 pm (.int .i64 k) false).run Try.prog (w.alloc o) = .ok (.slice (some ⟨q, 0, none⟩) L cap) (w.alloc o)) (hp : pickR p L = j + 1)
    (hr : w.rangeAt q (j * 512) cs) (hc : cs.length = 512) (h1 : ∀ v ∈ cs, v.oneCell' = true) :
    Calls Try.prog 31 #[.pointer (some ⟨b, 0, none⟩), .int .i64 k, .int .i64 p] w fun e w' => e = .returned (.agg cs.toArray) ∧ Below w.heap.size w w' := by
  have HB := hide ((Below.refl w.heap.size w).alloc (Nat.le_refl _) (.cells (noughts 512) 72))
  have h' : DevAt (w.alloc (.cells (noughts 512) 72)) b fl pm fused fuse down ops := h.below (unhide HB) h.lt
  have hlt : pickR p L < L + 1 := Nat.mod_lt _ (by omega)
  have hj : j < L := by omega
  clear hlt
  have c1 := h'.c1
  have hl' := hl (.cells (noughts 512) 72)
  have HR := hide (World.rangeAt_alloc hr (.cells (noughts 512) 72))
  clear h h' hl hr
  have H0 := hide (heap_alloc_self w (.cells (noughts 512) 72))
  have HS : Hid (cs.toArray.size = 512) := hide (by simpa using hc)
  by_cases hn : p < 0
  · have ht : -((p + 1).tmod ((L : Int) + 1)) = ((j : Int) + 1) := by rw [tm_neg p hn L, hp]; rfl
    clear hp
    go_enter Try.func31, Try.ntmps31
    go_wp2_with (first | (refine wpList_alloc_block rfl rfl ?_) | (refine wpList_load_mid rfl 72 (.tmp 37) rfl q (j * 512) rfl cs _ (unhide HR) Try.underlying72 rfl (by rw [hc]; exact sizeBlock) ?_) | (refine wpList_store_row rfl 72 (.tmp 6) (.tmp 38) rfl w.heap.size cs.toArray rfl rfl 72 (noughts 512) (unhide H0) (by rw [unhide HS]; exact sizeBlock) (by rw [unhide HS, size_noughts]) (all_oneCell_toArray h1) ?_))
    refine bodyPost_ret (v := .agg cs.toArray) (results_cell_row rfl _ _ w.heap.size 72 cs.toArray (0, 0) _ rfl (setRow_heap _ _ _ _ _ _ (unhide H0)) Try.underlying72 rfl (by rw [unhide HS]; exact sizeBlock)) rfl ⟨rfl, ?_⟩
    exact (unhide HB).trans (below_setRowD _ _ _ _ (Nat.le_refl _))
  · have ht : p.tmod ((L : Int) + 1) = ((j : Int) + 1) := by rw [tm_pos p hn L, hp]; rfl
    clear hp
    go_enter Try.func31, Try.ntmps31
    go_wp2_with (first | (refine wpList_alloc_block rfl rfl ?_) | (refine wpList_load_mid rfl 72 (.tmp 37) rfl q (j * 512) rfl cs _ (unhide HR) Try.underlying72 rfl (by rw [hc]; exact sizeBlock) ?_) | (refine wpList_store_row rfl 72 (.tmp 6) (.tmp 38) rfl w.heap.size cs.toArray rfl rfl 72 (noughts 512) (unhide H0) (by rw [unhide HS]; exact sizeBlock) (by rw [unhide HS, size_noughts]) (all_oneCell_toArray h1) ?_))
    refine bodyPost_ret (v := .agg cs.toArray) (results_cell_row rfl _ _ w.heap.size 72 cs.toArray (0, 0) _ rfl (setRow_heap _ _ _ _ _ _ (unhide H0)) Try.underlying72 rfl (by rw [unhide HS]; exact sizeBlock)) rfl ⟨rfl, ?_⟩
    exact (unhide HB).trans (below_setRowD _ _ _ _ (Nat.le_refl _))

end Go.Proofs.Ytbgaomfoiooegaa
