/-
  DERIVED. Read.
-/
import Derived.Test.YtbgaomfoiooegaaDkept
namespace Go.Proofs.Ytbgaomfoiooegaa
open Go.RowKit
set_option linter.unusedVariables false

section
variable {w : World} {b : Nat} {pm : Value} {fused : Bool} {fuse : Int} {down : Bool} {ops : Int} {a : Option Addr} {n c : Nat}

theorem Read_closed (k : Int) (h : DevAt w b (.slice a n c) pm fused fuse down ops) (hE : openE n down k ≠ 0) :
    Calls Try.prog 22 #[.pointer (some ⟨b, 0, none⟩), .int .i64 k] w fun e w' => e = .returned (.tuple #[.slice none 0 0, .int .i64 (openE n down k)]) ∧ w = w' := by
  have HD := hide h
  clear h
  have hne : (openE n down k != 0) = true := by rw [bne_iff_ne]; exact hE
  go_enter Try.func22, Try.ntmps22
  go_wp2_with (go_at_call 32; refine (open_dev k (unhide HD)).mono ?_; rintro e w' ⟨rfl, rfl⟩)
  go_ret2
  exact ⟨rfl, rfl⟩

theorem Read_burnt (k : Int) (h : DevAt w b (.slice a n c) pm fused fuse down ops) (hE : openE n down k = 0) (hB : burnE fused fuse ≠ 0) (f1 : 0 ≤ fuse) (f2 : fuse < 9223372036854775808) (o1 : 0 ≤ ops) (o2 : ops < 9223372036854775807) :
    Calls Try.prog 22 #[.pointer (some ⟨b, 0, none⟩), .int .i64 k] w fun e w' => e = .returned (.tuple #[.slice none 0 0, .int .i64 (burnE fused fuse)]) ∧ DevAt w' b (.slice a n c) pm fused (burnF fused fuse) (burnD fused fuse down) (burnO fused fuse ops) ∧ Only b w w' := by
  have HD := hide h
  clear h
  have hne : (burnE fused fuse != 0) = true := by rw [bne_iff_ne]; exact hB
  go_enter Try.func22, Try.ntmps22
  go_wp2_with (first | (go_at_call 32; refine (open_dev k (unhide HD)).mono ?_; rintro e w' ⟨rfl, rfl⟩; rw [hE]) | fail)
  refine (burn_dev (unhide HD) f1 f2 o1 o2).mono ?_
  rintro e w1 ⟨rfl, d1, o1⟩
  have H1 := hide (And.intro d1 o1)
  clear d1 o1
  go_wp2
  go_ret2
  exact ⟨rfl, unhide H1⟩

theorem Read_ok (k : Int) (cs : List Value) (h : DevAt w b (.slice a n c) pm fused fuse down ops) (hE : openE n down k = 0) (hB : burnE fused fuse = 0) (f1 : 0 ≤ fuse) (f2 : fuse < 9223372036854775808) (o1 : 0 ≤ ops) (o2 : ops < 9223372036854775807)
    (hc : cs.length = 512) (h1 : ∀ v ∈ cs, v.oneCell' = true)
    (hnew : ∀ w1, Only b w w1 → DevAt w1 b (.slice a n c) pm fused (burnF fused fuse) (burnD fused fuse down) (burnO fused fuse ops) → Calls Try.prog 34 #[.pointer (some ⟨b, 0, none⟩), .int .i64 k] w1 fun e w' => e = .returned (.agg cs.toArray) ∧ Below w1.heap.size w1 w') :
    Calls Try.prog 22 #[.pointer (some ⟨b, 0, none⟩), .int .i64 k] w fun e w' => ∃ w1 g, e = .returned (.tuple #[.slice (some ⟨g, 0, none⟩) 512 512, .int .i64 0]) ∧ Only b w w1 ∧ DevAt w1 b (.slice a n c) pm fused (burnF fused fuse) (burnD fused fuse down) (burnO fused fuse ops) ∧ Below w1.heap.size w1 w' ∧ w1.heap.size ≤ g ∧ w'.heap[g]? = some (.cells cs.toArray 72 (0, 0)) := by
  have HD := hide h
  have HN := hide hnew
  clear h hnew
  have HS : Hid (cs.toArray.size = 512) := hide (by simpa using hc)
  go_enter Try.func22, Try.ntmps22
  go_wp2_with (first | (go_at_call 32; refine (open_dev k (unhide HD)).mono ?_; rintro e w' ⟨rfl, rfl⟩; rw [hE]) | fail)
  refine (burn_dev (unhide HD) f1 f2 o1 o2).mono ?_
  rintro e w1 ⟨rfl, d1, o1⟩
  rw [hB]
  have HN1 := hide (unhide HN w1 o1 d1)
  have H1 := hide (And.intro o1 d1)
  clear d1 o1
  go_wp2_with fail
  refine (unhide HN1).mono ?_
  rintro e w2 ⟨rfl, b2⟩
  have H0 := hide (heap_alloc_self w2 (.cells (noughts 512) 72))
  have HB := hide (b2.trans ((Below.refl w1.heap.size w2).alloc b2.size (.cells (noughts 512) 72)))
  have s2 := b2.size
  clear b2
  go_wp2_with (first | (refine wpList_alloc_block rfl rfl ?_) | (refine wpList_store_row rfl 72 (.tmp 8) (.tmp 22) rfl w2.heap.size cs.toArray rfl rfl 72 (noughts 512) (unhide H0) (by rw [unhide HS]; exact sizeBlock) (by rw [unhide HS, size_noughts]) (all_oneCell_toArray h1) ?_))
  go_ret2
  exact ⟨w1, w2.heap.size, rfl, (unhide H1).1, (unhide H1).2, (unhide HB).trans (below_setRowD _ _ _ _ s2), s2, setRow_heap _ _ _ _ _ _ (unhide H0)⟩
end
end Go.Proofs.Ytbgaomfoiooegaa
