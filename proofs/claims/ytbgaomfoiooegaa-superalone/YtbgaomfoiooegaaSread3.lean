/-
  DERIVED. The walk of read: where the device stops at the second block.
-/
import Derived.Test.YtbgaomfoiooegaaSread2
namespace Go.Proofs.Ytbgaomfoiooegaa
open Go.RowKit
set_option linter.unusedVariables false

set_option maxHeartbeats 4000000 in
theorem read_half {w : World} {b : Nat} {F : Nat → Prop} {N : Nat} {S : St} (h : Dev w b F N S) (k : Nat) (hk : k + 1 < S.safe.length) (hs : S.safe.length ≤ 512) (hd : S.down = false) (hB : burnE S.fused S.fuse = 0) (hd2 : S.burn.down = false) (hB2 : burnE S.burn.fused S.burn.fuse ≠ 0) (hN : N < 900000) (hF : ∀ k, F k → k < w.heap.size)
    (hL : (S.newest k).length = 512) (hsb : S.burn.safe = S.safe) :
    Calls Try.prog 24 #[.pointer (some ⟨b, 0, none⟩), .int .i64 k] w fun e w' => e = .returned (.tuple #[.agg two0, .int .i64 2]) ∧ Dev w' b F (N + 1 + 1) S.burn.burn ∧ Kept F w w' := by
  have HD := hide h
  clear h
  obtain ⟨s1, hs1⟩ : ∃ s, unl k (S.newest k) = s := ⟨_, rfl⟩
  obtain ⟨W, hW⟩ : ∃ W, W = (w.alloc (.cells two0 62)).alloc (.cells two0 62) := ⟨_, rfl⟩
  have HW : Hid (Below w.heap.size w W) := hide (by rw [hW]; exact ((Below.refl _ _).alloc (Nat.le_refl _) _).alloc (by simp) _)
  have HZ : Hid (W.heap[w.heap.size]? = some (.cells two0 62 (0, 0))) := hide (by rw [hW, Below.heap_alloc _ _ _ (by simp)]; exact heap_alloc_self _ _)
  have HY : Hid (W.heap[w.heap.size + 1]? = some (.cells two0 62 (0, 0))) := hide (by rw [hW]; have := heap_alloc_self (w.alloc (.cells two0 62)) (.cells two0 62); simpa using this)
  have sW : W.heap.size = w.heap.size + 2 := by rw [hW]; simp
  go_enter Try.func24, Try.ntmps24
  go_wp2_with fail
  rw [← hW]
  clear hW
  refine wp_loop_rounds 2 ?_
  rw [rounds_succ]
  go_wp2_with fail
  refine (Read_dev ((unhide HD).grown (unhide HW)) k (by omega) hd hB (by omega)).mono ?_
  rintro e w1 ⟨q, rfl, hq, hq1, d1, k1⟩
  have z1 : w1.heap.size ≥ W.heap.size := k1.size
  have lq := lt_of_block hq1
  have HZ1 : Hid (w1.heap[w.heap.size]? = some (.cells two0 62 (0, 0))) := hide ((k1.block _ (by omega) (fun h => by have := hF _ h; omega)).trans (unhide HZ))
  have HY1 : Hid (w1.heap[w.heap.size + 1]? = some (.cells two0 62 (0, 0))) := hide ((k1.block _ (by omega) (fun h => by have := hF _ h; omega)).trans (unhide HY))
  have H1 := hide (And.intro d1 k1)
  have HS1 := hide (Sl.ofRow hL hq1)
  clear d1 k1 hq1 HZ HY
  go_wp2_with fail
  refine (unlay_any _ (S.newest k) k w1 (unhide HS1) (by omega) (by omega)).mono ?_
  rintro e w2 ⟨a1, n1, c1, rfl, fr1, sl1, b2⟩
  rw [hs1] at sl1 ⊢
  have z2 := b2.size
  have HZ2 : Hid (w2.heap[w.heap.size]? = some (.cells two0 62 (0, 0))) := hide ((b2.block _ (by omega)).trans (unhide HZ1))
  have HY2 : Hid (w2.heap[w.heap.size + 1]? = some (.cells two0 62 (0, 0))) := hide ((b2.block _ (by omega)).trans (unhide HY1))
  have H2 := hide (And.intro fr1 (And.intro sl1 b2))
  clear fr1 sl1 b2 HZ1 HY1 HS1
  have HT2 := hide (there_row (unhide HY2) 0 4 (by decide))
  go_wp2_with (first | (refine wpList_store_mid rfl 61 (.tmp 29) (.tmp 28) rfl (w.heap.size + 1) 0 (slotC s1 (.slice a1 n1 c1)) rfl rfl (unhide HT2) sizeSlot (one_slotL _ _ _ _) ?_) | fail)
  obtain ⟨w3, hw3⟩ : ∃ w3, w3 = w2.setCells (w.heap.size + 1) 0 (slotC s1 (.slice a1 n1 c1)).toList := ⟨_, rfl⟩
  rw [← hw3]
  have K3 : Kept (fun j => j = w.heap.size + 1) w2 w3 := by rw [hw3]; exact kept_cells _ _ _ _
  have HY3 : Hid (w3.heap[w.heap.size + 1]? = some (.cells (twoC s1 noSlot (.slice a1 n1 c1) (.slice none 0 0)) 62 (0, 0))) := hide (by rw [hw3]; exact heap_setCells_row _ _ _ 0 _ _ (unhide HY2) (by show 0 + 4 ≤ 8; omega))
  have HZ3 : Hid (w3.heap[w.heap.size]? = some (.cells two0 62 (0, 0))) := hide ((K3.block _ (by omega) (by omega)).trans (unhide HZ2))
  have HL3 : Hid (Sl w3 (.slice a1 n1 c1) s1.data) := hide ((unhide H2).2.1.kept K3 (fun ad h => by have := (unhide H2).1 ad h; omega))
  have HD3 : Hid (Dev w3 b F (N + 1) S.burn) := hide (((unhide H1).1.grown (unhide H2).2.2).frame fun j hj hl => K3.block j hl (by have := hF _ hj; omega))
  have HK3 : Hid (Kept F w w3) := hide (by
    refine ⟨K3.os.trans ((unhide H2).2.2.os.trans ((unhide H1).2.os.trans (unhide HW).os)), K3.tape.trans ((unhide H2).2.2.tape.trans ((unhide H1).2.tape.trans (unhide HW).tape)), K3.output.trans ((unhide H2).2.2.output.trans ((unhide H1).2.output.trans (unhide HW).output)), ?_, fun j hj hn => ?_⟩
    · have := K3.size; omega
    · rw [K3.block j (by omega) (by omega), (unhide H2).2.2.block j (by omega), (unhide H1).2.block j (by omega) hn, (unhide HW).block j hj])
  have z3 := K3.size
  have HR1 : Hid (∀ ad, a1 = some ad → w.heap.size + 2 ≤ ad.block) := hide (fun ad h => by have := (unhide H2).1 ad h; omega)
  clear hw3 K3 HY2 HZ2 H2 H1 HW HT2
  rw [rounds_succ]
  go_wp2_with fail
  have RD := Read_dev_burnt (unhide HD3) (k + 1) (by rw [hsb]; omega) hd2 hB2 (by omega)
  rw [show ((k + 1 : Nat) : Int) = (k : Int) + 1 by omega] at RD
  refine RD.mono ?_
  clear RD
  rintro e w4 ⟨rfl, d4, k4⟩
  have z4 := k4.size
  have HZ4 : Hid (w4.heap[w.heap.size]? = some (.cells two0 62 (0, 0))) := hide ((k4.block _ (by omega) (fun h => by have := hF _ h; omega)).trans (unhide HZ3))
  have HK4 := hide ((unhide HK3).trans k4)
  have HD4 := hide d4
  clear d4 k4 HZ3 HY3 HL3 HK3 HD3
  go_wp2_with (refine wpList_store_row rfl 62 (.tmp 4) (.tmp 23) rfl w.heap.size two0 rfl rfl 62 two0 (unhide HZ4) sizeTwo rfl one_two0 ?_)
  (try simp only [Exit.inBlock, Exit.then])
  have KR : Kept (fun j => j = w.heap.size) w4 (w4.setRow w.heap.size two0) := ⟨rfl, rfl, rfl, by simp [World.setRow], fun j _ hn => setRow_other _ _ _ _ hn⟩
  refine bodyPost_ret (v := .tuple #[.agg two0, .int .i64 2]) (results_row_tmp rfl _ _ w.heap.size two0 _ rfl rfl (run_loadVar_row _ w.heap.size 62 62 two0 (0, 0) _ (setRow_heap _ _ _ _ _ _ (unhide HZ4)) Try.underlying62 rfl sizeTwo)) rfl ⟨rfl, ?_, ?_⟩
  · exact (unhide HD4).frame fun j hj hl => KR.block j hl (by have := hF _ hj; omega)
  · have K4 := unhide HK4
    refine ⟨KR.os.trans K4.os, KR.tape.trans K4.tape, KR.output.trans K4.output, ?_, fun j hj hn => ?_⟩
    · have := KR.size; omega
    · rw [KR.block j (by omega) (by omega), K4.block j hj hn]
end Go.Proofs.Ytbgaomfoiooegaa
