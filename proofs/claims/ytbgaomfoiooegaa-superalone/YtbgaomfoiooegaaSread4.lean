/-
  DERIVED. The walk of read on a device that is down; and read whole, in two parts: it goes well, or the device is down behind it.
-/
import Derived.Test.YtbgaomfoiooegaaSread3
import Derived.Test.YtbgaomfoiooegaaSrec
namespace Go.Proofs.Ytbgaomfoiooegaa
open Go.RowKit
set_option linter.unusedVariables false

set_option maxHeartbeats 2000000 in
theorem read_down {w : World} {b : Nat} {F : Nat → Prop} {N : Nat} {S : St} (h : Dev w b F N S) (k : Nat) (hk : k + 1 < S.safe.length) (hs : S.safe.length ≤ 512) (hd : S.down = true) (hF : ∀ k, F k → k < w.heap.size) :
    Calls Try.prog 24 #[.pointer (some ⟨b, 0, none⟩), .int .i64 k] w fun e w' => e = .returned (.tuple #[.agg two0, .int .i64 2]) ∧ Dev w' b F N S ∧ Kept F w w' := by
  have HD := hide h
  clear h
  have hE : openE S.safe.length S.down k = 2 := by unfold openE; rw [hd]; rfl
  obtain ⟨W, hW⟩ : ∃ W, W = (w.alloc (.cells two0 62)).alloc (.cells two0 62) := ⟨_, rfl⟩
  have HW : Hid (Below w.heap.size w W) := hide (by rw [hW]; exact ((Below.refl _ _).alloc (Nat.le_refl _) _).alloc (by simp) _)
  have HZ : Hid (W.heap[w.heap.size]? = some (.cells two0 62 (0, 0))) := hide (by rw [hW, Below.heap_alloc _ _ _ (by simp)]; exact heap_alloc_self _ _)
  have sW : W.heap.size = w.heap.size + 2 := by rw [hW]; simp
  go_enter Try.func24, Try.ntmps24
  go_wp2_with fail
  rw [← hW]
  clear hW
  refine wp_loop_rounds 1 ?_
  rw [rounds_succ]
  go_wp2_with fail
  refine (Read_dev_shut ((unhide HD).grown (unhide HW)) k (by rw [hE]; decide)).mono ?_
  rintro e w1 ⟨rfl, rfl⟩
  rw [hE]
  go_wp2_with (refine wpList_store_row rfl 62 (.tmp 4) (.tmp 23) rfl w.heap.size two0 rfl rfl 62 two0 (unhide HZ) sizeTwo rfl one_two0 ?_)
  (try simp only [Exit.inBlock, Exit.then])
  refine bodyPost_ret (v := .tuple #[.agg two0, .int .i64 2]) (results_row_tmp rfl _ _ w.heap.size two0 _ rfl rfl (run_loadVar_row _ w.heap.size 62 62 two0 (0, 0) _ (setRow_heap _ _ _ _ _ _ (unhide HZ)) Try.underlying62 rfl sizeTwo)) rfl ⟨rfl, ?_, ?_⟩
  · exact ((unhide HD).grown (unhide HW)).frame fun j hj _ => setRow_other _ _ _ _ (by have := hF _ hj; omega)
  · have hB1 := unhide HW
    refine ⟨hB1.os, hB1.tape, hB1.output, ?_, fun j hj hn => ?_⟩
    · simp [World.setRow]
      omega
    · rw [setRow_other _ _ _ _ (by omega), hB1.block j hj]

theorem read_stops {w : World} {b : Nat} {F : Nat → Prop} {N : Nat} {S : St} (h : Dev w b F N S) (k : Nat) (hk : k + 1 < S.safe.length) (hr : ¬ S.reads) (hN : N < 900000) (hF : ∀ k, F k → k < w.heap.size) :
    Calls Try.prog 24 #[.pointer (some ⟨b, 0, none⟩), .int .i64 k] w fun e w' => e = .returned (.tuple #[.agg two0, .int .i64 2]) ∧ Dev w' b F (N + 2) S.halted ∧ Kept F w w' := by
  obtain ⟨g, c, m, vf, D, h0⟩ := h
  have h : Dev w b F N S := ⟨g, c, m, vf, D, h0⟩
  have hL := St.newest_len h0 k (by omega)
  have hs := h0.n2
  clear h0
  unfold St.halted
  by_cases h1 : S.down = true
  · rw [if_pos h1]
    exact (read_down h k hk hs h1 hF).mono fun e w' ⟨q1, q2, q3⟩ => ⟨q1, q2.mono (fun _ h => h) (by omega), q3⟩
  rw [if_neg h1]
  have h1' : S.down = false := by simpa using h1
  by_cases h2 : S.well
  · rw [if_pos h2]
    have h3 : ¬ S.burn.well := fun h3 => hr ⟨h1', h2, h3⟩
    exact (read_half h k hk hs h1' h2 (by rw [St.well_up h2, h1']) h3 hN hF hL rfl).mono fun e w' ⟨q1, q2, q3⟩ => ⟨q1, q2, q3⟩
  · rw [if_neg h2]
    exact (read_shut h k hk hs h1' h2 (by omega) hF).mono fun e w' ⟨q1, q2, q3⟩ => ⟨q1, q2.mono (fun _ h => h) (by omega), q3⟩

theorem read_well {w : World} {b : Nat} {F : Nat → Prop} {N : Nat} {S : St} (h : Dev w b F N S) (k : Nat) (hk : k + 1 < S.safe.length) (hr : S.reads) (hN : N < 900000) (hF : ∀ k, F k → k < w.heap.size) :
    Calls Try.prog 24 #[.pointer (some ⟨b, 0, none⟩), .int .i64 k] w fun e w' => ∃ a1 n1 c1 a2 n2 c2, e = .returned (.tuple #[.agg (twoC (unl k (S.newest k)) (unl k (S.newest (k + 1))) (.slice a1 n1 c1) (.slice a2 n2 c2)), .int .i64 0]) ∧
      (∀ ad, a1 = some ad → w.heap.size ≤ ad.block) ∧ (∀ ad, a2 = some ad → w.heap.size ≤ ad.block) ∧ Sl w' (.slice a1 n1 c1) (unl k (S.newest k)).data ∧ Sl w' (.slice a2 n2 c2) (unl k (S.newest (k + 1))).data ∧ Dev w' b F (N + 2) S.burn.burn ∧ Kept F w w' := by
  obtain ⟨g, c, m, vf, D, h0⟩ := h
  exact read_ok ⟨g, c, m, vf, D, h0⟩ k hk h0.n2 hr.1 hr.2.1 (by rw [St.well_up hr.2.1]; exact hr.1) hr.2.2 hN hF (St.newest_len h0 k (by omega)) (St.newest_len h0 (k + 1) hk) rfl
end Go.Proofs.Ytbgaomfoiooegaa
