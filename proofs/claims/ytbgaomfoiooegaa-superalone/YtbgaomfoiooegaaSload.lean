/-
  DERIVED. Load over a device in memory.
-/
import Derived.Test.YtbgaomfoiooegaaSstore
namespace Go.Proofs.Ytbgaomfoiooegaa
open Go.RowKit
set_option linter.unusedVariables false

set_option maxRecDepth 20000 in
set_option maxHeartbeats 2000000 in
theorem Load_stops {w : World} {b : Nat} {F : Nat → Prop} {N : Nat} {S : St} (h : Dev w b F N S) (hF : ∀ k, F k → k < w.heap.size) (k : Nat) (hk : k + 1 < S.safe.length) (hN : N < 800000) (hr : ¬ S.reads) :
    Calls Try.prog 12 #[.pointer (some ⟨b, 0, none⟩), .int .i64 k] w fun e w' => e = .returned (.tuple #[.slice none 0 0, .int .i64 0, .int .i64 2]) ∧ Dev w' b F (N + 2) S.halted ∧ Kept F w w' := by
  have hs : S.safe.length ≤ 512 := by obtain ⟨g, c, m, vf, D, h0⟩ := h; exact h0.n2
  have HD := hide h
  clear h
  go_enter Try.func12, Try.ntmps12
  go_wp2_with fail
  refine (check_ok (unhide HD) k hk none 0 0 (by omega)).mono ?_
  rintro e w1 ⟨rfl, b1⟩
  have HB1 := hide b1
  have z1 := b1.size
  have HD1 := hide ((unhide HD).grown b1)
  clear b1 HD
  have hF1 : ∀ j, F j → j < w1.heap.size := fun j hj => by have := hF j hj; omega
  go_wp2_with fail
  refine (read_stops (unhide HD1) k hk hr (by omega) hF1).mono ?_
  rintro e w2 ⟨rfl, d2, k2⟩
  have HD2 := hide d2
  have HK2 := hide k2
  clear d2 k2
  have HBW := hide ((Below.refl w2.heap.size w2).alloc (Nat.le_refl _) (.cells two0 62))
  go_wp2
  go_ret3
  exact ⟨rfl, (unhide HD2).grown (unhide HBW), ((Kept.of_below (unhide HB1)).trans (unhide HK2)).trans (Kept.of_below (unhide HBW))⟩

set_option maxRecDepth 20000 in
set_option maxHeartbeats 2000000 in
theorem Load_none {w : World} {b : Nat} {F : Nat → Prop} {N : Nat} {S : St} (h : Dev w b F N S) (hF : ∀ k, F k → k < w.heap.size) (k : Nat) (hk : k + 1 < S.safe.length) (hN : N < 800000) (hr : S.reads) (hla : (S.rcd k).laid = false) :
    Calls Try.prog 12 #[.pointer (some ⟨b, 0, none⟩), .int .i64 k] w fun e w' => e = .returned (.tuple #[.slice none 0 0, .int .i64 0, .int .i64 30]) ∧ Dev w' b F (N + 2) S.burn.burn ∧ Kept F w w' := by
  have hs : S.safe.length ≤ 512 := by obtain ⟨g, c, m, vf, D, h0⟩ := h; exact h0.n2
  have HD := hide h
  clear h
  go_enter Try.func12, Try.ntmps12
  go_wp2_with fail
  refine (check_ok (unhide HD) k hk none 0 0 (by omega)).mono ?_
  rintro e w1 ⟨rfl, b1⟩
  have HB1 := hide b1
  have z1 := b1.size
  have HD1 := hide ((unhide HD).grown b1)
  clear b1 HD
  have hF1 : ∀ j, F j → j < w1.heap.size := fun j hj => by have := hF j hj; omega
  go_wp2_with fail
  refine (read_well (unhide HD1) k hk hr (by omega) hF1).mono ?_
  rintro e w2 ⟨a1, n1, c1, a2, n2, c2, rfl, f1, f2, l1, l2, d2, k2⟩
  have hrc : S.rcd k = curS (unl k (S.newest k)) (unl k (S.newest (k + 1))) := rfl
  obtain ⟨s1, hs1⟩ : ∃ s, unl k (S.newest k) = s := ⟨_, rfl⟩
  obtain ⟨s2, hs2⟩ : ∃ s, unl k (S.newest (k + 1)) = s := ⟨_, rfl⟩
  rw [hs1] at l1
  rw [hs2] at l2
  rw [hs1, hs2] at hrc ⊢
  have HD2 := hide d2
  have HK2 := hide k2
  have z2 := k2.size
  have HL := hide (And.intro l1 l2)
  have HFr := hide (And.intro f1 f2)
  clear d2 k2 l1 l2 f1 f2 HD1 hs1 hs2
  obtain ⟨W2, hW2⟩ : ∃ W2, W2 = w2.alloc (.cells (twoC s1 s2 (.slice a1 n1 c1) (.slice a2 n2 c2)) 62) := ⟨_, rfl⟩
  have HBW : Hid (Below w2.heap.size w2 W2) := hide (by rw [hW2]; exact (Below.refl _ _).alloc (Nat.le_refl _) _)
  have HRW : Hid (W2.heap[w2.heap.size]? = some (.cells (twoC s1 s2 (.slice a1 n1 c1) (.slice a2 n2 c2)) 62 (0, 0))) := hide (by rw [hW2]; exact heap_alloc_self _ _)
  have zW : W2.heap.size = w2.heap.size + 1 := by rw [hW2]; simp
  rcases newR_or s1 s2 with h0 | h0
  · have hcu : S.rcd k = s1 := by rw [hrc]; unfold curS; rw [if_neg (by omega)]
    rw [hcu] at hla
    have HLA := hide hla
    have HCU := hide hcu
    clear hrc hla hcu
    go_wp2_with (first | (refine wpList_load_row rfl 62 (.tmp 9) rfl w2.heap.size rfl 62 (twoC s1 s2 (.slice a1 n1 c1) (.slice a2 n2 c2)) (0, 0) _ (by exact heap_alloc_self _ _) Try.underlying62 rfl sizeTwo ?_) | fail)
    rw [← hW2]
    clear hW2
    refine (newer_any s1 s2 _ _ _).mono ?_
    rintro e w3 ⟨rfl, b3⟩
    have z3 := b3.size
    have HR3 : Hid (w3.heap[w2.heap.size]? = some (.cells (twoC s1 s2 (.slice a1 n1 c1) (.slice a2 n2 c2)) 62 (0, 0))) := hide ((b3.block _ (by omega)).trans (unhide HRW))
    have HB3 := hide ((unhide HBW).trans (b3.mono (by omega)))
    clear b3
    have q0 : w3.cell? ⟨w2.heap.size, 0, none⟩ = some (.bool s1.laid) := by simp [World.cell?, unhide HR3]
    have q1 : w3.cell? ⟨w2.heap.size, 1, none⟩ = some (.int .u32 (s1.turn : Nat)) := by simp [World.cell?, unhide HR3]
    have q2 : w3.cell? ⟨w2.heap.size, 2, none⟩ = some (.int .i64 s1.count) := by simp [World.cell?, unhide HR3]
    have q3 : w3.cell? ⟨w2.heap.size, 3, none⟩ = some (.slice a1 n1 c1) := by simp [World.cell?, unhide HR3]
    rw [h0]
    rw [unhide HLA] at q0
    obtain ⟨W4, hW4⟩ : ∃ W4, W4 = w3.alloc (.cells #[.bool false, .int .u32 (s1.turn : Nat), .int .i64 s1.count, .slice a1 n1 c1] 61) := ⟨_, rfl⟩
    have HB4 : Hid (Below w2.heap.size w2 W4) := hide (by rw [hW4]; exact (unhide HB3).alloc (by omega) _)
    go_wp2
    (try rw [← hW4])
    go_ret3
    exact ⟨rfl, (unhide HD2).grown (unhide HB4), ((Kept.of_below (unhide HB1)).trans (unhide HK2)).trans (Kept.of_below (unhide HB4))⟩
  · have hcu : S.rcd k = s2 := by rw [hrc]; unfold curS; rw [if_pos h0]
    rw [hcu] at hla
    have HLA := hide hla
    have HCU := hide hcu
    clear hrc hla hcu
    go_wp2_with (first | (refine wpList_load_row rfl 62 (.tmp 9) rfl w2.heap.size rfl 62 (twoC s1 s2 (.slice a1 n1 c1) (.slice a2 n2 c2)) (0, 0) _ (by exact heap_alloc_self _ _) Try.underlying62 rfl sizeTwo ?_) | fail)
    rw [← hW2]
    clear hW2
    refine (newer_any s1 s2 _ _ _).mono ?_
    rintro e w3 ⟨rfl, b3⟩
    have z3 := b3.size
    have HR3 : Hid (w3.heap[w2.heap.size]? = some (.cells (twoC s1 s2 (.slice a1 n1 c1) (.slice a2 n2 c2)) 62 (0, 0))) := hide ((b3.block _ (by omega)).trans (unhide HRW))
    have HB3 := hide ((unhide HBW).trans (b3.mono (by omega)))
    clear b3
    have q0 : w3.cell? ⟨w2.heap.size, 4, none⟩ = some (.bool s2.laid) := by simp [World.cell?, unhide HR3]
    have q1 : w3.cell? ⟨w2.heap.size, 5, none⟩ = some (.int .u32 (s2.turn : Nat)) := by simp [World.cell?, unhide HR3]
    have q2 : w3.cell? ⟨w2.heap.size, 6, none⟩ = some (.int .i64 s2.count) := by simp [World.cell?, unhide HR3]
    have q3 : w3.cell? ⟨w2.heap.size, 7, none⟩ = some (.slice a2 n2 c2) := by simp [World.cell?, unhide HR3]
    rw [h0]
    rw [unhide HLA] at q0
    obtain ⟨W4, hW4⟩ : ∃ W4, W4 = w3.alloc (.cells #[.bool false, .int .u32 (s2.turn : Nat), .int .i64 s2.count, .slice a2 n2 c2] 61) := ⟨_, rfl⟩
    have HB4 : Hid (Below w2.heap.size w2 W4) := hide (by rw [hW4]; exact (unhide HB3).alloc (by omega) _)
    go_wp2
    (try rw [← hW4])
    go_ret3
    exact ⟨rfl, (unhide HD2).grown (unhide HB4), ((Kept.of_below (unhide HB1)).trans (unhide HK2)).trans (Kept.of_below (unhide HB4))⟩

set_option maxRecDepth 20000 in
set_option maxHeartbeats 2000000 in
theorem Load_laid {w : World} {b : Nat} {F : Nat → Prop} {N : Nat} {S : St} (h : Dev w b F N S) (hF : ∀ k, F k → k < w.heap.size) (k : Nat) (hk : k + 1 < S.safe.length) (hN : N < 800000) (hr : S.reads) (hla : (S.rcd k).laid = true) :
    Calls Try.prog 12 #[.pointer (some ⟨b, 0, none⟩), .int .i64 k] w fun e w' => ∃ a n c, e = .returned (.tuple #[.slice a n c, .int .i64 (S.rcd k).count, .int .i64 0]) ∧ Sl w' (.slice a n c) (S.rcd k).data ∧ (∀ ad, a = some ad → w.heap.size ≤ ad.block) ∧ Dev w' b F (N + 2) S.burn.burn ∧ Kept F w w' := by
  have hs : S.safe.length ≤ 512 := by obtain ⟨g, c, m, vf, D, h0⟩ := h; exact h0.n2
  have HD := hide h
  clear h
  go_enter Try.func12, Try.ntmps12
  go_wp2_with fail
  refine (check_ok (unhide HD) k hk none 0 0 (by omega)).mono ?_
  rintro e w1 ⟨rfl, b1⟩
  have HB1 := hide b1
  have z1 := b1.size
  have HD1 := hide ((unhide HD).grown b1)
  clear b1 HD
  have hF1 : ∀ j, F j → j < w1.heap.size := fun j hj => by have := hF j hj; omega
  go_wp2_with fail
  refine (read_well (unhide HD1) k hk hr (by omega) hF1).mono ?_
  rintro e w2 ⟨a1, n1, c1, a2, n2, c2, rfl, f1, f2, l1, l2, d2, k2⟩
  have hrc : S.rcd k = curS (unl k (S.newest k)) (unl k (S.newest (k + 1))) := rfl
  obtain ⟨s1, hs1⟩ : ∃ s, unl k (S.newest k) = s := ⟨_, rfl⟩
  obtain ⟨s2, hs2⟩ : ∃ s, unl k (S.newest (k + 1)) = s := ⟨_, rfl⟩
  rw [hs1] at l1
  rw [hs2] at l2
  rw [hs1, hs2] at hrc ⊢
  have HD2 := hide d2
  have HK2 := hide k2
  have z2 := k2.size
  have HL := hide (And.intro l1 l2)
  have HFr := hide (And.intro f1 f2)
  clear d2 k2 l1 l2 f1 f2 HD1 hs1 hs2
  obtain ⟨W2, hW2⟩ : ∃ W2, W2 = w2.alloc (.cells (twoC s1 s2 (.slice a1 n1 c1) (.slice a2 n2 c2)) 62) := ⟨_, rfl⟩
  have HBW : Hid (Below w2.heap.size w2 W2) := hide (by rw [hW2]; exact (Below.refl _ _).alloc (Nat.le_refl _) _)
  have HRW : Hid (W2.heap[w2.heap.size]? = some (.cells (twoC s1 s2 (.slice a1 n1 c1) (.slice a2 n2 c2)) 62 (0, 0))) := hide (by rw [hW2]; exact heap_alloc_self _ _)
  have zW : W2.heap.size = w2.heap.size + 1 := by rw [hW2]; simp
  rcases newR_or s1 s2 with h0 | h0
  · have hcu : S.rcd k = s1 := by rw [hrc]; unfold curS; rw [if_neg (by omega)]
    rw [hcu] at hla
    have HLA := hide hla
    have HCU := hide hcu
    clear hrc hla hcu
    go_wp2_with (first | (refine wpList_load_row rfl 62 (.tmp 9) rfl w2.heap.size rfl 62 (twoC s1 s2 (.slice a1 n1 c1) (.slice a2 n2 c2)) (0, 0) _ (by exact heap_alloc_self _ _) Try.underlying62 rfl sizeTwo ?_) | fail)
    rw [← hW2]
    clear hW2
    refine (newer_any s1 s2 _ _ _).mono ?_
    rintro e w3 ⟨rfl, b3⟩
    have z3 := b3.size
    have HR3 : Hid (w3.heap[w2.heap.size]? = some (.cells (twoC s1 s2 (.slice a1 n1 c1) (.slice a2 n2 c2)) 62 (0, 0))) := hide ((b3.block _ (by omega)).trans (unhide HRW))
    have HB3 := hide ((unhide HBW).trans (b3.mono (by omega)))
    clear b3
    have q0 : w3.cell? ⟨w2.heap.size, 0, none⟩ = some (.bool s1.laid) := by simp [World.cell?, unhide HR3]
    have q1 : w3.cell? ⟨w2.heap.size, 1, none⟩ = some (.int .u32 (s1.turn : Nat)) := by simp [World.cell?, unhide HR3]
    have q2 : w3.cell? ⟨w2.heap.size, 2, none⟩ = some (.int .i64 s1.count) := by simp [World.cell?, unhide HR3]
    have q3 : w3.cell? ⟨w2.heap.size, 3, none⟩ = some (.slice a1 n1 c1) := by simp [World.cell?, unhide HR3]
    rw [h0]
    rw [unhide HLA] at q0
    obtain ⟨W4, hW4⟩ : ∃ W4, W4 = w3.alloc (.cells #[.bool true, .int .u32 (s1.turn : Nat), .int .i64 s1.count, .slice a1 n1 c1] 61) := ⟨_, rfl⟩
    have HB4 : Hid (Below w2.heap.size w2 W4) := hide (by rw [hW4]; exact (unhide HB3).alloc (by omega) _)
    have r2 : W4.cell? ⟨w3.heap.size, 2, none⟩ = some (.int .i64 s1.count) := by rw [hW4]; simp
    have r3 : W4.cell? ⟨w3.heap.size, 3, none⟩ = some (.slice a1 n1 c1) := by rw [hW4]; simp
    go_wp2
    rw [← hW4]
    clear hW4
    go_quiet (fail)
    go_wp2
    go_ret3
    refine ⟨a1, n1, c1, by rw [unhide HCU]; rfl, ?_, fun ad h => by have := (unhide HFr).1 ad h; omega, (unhide HD2).grown (below_drewN (unhide HB4) _), ((Kept.of_below (unhide HB1)).trans (unhide HK2)).trans (Kept.of_below (below_drewN (unhide HB4) _))⟩
    rw [unhide HCU]
    exact (unhide HL).1.below (below_drewN (unhide HB4) _) (Nat.le_refl _)
  · have hcu : S.rcd k = s2 := by rw [hrc]; unfold curS; rw [if_pos h0]
    rw [hcu] at hla
    have HLA := hide hla
    have HCU := hide hcu
    clear hrc hla hcu
    go_wp2_with (first | (refine wpList_load_row rfl 62 (.tmp 9) rfl w2.heap.size rfl 62 (twoC s1 s2 (.slice a1 n1 c1) (.slice a2 n2 c2)) (0, 0) _ (by exact heap_alloc_self _ _) Try.underlying62 rfl sizeTwo ?_) | fail)
    rw [← hW2]
    clear hW2
    refine (newer_any s1 s2 _ _ _).mono ?_
    rintro e w3 ⟨rfl, b3⟩
    have z3 := b3.size
    have HR3 : Hid (w3.heap[w2.heap.size]? = some (.cells (twoC s1 s2 (.slice a1 n1 c1) (.slice a2 n2 c2)) 62 (0, 0))) := hide ((b3.block _ (by omega)).trans (unhide HRW))
    have HB3 := hide ((unhide HBW).trans (b3.mono (by omega)))
    clear b3
    have q0 : w3.cell? ⟨w2.heap.size, 4, none⟩ = some (.bool s2.laid) := by simp [World.cell?, unhide HR3]
    have q1 : w3.cell? ⟨w2.heap.size, 5, none⟩ = some (.int .u32 (s2.turn : Nat)) := by simp [World.cell?, unhide HR3]
    have q2 : w3.cell? ⟨w2.heap.size, 6, none⟩ = some (.int .i64 s2.count) := by simp [World.cell?, unhide HR3]
    have q3 : w3.cell? ⟨w2.heap.size, 7, none⟩ = some (.slice a2 n2 c2) := by simp [World.cell?, unhide HR3]
    rw [h0]
    rw [unhide HLA] at q0
    obtain ⟨W4, hW4⟩ : ∃ W4, W4 = w3.alloc (.cells #[.bool true, .int .u32 (s2.turn : Nat), .int .i64 s2.count, .slice a2 n2 c2] 61) := ⟨_, rfl⟩
    have HB4 : Hid (Below w2.heap.size w2 W4) := hide (by rw [hW4]; exact (unhide HB3).alloc (by omega) _)
    have r2 : W4.cell? ⟨w3.heap.size, 2, none⟩ = some (.int .i64 s2.count) := by rw [hW4]; simp
    have r3 : W4.cell? ⟨w3.heap.size, 3, none⟩ = some (.slice a2 n2 c2) := by rw [hW4]; simp
    go_wp2
    rw [← hW4]
    clear hW4
    go_quiet (fail)
    go_wp2
    go_ret3
    refine ⟨a2, n2, c2, by rw [unhide HCU]; rfl, ?_, fun ad h => by have := (unhide HFr).2 ad h; omega, (unhide HD2).grown (below_drewN (unhide HB4) _), ((Kept.of_below (unhide HB1)).trans (unhide HK2)).trans (Kept.of_below (below_drewN (unhide HB4) _))⟩
    rw [unhide HCU]
    exact (unhide HL).2.below (below_drewN (unhide HB4) _) (Nat.le_refl _)
end Go.Proofs.Ytbgaomfoiooegaa
