/-
  DERIVED. Store over a device in memory.
-/
import Derived.Test.YtbgaomfoiooegaaSops
namespace Go.Proofs.Ytbgaomfoiooegaa
open Go.RowKit
set_option linter.unusedVariables false

set_option maxRecDepth 20000 in
set_option maxHeartbeats 2000000 in
theorem Store_dev {w : World} {b base : Nat} {F : Nat → Prop} {N : Nat} {S : St} (h : Dev w b F N S) (hF : ∀ k, F k → base ≤ k ∧ k < w.heap.size) (hbs : base ≤ w.heap.size) (k : Nat) (hk : k + 1 < S.safe.length) (hN : N < 800000)
    (a : Option Addr) (n c : Nat) (d : List UInt8) (hv : Sl w (.slice a n c) d) (hva : c ≠ 0 → ∀ ad, a = some ad → ¬ F ad.block) (hl : d.length ≤ 400) (hn : n = d.length) (hct : (S.rcd k).count < 9223372036854775807) :
    Calls Try.prog 17 #[.pointer (some ⟨b, 0, none⟩), .int .i64 k, .slice a n c] w fun e w' => e = .returned (.int .i64 (S.store k d).1) ∧
      (∃ F', (∀ j, F' j → base ≤ j ∧ j < w'.heap.size) ∧ (∀ j, F' j → F j ∨ w.heap.size ≤ j) ∧ Dev w' b F' (N + 6) (S.store k d).2) ∧ Kept F w w' := by
  have hs : S.safe.length ≤ 512 := by obtain ⟨g, c, m, vf, D, h0⟩ := h; exact h0.n2
  subst hn
  have HD := hide h
  have HV := hide hv
  clear h hv
  go_enter Try.func17, Try.ntmps17
  go_wp2_with fail
  refine (check_ok (unhide HD) k hk a _ c (by omega)).mono ?_
  rintro e w1 ⟨rfl, b1⟩
  have HB1 := hide b1
  have z1 := b1.size
  have HD1 := hide ((unhide HD).grown b1)
  have HV1 := hide ((unhide HV).below b1 (Nat.le_refl _))
  clear b1 HD HV
  have hF1 : ∀ j, F j → j < w1.heap.size := fun j hj => by have := hF j hj; omega
  by_cases hr : S.reads
  · go_wp2_with fail
    refine (read_well (unhide HD1) k hk hr (by omega) hF1).mono ?_
    rintro e w2 ⟨a1, n1, c1, a2, n2, c2, rfl, f1, f2, l1, l2, d2, k2⟩
    have hrc : S.rcd k = curS (unl k (S.newest k)) (unl k (S.newest (k + 1))) := rfl
    obtain ⟨s1, hs1⟩ : ∃ s, unl k (S.newest k) = s := ⟨_, rfl⟩
    obtain ⟨s2, hs2⟩ : ∃ s, unl k (S.newest (k + 1)) = s := ⟨_, rfl⟩
    rw [hs1, hs2] at hrc ⊢
    have HE : Hid (S.store k d = if (S.rcd k).laid = true then S.burn.burn.putF (k + 1 - newR s1 s2) (slotL ⟨false, ((curS s1 s2).turn + 1) % 4294967296, (S.rcd k).count + 1, d⟩ k) else (30, S.burn.burn)) := hide (by unfold St.store; rw [if_pos hr, ← hs1, ← hs2]; rfl)
    have t1 : s1.turn < 4294967296 := by rw [← hs1]; exact (unl_is _ _).1
    have t2 : s2.turn < 4294967296 := by rw [← hs2]; exact (unl_is _ _).1
    have HD2 := hide d2
    have HK2 := hide k2
    have z2 := k2.size
    have HV2 := hide ((unhide HV1).kept' k2 hva)
    clear d2 k2 l1 l2 f1 f2 HD1 HV1 hs1 hs2
    obtain ⟨W2, hW2⟩ : ∃ W2, W2 = w2.alloc (.cells (twoC s1 s2 (.slice a1 n1 c1) (.slice a2 n2 c2)) 62) := ⟨_, rfl⟩
    have HBW : Hid (Below w2.heap.size w2 W2) := hide (by rw [hW2]; exact (Below.refl _ _).alloc (Nat.le_refl _) _)
    have HRW : Hid (W2.heap[w2.heap.size]? = some (.cells (twoC s1 s2 (.slice a1 n1 c1) (.slice a2 n2 c2)) 62 (0, 0))) := hide (by rw [hW2]; exact heap_alloc_self _ _)
    have zW : W2.heap.size = w2.heap.size + 1 := by rw [hW2]; simp
    rcases newR_or s1 s2 with h0 | h0
    · have hcu : S.rcd k = s1 := by rw [hrc]; unfold curS; rw [if_neg (by omega)]
      clear hrc
      go_wp2_with (first | (refine wpList_load_row rfl 62 (.tmp 8) rfl w2.heap.size rfl 62 (twoC s1 s2 (.slice a1 n1 c1) (.slice a2 n2 c2)) (0, 0) _ (by exact heap_alloc_self _ _) Try.underlying62 rfl sizeTwo ?_) | fail)
      rw [← hW2]
      clear hW2
      refine (newer_any s1 s2 _ _ _).mono ?_
      rintro e w3 ⟨rfl, b3⟩
      have z3 := b3.size
      have HR3 : Hid (w3.heap[w2.heap.size]? = some (.cells (twoC s1 s2 (.slice a1 n1 c1) (.slice a2 n2 c2)) 62 (0, 0))) := hide ((b3.block _ (by omega)).trans (unhide HRW))
      have HB3 := hide ((unhide HBW).trans (b3.mono (by omega)))
      clear b3
      have q0 : w3.cell? ⟨w2.heap.size, 0, none⟩ = some (.bool s1.laid) := by simp [World.cell?, unhide HR3]
      have q1 : w3.cell? ⟨w2.heap.size, 1, none⟩ = some (.int .u32 (s1.turn : Nat)) := by simp [World.cell?, unhide HR3]
      have q2 : w3.cell? ⟨w2.heap.size, 2, none⟩ = some (.int .i64 s1.count) := by simp [World.cell?, unhide HR3]
      have q3 : w3.cell? ⟨w2.heap.size, 3, none⟩ = some (.slice a1 n1 c1) := by simp [World.cell?, unhide HR3]
      rw [h0]
      have hcc : s1.count < 9223372036854775807 := by rw [← hcu]; exact hct
      have hc0 : 0 ≤ s1.count := by rw [← hcu]; exact (S.rcd_is k).2.1
      by_cases hla : s1.laid = true
      · rw [hla] at q0
        obtain ⟨W4, hW4⟩ : ∃ W4, W4 = w3.alloc (.cells #[.bool true, .int .u32 (s1.turn : Nat), .int .i64 s1.count, .slice a1 n1 c1] 61) := ⟨_, rfl⟩
        have HB4 : Hid (Below w2.heap.size w2 W4) := hide (by rw [hW4]; exact (unhide HB3).alloc (by omega) _)
        have z4 : W4.heap.size = w3.heap.size + 1 := by rw [hW4]; simp
        have HR4 : Hid (W4.heap[w2.heap.size]? = some (.cells (twoC s1 s2 (.slice a1 n1 c1) (.slice a2 n2 c2)) 62 (0, 0))) := hide (by rw [hW4, Below.heap_alloc _ _ _ (by omega)]; exact unhide HR3)
        have hE : S.store k d = S.burn.burn.putF (k + 1 - newR s1 s2) (slotL ⟨false, ((curS s1 s2).turn + 1) % 4294967296, s1.count + 1, d⟩ k) := by rw [unhide HE, if_pos (by rw [hcu, hla]), hcu]
        have HE2 := hide hE
        clear hE hcu HE hla
        go_wp2_with (first | (refine wpList_load_row rfl 62 (.tmp 8) rfl w2.heap.size rfl 62 (twoC s1 s2 (.slice a1 n1 c1) (.slice a2 n2 c2)) (0, 0) _ (by first | exact unhide HR3 | (rw [← hW4]; exact unhide HR4)) Try.underlying62 rfl sizeTwo ?_) | fail)
        rw [← hW4]
        clear hW4
        refine (write_any (base := base) ((unhide HD2).grown (unhide HB4)) (fun j hj => by have := hF j hj; omega) (by omega) k hk (by show S.burn.burn.down = false; rw [St.well_up hr.2.2, St.well_up hr.2.1]; exact hr.1) (by omega) s1 s2 a1 a2 n1 c1 n2 c2 t1 t2 (s1.count + 1) (by omega) (by omega) a _ c d ((unhide HV2).below (unhide HB4) (Nat.le_refl _)) hl).mono ?_
        rintro e w5 ⟨rfl, ⟨F', g1, g2, g3⟩, k3⟩
        have z5 := k3.size
        have H3 := hide (And.intro g3 k3)
        clear g3 k3
        rw [← unhide HE2] at H3 ⊢
        go_wp2
        go_ret
        refine ⟨rfl, ⟨F', fun j hj => g1 j hj, fun j hj => ?_, (unhide H3).1⟩, ?_⟩
        · rcases g2 j hj with h | h
          · exact .inl h
          · exact .inr (by omega)
        · exact (((Kept.of_below (unhide HB1)).trans (unhide HK2)).trans (Kept.of_below (unhide HB4))).trans (unhide H3).2
      · have hla : s1.laid = false := by simpa using hla
        rw [hla] at q0
        obtain ⟨W4, hW4⟩ : ∃ W4, W4 = w3.alloc (.cells #[.bool false, .int .u32 (s1.turn : Nat), .int .i64 s1.count, .slice a1 n1 c1] 61) := ⟨_, rfl⟩
        have HB4 : Hid (Below w2.heap.size w2 W4) := hide (by rw [hW4]; exact (unhide HB3).alloc (by omega) _)
        have z4 : W4.heap.size = w3.heap.size + 1 := by rw [hW4]; simp
        have HR4 : Hid (W4.heap[w2.heap.size]? = some (.cells (twoC s1 s2 (.slice a1 n1 c1) (.slice a2 n2 c2)) 62 (0, 0))) := hide (by rw [hW4, Below.heap_alloc _ _ _ (by omega)]; exact unhide HR3)
        have hE : S.store k d = (30, S.burn.burn) := by rw [unhide HE, if_neg (by rw [hcu, hla]; decide)]
        have HE2 := hide hE
        clear hE hcu hla HE
        go_wp2
        (try rw [← hW4])
        go_ret
        rw [unhide HE2]
        refine ⟨rfl, ⟨F, fun j hj => ?_, fun j hj => .inl hj, ((unhide HD2).grown (unhide HB4)).mono (fun _ h => h) (by omega)⟩, ((Kept.of_below (unhide HB1)).trans (unhide HK2)).trans (Kept.of_below (unhide HB4))⟩
        have := hF j hj
        omega
    · have hcu : S.rcd k = s2 := by rw [hrc]; unfold curS; rw [if_pos h0]
      clear hrc
      go_wp2_with (first | (refine wpList_load_row rfl 62 (.tmp 8) rfl w2.heap.size rfl 62 (twoC s1 s2 (.slice a1 n1 c1) (.slice a2 n2 c2)) (0, 0) _ (by exact heap_alloc_self _ _) Try.underlying62 rfl sizeTwo ?_) | fail)
      rw [← hW2]
      clear hW2
      refine (newer_any s1 s2 _ _ _).mono ?_
      rintro e w3 ⟨rfl, b3⟩
      have z3 := b3.size
      have HR3 : Hid (w3.heap[w2.heap.size]? = some (.cells (twoC s1 s2 (.slice a1 n1 c1) (.slice a2 n2 c2)) 62 (0, 0))) := hide ((b3.block _ (by omega)).trans (unhide HRW))
      have HB3 := hide ((unhide HBW).trans (b3.mono (by omega)))
      clear b3
      have q0 : w3.cell? ⟨w2.heap.size, 4, none⟩ = some (.bool s2.laid) := by simp [World.cell?, unhide HR3]
      have q1 : w3.cell? ⟨w2.heap.size, 5, none⟩ = some (.int .u32 (s2.turn : Nat)) := by simp [World.cell?, unhide HR3]
      have q2 : w3.cell? ⟨w2.heap.size, 6, none⟩ = some (.int .i64 s2.count) := by simp [World.cell?, unhide HR3]
      have q3 : w3.cell? ⟨w2.heap.size, 7, none⟩ = some (.slice a2 n2 c2) := by simp [World.cell?, unhide HR3]
      rw [h0]
      have hcc : s2.count < 9223372036854775807 := by rw [← hcu]; exact hct
      have hc0 : 0 ≤ s2.count := by rw [← hcu]; exact (S.rcd_is k).2.1
      by_cases hla : s2.laid = true
      · rw [hla] at q0
        obtain ⟨W4, hW4⟩ : ∃ W4, W4 = w3.alloc (.cells #[.bool true, .int .u32 (s2.turn : Nat), .int .i64 s2.count, .slice a2 n2 c2] 61) := ⟨_, rfl⟩
        have HB4 : Hid (Below w2.heap.size w2 W4) := hide (by rw [hW4]; exact (unhide HB3).alloc (by omega) _)
        have z4 : W4.heap.size = w3.heap.size + 1 := by rw [hW4]; simp
        have HR4 : Hid (W4.heap[w2.heap.size]? = some (.cells (twoC s1 s2 (.slice a1 n1 c1) (.slice a2 n2 c2)) 62 (0, 0))) := hide (by rw [hW4, Below.heap_alloc _ _ _ (by omega)]; exact unhide HR3)
        have hE : S.store k d = S.burn.burn.putF (k + 1 - newR s1 s2) (slotL ⟨false, ((curS s1 s2).turn + 1) % 4294967296, s2.count + 1, d⟩ k) := by rw [unhide HE, if_pos (by rw [hcu, hla]), hcu]
        have HE2 := hide hE
        clear hE hcu HE hla
        go_wp2_with (first | (refine wpList_load_row rfl 62 (.tmp 8) rfl w2.heap.size rfl 62 (twoC s1 s2 (.slice a1 n1 c1) (.slice a2 n2 c2)) (0, 0) _ (by first | exact unhide HR3 | (rw [← hW4]; exact unhide HR4)) Try.underlying62 rfl sizeTwo ?_) | fail)
        rw [← hW4]
        clear hW4
        refine (write_any (base := base) ((unhide HD2).grown (unhide HB4)) (fun j hj => by have := hF j hj; omega) (by omega) k hk (by show S.burn.burn.down = false; rw [St.well_up hr.2.2, St.well_up hr.2.1]; exact hr.1) (by omega) s1 s2 a1 a2 n1 c1 n2 c2 t1 t2 (s2.count + 1) (by omega) (by omega) a _ c d ((unhide HV2).below (unhide HB4) (Nat.le_refl _)) hl).mono ?_
        rintro e w5 ⟨rfl, ⟨F', g1, g2, g3⟩, k3⟩
        have z5 := k3.size
        have H3 := hide (And.intro g3 k3)
        clear g3 k3
        rw [← unhide HE2] at H3 ⊢
        go_wp2
        go_ret
        refine ⟨rfl, ⟨F', fun j hj => g1 j hj, fun j hj => ?_, (unhide H3).1⟩, ?_⟩
        · rcases g2 j hj with h | h
          · exact .inl h
          · exact .inr (by omega)
        · exact (((Kept.of_below (unhide HB1)).trans (unhide HK2)).trans (Kept.of_below (unhide HB4))).trans (unhide H3).2
      · have hla : s2.laid = false := by simpa using hla
        rw [hla] at q0
        obtain ⟨W4, hW4⟩ : ∃ W4, W4 = w3.alloc (.cells #[.bool false, .int .u32 (s2.turn : Nat), .int .i64 s2.count, .slice a2 n2 c2] 61) := ⟨_, rfl⟩
        have HB4 : Hid (Below w2.heap.size w2 W4) := hide (by rw [hW4]; exact (unhide HB3).alloc (by omega) _)
        have z4 : W4.heap.size = w3.heap.size + 1 := by rw [hW4]; simp
        have HR4 : Hid (W4.heap[w2.heap.size]? = some (.cells (twoC s1 s2 (.slice a1 n1 c1) (.slice a2 n2 c2)) 62 (0, 0))) := hide (by rw [hW4, Below.heap_alloc _ _ _ (by omega)]; exact unhide HR3)
        have hE : S.store k d = (30, S.burn.burn) := by rw [unhide HE, if_neg (by rw [hcu, hla]; decide)]
        have HE2 := hide hE
        clear hE hcu hla HE
        go_wp2
        (try rw [← hW4])
        go_ret
        rw [unhide HE2]
        refine ⟨rfl, ⟨F, fun j hj => ?_, fun j hj => .inl hj, ((unhide HD2).grown (unhide HB4)).mono (fun _ h => h) (by omega)⟩, ((Kept.of_below (unhide HB1)).trans (unhide HK2)).trans (Kept.of_below (unhide HB4))⟩
        have := hF j hj
        omega
  · have HE : Hid (S.store k d = (2, S.halted)) := hide (by unfold St.store; rw [if_neg hr])
    go_wp2_with fail
    refine (read_stops (unhide HD1) k hk hr (by omega) hF1).mono ?_
    rintro e w2 ⟨rfl, d2, k2⟩
    have HD2 := hide d2
    have HK2 := hide k2
    have z2 := k2.size
    clear d2 k2
    have HBW := hide ((Below.refl w2.heap.size w2).alloc (Nat.le_refl _) (.cells two0 62))
    have zW : (w2.alloc (.cells two0 62)).heap.size = w2.heap.size + 1 := by simp
    go_wp2
    go_ret
    rw [unhide HE]
    refine ⟨rfl, ⟨F, fun j hj => ?_, fun j hj => .inl hj, ((unhide HD2).grown (unhide HBW)).mono (fun _ h => h) (by omega)⟩, ((Kept.of_below (unhide HB1)).trans (unhide HK2)).trans (Kept.of_below (unhide HBW))⟩
    have := hF j hj
    show base ≤ j ∧ j < (w2.alloc (.cells two0 62)).heap.size
    omega
end Go.Proofs.Ytbgaomfoiooegaa
