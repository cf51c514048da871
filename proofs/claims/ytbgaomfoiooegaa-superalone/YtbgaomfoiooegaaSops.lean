/-
  DERIVED. Format over a device in memory.
-/
import Derived.Test.YtbgaomfoiooegaaSwrite
import Derived.Test.YtbgaomfoiooegaaSnil
namespace Go.Proofs.Ytbgaomfoiooegaa
open Go.RowKit
set_option linter.unusedVariables false

theorem Sl.kept' {F : Nat → Prop} {w w' : World} {a : Option Addr} {n c : Nat} {l : List UInt8} (h : Sl w (.slice a n c) l) (hk : Kept F w w') (hF : c ≠ 0 → ∀ ad, a = some ad → ¬ F ad.block) : Sl w' (.slice a n c) l := by
  by_cases hc : c = 0
  · obtain ⟨ao, cap, e, h1, h2, h4⟩ := h
    have ec : c = cap := by injection e
    exact ⟨ao, cap, e, h1, h2, fun h => absurd (ec.symm.trans hc) (by simpa using h)⟩
  · exact h.kept hk (hF hc)
theorem chk_ok {n : Nat} {k l : Nat} (hk : k + 1 < n) (hl : l ≤ 400) : chkE n k l = 0 := by unfold chkE; rw [if_neg (by omega), if_neg (by omega)]
/-- check, where it refuses nothing. -/
theorem check_ok {w : World} {b : Nat} {F : Nat → Prop} {N : Nat} {S : St} (h : Dev w b F N S) (k : Nat) (hk : k + 1 < S.safe.length) (a : Option Addr) (n c : Nat) (hl : n ≤ 400) :
    Calls Try.prog 23 #[.pointer (some ⟨b, 0, none⟩), .int .i64 k, .slice a n c] w fun e w' => e = .returned (.int .i64 0) ∧ Below w.heap.size w w' := by
  obtain ⟨g, c', m, vf, D, h0⟩ := h
  refine (check_dev k a n c h0.dev h0.n2).mono ?_
  rintro e w' ⟨rfl, hb⟩
  exact ⟨by rw [chk_ok hk hl], hb _⟩

set_option maxRecDepth 20000 in
set_option maxHeartbeats 2000000 in
theorem Format_dev {w : World} {b base : Nat} {F : Nat → Prop} {N : Nat} {S : St} (h : Dev w b F N S) (hF : ∀ k, F k → base ≤ k ∧ k < w.heap.size) (hbs : base ≤ w.heap.size) (k : Nat) (hk : k + 1 < S.safe.length) (hN : N < 800000)
    (a : Option Addr) (n c : Nat) (d : List UInt8) (hv : Sl w (.slice a n c) d) (hva : c ≠ 0 → ∀ ad, a = some ad → ¬ F ad.block) (hl : d.length ≤ 400) (hn : n = d.length) :
    Calls Try.prog 11 #[.pointer (some ⟨b, 0, none⟩), .int .i64 k, .slice a n c] w fun e w' => e = .returned (.int .i64 (S.format k d).1) ∧
      (∃ F', (∀ j, F' j → base ≤ j ∧ j < w'.heap.size) ∧ (∀ j, F' j → F j ∨ w.heap.size ≤ j) ∧ Dev w' b F' (N + 6) (S.format k d).2) ∧ Kept F w w' := by
  have hs : S.safe.length ≤ 512 := by obtain ⟨g, c, m, vf, D, h0⟩ := h; exact h0.n2
  subst hn
  have HD := hide h
  have HV := hide hv
  clear h hv
  go_enter Try.func11, Try.ntmps11
  go_wp2_with fail
  refine (check_ok (unhide HD) k hk a _ c (by omega)).mono ?_
  rintro e w1 ⟨rfl, b1⟩
  have HB1 := hide b1
  have z1 := b1.size
  have HD1 := hide ((unhide HD).grown b1)
  have HV1 := hide ((unhide HV).below b1 (Nat.le_refl _))
  clear b1 HD HV
  have hF1 : ∀ j, F j → j < w1.heap.size := fun j hj => by have := hF j hj; omega
  by_cases hr : S.reads
  · go_wp2_with fail
    refine (read_well (unhide HD1) k hk hr (by omega) hF1).mono ?_
    rintro e w2 ⟨a1, n1, c1, a2, n2, c2, rfl, f1, f2, l1, l2, d2, k2⟩
    obtain ⟨s1, hs1⟩ : ∃ s, unl k (S.newest k) = s := ⟨_, rfl⟩
    obtain ⟨s2, hs2⟩ : ∃ s, unl k (S.newest (k + 1)) = s := ⟨_, rfl⟩
    rw [hs1, hs2]
    have HE : Hid (S.format k d = S.burn.burn.putF (k + 1 - newR s1 s2) (slotL ⟨false, ((curS s1 s2).turn + 1) % 4294967296, 0, d⟩ k)) := hide (by unfold St.format; rw [if_pos hr, ← hs1, ← hs2]; rfl)
    have t1 : s1.turn < 4294967296 := by rw [← hs1]; exact (unl_is _ _).1
    have t2 : s2.turn < 4294967296 := by rw [← hs2]; exact (unl_is _ _).1
    have HD2 := hide d2
    have HK2 := hide k2
    have z2 := k2.size
    have HV2 := hide ((unhide HV1).kept' k2 hva)
    clear d2 k2 l1 l2 f1 f2 HD1 HV1 hs1 hs2
    obtain ⟨W2, hW2⟩ : ∃ W2, W2 = w2.alloc (.cells (twoC s1 s2 (.slice a1 n1 c1) (.slice a2 n2 c2)) 62) := ⟨_, rfl⟩
    have HBW : Hid (Below w2.heap.size w2 W2) := hide (by rw [hW2]; exact (Below.refl _ _).alloc (Nat.le_refl _) _)
    have zW : W2.heap.size = w2.heap.size + 1 := by rw [hW2]; simp
    go_wp2_with (first | (refine wpList_load_row rfl 62 (.tmp 8) rfl w2.heap.size rfl 62 (twoC s1 s2 (.slice a1 n1 c1) (.slice a2 n2 c2)) (0, 0) _ (by exact heap_alloc_self _ _) Try.underlying62 rfl sizeTwo ?_) | fail)
    rw [← hW2]
    clear hW2
    refine (write_any (base := base) ((unhide HD2).grown (unhide HBW)) (fun j hj => by have := hF j hj; omega) (by omega) k hk (by show S.burn.burn.down = false; rw [St.well_up hr.2.2, St.well_up hr.2.1]; exact hr.1) (by omega) s1 s2 a1 a2 n1 c1 n2 c2 t1 t2 0 (by decide) (by decide) a _ c d ((unhide HV2).below (unhide HBW) (Nat.le_refl _)) hl).mono ?_
    rintro e w3 ⟨rfl, ⟨F', g1, g2, g3⟩, k3⟩
    have z3 := k3.size
    have H3 := hide (And.intro g3 k3)
    clear g3 k3
    rw [← unhide HE] at H3 ⊢
    go_wp2
    go_ret
    refine ⟨rfl, ⟨F', fun j hj => g1 j hj, fun j hj => ?_, (unhide H3).1⟩, ?_⟩
    · rcases g2 j hj with h | h
      · exact .inl h
      · exact .inr (by omega)
    · exact (((Kept.of_below (unhide HB1)).trans (unhide HK2)).trans (Kept.of_below (unhide HBW))).trans (unhide H3).2
  · have HE : Hid (S.format k d = (2, S.halted)) := hide (by unfold St.format; rw [if_neg hr])
    go_wp2_with fail
    refine (read_stops (unhide HD1) k hk hr (by omega) hF1).mono ?_
    rintro e w2 ⟨rfl, d2, k2⟩
    have HD2 := hide d2
    have HK2 := hide k2
    have z2 := k2.size
    clear d2 k2
    have HBW := hide ((Below.refl w2.heap.size w2).alloc (Nat.le_refl _) (.cells two0 62))
    have zW : (w2.alloc (.cells two0 62)).heap.size = w2.heap.size + 1 := by simp
    go_wp2
    go_ret
    rw [unhide HE]
    refine ⟨rfl, ⟨F, fun j hj => ?_, fun j hj => .inl hj, ((unhide HD2).grown (unhide HBW)).mono (fun _ h => h) (by omega)⟩, ((Kept.of_below (unhide HB1)).trans (unhide HK2)).trans (Kept.of_below (unhide HBW))⟩
    have := hF j hj
    show base ≤ j ∧ j < (w2.alloc (.cells two0 62)).heap.size
    omega
end Go.Proofs.Ytbgaomfoiooegaa
