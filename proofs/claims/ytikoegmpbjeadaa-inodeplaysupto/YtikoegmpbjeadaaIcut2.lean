/-
  DERIVED. Cut, Copy.
-/
import Derived.Test.YtikoegmpbjeadaaIcut
namespace Go.Proofs.Ytikoegmpbjeadaa
open Go.RowKit
set_option linter.unusedVariables false

theorem parted_all (w : World) (b n : Nat) (v : Value) (L : List Nat) (h : NdAt w b n v L) (k : Nat) (hk : k ≤ L.length) :
    Calls Try.prog 42 #[.pointer (some ⟨b, 0, none⟩), .int .i64 (k : Int)] w fun e w' => ∃ a c, e = .returned (.tuple #[a, c]) ∧ ROwn w' 0 a (canon (L.take k)) ∧ ROwn w' w.heap.size c (canon (L.drop k)) ∧ (∀ q, c.ownBlock = some q → a.ownBlock ≠ some q) ∧ w.grownBy w' none := by
  by_cases hlt : k < L.length
  · refine (parted_any w b n v L h k hlt).mono ?_
    rintro e w' ⟨a, c, rfl, h1, h2, h3, h4⟩
    exact ⟨a, c, rfl, h1.mono (Nat.zero_le _), h2, h3, h4⟩
  · have hke : (k : Int) = (L.length : Int) := by omega
    have c1 := h.val
    have HM := hide h
    have e1 : L.take k = L := List.take_of_length_le (by omega)
    have e2 : L.drop k = [] := List.drop_eq_nil_of_le (by omega)
    rw [e1, e2]
    clear h hlt e1 e2
    go_enter Try.func42, Try.ntmps42
    go_wp2_with fail
    refine (Blocks_any w b n v L (unhide HM)).mono ?_
    rintro e w1 ⟨rfl, rfl⟩
    go_wp2
    go_ret2
    exact ⟨_, _, rfl, (unhide HM).runs, ROwn.nil _ _, fun q hq => (by cases hq), World.grownBy.refl _ _⟩

set_option maxHeartbeats 2000000 in
theorem Cut_ok (w : World) (b n : Nat) (v : Value) (L : List Nat) (h : NdAt w b n v L) (k : Nat) (hk : k ≤ n) :
    Calls Try.prog 24 #[.pointer (some ⟨b, 0, none⟩), .int .i64 (k : Int)] w fun e w' => ∃ a c, e = .returned (.tuple #[c, .int .i64 0]) ∧ NdAt w' b k a (L.take (bf k)) ∧ ROwn w' w.heap.size c (canon (L.drop (bf k))) ∧ (∀ q, c.ownBlock = some q → a.ownBlock ≠ some q) ∧ w.grownBy w' (some b) := by
  have c0 := h.num
  have HM := hide h
  have hle := h.le
  have hn1 : ¬ (k : Int) < 0 := by omega
  have hn2 : ¬ (n : Int) < (k : Int) := by omega
  have hni : (n : Int) ≤ 32768 := by omega
  have hbk : bf k ≤ L.length := by rw [h.len]; unfold bf; omega
  clear h
  go_enter Try.func24, Try.ntmps24
  go_wp2_with fail
  refine (blocksFor_any w k (by omega)).mono ?_
  rintro e w1 ⟨rfl, rfl⟩
  go_wp2_with fail
  refine (parted_all w1 b n v L (unhide HM) (bf k) hbk).mono ?_
  rintro e w2 ⟨a, c, rfl, oa, oc, hs, hg⟩
  have m2 := (unhide HM).grown hg
  obtain ⟨t1, t2, t3⟩ := m2.turned oa (show k ≤ 32768 by omega) (by rw [List.length_take]; omega) (low_take m2.lw _) (k : Int) rfl
  have T1 := hide t1
  have T3 := hide t3
  have OC : Hid (ROwn ((w2.setCell ⟨b, 0, none⟩ (.int .i64 (k : Int))).setCell ⟨b, 1, none⟩ a) w1.heap.size c (canon (L.drop (bf k)))) := hide (oc.far m2 t3)
  have HS := hide hs
  have HG := hide hg
  have d0 := m2.num
  have d1 := m2.val
  have f0 := m2.frozen 0
  have f1 := m2.frozen 1
  obtain ⟨ao, cap, ha, _⟩ := oa.form
  obtain ⟨m, hm⟩ : ∃ m, a = .slice ao m cap := ⟨_, ha⟩
  clear ha
  subst hm
  clear t1 t2 t3 oa oc hs hg m2 c0
  go_wp2
  go_ret2
  exact ⟨_, c, rfl, unhide T1, unhide OC, unhide HS, ((unhide HG).but _).trans (unhide T3)⟩
theorem Cut_far (w : World) (b n : Nat) (v : Value) (L : List Nat) (h : NdAt w b n v L) (k : Int) (hk : k < 0 ∨ (n : Int) < k) :
    Calls Try.prog 24 #[.pointer (some ⟨b, 0, none⟩), .int .i64 k] w fun e w' => e = .returned (.tuple #[.slice none 0 0, .int .i64 60]) ∧ w' = w := by
  have c0 := h.num
  clear h
  by_cases h1 : k < 0
  · clear hk
    go_enter Try.func24, Try.ntmps24
    go_wp2
    go_ret2
    exact ⟨rfl, rfl⟩
  · have h2 : (n : Int) < k := by omega
    clear hk
    go_enter Try.func24, Try.ntmps24
    go_wp2
    go_ret2
    exact ⟨rfl, rfl⟩

set_option maxRecDepth 20000 in
set_option maxHeartbeats 2000000 in
theorem Copy_any (w : World) (b n : Nat) (v : Value) (L : List Nat) (h : NdAt w b n v L) :
    Calls Try.prog 11 #[.pointer (some ⟨b, 0, none⟩)] w fun e w' => ∃ c u, e = .returned (.pointer (some ⟨c, 0, none⟩)) ∧ w.heap.size ≤ c ∧ NdAt w' c n u L ∧ ROwn w' w.heap.size u (canon L) ∧ w.grownBy w' none := by
  have c0 := h.num
  have c1 := h.val
  have HM := hide h
  clear h
  go_enter Try.func11, Try.ntmps11
  go_wp2_with fail
  go_region_with (go_at_call 26; refine (Runs_any _ b n v L ((unhide HM).drewN _)).mono ?_; rintro e w1 ⟨u, rfl, o1, g1⟩; obtain ⟨ao, cap, hu, _, _, _⟩ := o1.form; subst hu; have d0 : w1.cell? ⟨b, 0, none⟩ = some (.int .i64 (n : Int)) := g1.cell c0 (by simp); have O1 := hide o1; have G1 := hide g1; have M1 := hide (((unhide HM).drewN _).grown g1); clear o1 g1)
  all_goals go_wp2
  all_goals go_ret
  all_goals
    have o2 := (unhide O1).grown (World.grownBy_alloc w1 (.cells #[.int .i64 (n : Int), .slice ao (canon L).length cap] 67) none)
    have m1 := unhide M1
    refine ⟨w1.heap.size, _, rfl, (unhide G1).size, ⟨heap_alloc_new _ _, o2.mono (Nat.zero_le _), m1.le, m1.len, m1.lw⟩, o2, ?_⟩
    exact World.grownBy.trans (b := w1) ⟨(unhide G1).os, (unhide G1).tape, (unhide G1).output, (unhide G1).size, (unhide G1).block⟩ ⟨rfl, rfl, rfl, by simp, fun k hk _ => Below.heap_alloc _ _ _ hk⟩
end Go.Proofs.Ytikoegmpbjeadaa
