/-
  DERIVED. Take where nothing is taken; Free of no map.
-/
import Derived.Test.YtmnmciajldoabaaAround
import Derived.Deep.RegionWith
namespace Go.Proofs.Ytmnmciajldoabaa
open Go.RowKit Go.Shelf
set_option linter.unusedVariables false
attribute [local go_sem] Oper.semAt_some

theorem Take_nil (w : World) (n : Int) : Calls Try.prog 8 #[.pointer none, .int .i64 n] w fun e w' => e = .returned (.tuple #[.slice none 0 0, .int .i64 1]) ∧ w.grownBy w' none := by
  go_enter Try.func8, Try.ntmps8
  go_wp2
  go_ret2
  exact ⟨rfl, (World.grownBy_alloc _ _ _).trans (World.grownBy_alloc _ _ _)⟩
theorem Take_neg (w : World) (b : Nat) (n : Int) (h : n < 0) : Calls Try.prog 8 #[.pointer (some ⟨b, 0, none⟩), .int .i64 n] w fun e w' => e = .returned (.tuple #[.slice none 0 0, .int .i64 1]) ∧ w.grownBy w' none := by
  go_enter Try.func8, Try.ntmps8
  go_wp2
  go_ret2
  exact ⟨rfl, (World.grownBy_alloc _ _ _).trans (World.grownBy_alloc _ _ _)⟩

set_option maxRecDepth 100000 in
set_option maxHeartbeats 2000000 in
theorem Free_nil (w : World) : Calls Try.prog 22 #[.pointer none] w fun e w' => e = .returned (.int .i64 0) ∧ w.grownBy w' none := by
  refine (callsIn_wide (n := 3)).1 ?_
  refine callsIn_of_wp_marks Try.func22 rfl trivial ?_ rfl
  simp only [Try.ntmps22, List.size_toArray, List.length_cons, List.length_nil, Nat.reduceAdd, Nat.reduceSub, Array.replicate_succ, Array.replicate_zero, List.push_toArray, List.append_toArray, List.nil_append, List.cons_append]
  gi_wp2_with fail
  refine ⟨trivial, (callsIn_wide.2 (All_any _ _)).mono ?_⟩
  rintro e w' ⟨rfl, rfl⟩
  gi_wp2
  have bO := Boxed.new w 3 (.int .i64 0)
  have bN := Boxed.new (w.alloc (.cells #[.int .i64 0] 3)) 24 (.pointer none)
  rw [World.size_alloc] at bN
  obtain ⟨Wl, hWl⟩ : ∃ Wl, Wl = (w.alloc (.cells #[.int .i64 0] 3)).alloc (.cells #[.pointer none] 24) := ⟨_, rfl⟩
  have hB0 : Below w.heap.size w Wl := by rw [hWl]; exact ((Below.refl _ w).alloc (Nat.le_refl _) _).alloc (by simp) _
  have hsz : Wl.heap.size = w.heap.size + 2 := by rw [hWl]; simp
  have bO' : Boxed Wl w.heap.size 3 (.int .i64 0) := by rw [hWl]; exact bO.alloc _
  rw [← hWl] at bN ⊢
  clear hWl bO
  refine wpIn_rangeFunc_ownH rfl (by omega) (gf := 40) (lb := #[.pointer (some ⟨w.heap.size + 1, 0, none⟩)]) rfl trivial (enters_of Try.func40 (by kernel_rfl) rfl)
    (AllIt_nil 2 (w.heap.size + 1) (fun _ _ => True) Wl bN.cell bN.lt) (fun _ _ => trivial) (fun _ _ _ _ _ _ _ _ => trivial) (Below.refl _ _) (fun _ => rfl)
    (fun pre W => Boxed W w.heap.size 3 (.int .i64 0) ∧ Below w.heap.size w W)
    (fun _ _ _ => False)
    (OwnFrom.and (Own.from (boxed_own w.heap.size 3 (fun pre : List (Nat × Nat) => .int .i64 0)) _) (ownFrom_below (Nat.le_refl _) (by omega)))
    (fun _ _ _ _ _ hs _ _ => hs)
    ⟨bO', hB0⟩
    (fun x a' W => True)
    (fun x a' s A A' row hs hg hr => trivial)
    ?assign ?body ?done ?stop
  case assign =>
    rintro l pre x W K ⟨hb1, hb2⟩ hK
    have HK := hide hK
    obtain ⟨y, hy⟩ : ∃ y, y = cl x := ⟨_, rfl⟩
    rw [← hy]
    obtain ⟨y1, y2⟩ := y
    unfold rv
    simp only
    clear hy hK
    gi_wp2
    exact unhide HK _ _ ((KeepsOthers.alloc _ _).from _) trivial ⟨hb1.alloc _, hb2.alloc hb2.size _⟩ trivial
  case body =>
    rintro l pre x a' W hl hr _ _ hlt
    omega
  case done =>
    rintro D ys W hD rfl ⟨hb1, hb2⟩ hK
    have c := hb1.cell
    gi_wp2
    refine ⟨by simp, .inl ⟨_, _, rfl, run_takeDeferred hK, ?_⟩⟩
    exact ⟨_, results_tmp rfl _ _ _, rfl, grown_of_below (hb2.trans (belowK_b (w := w) (Nat.le_refl _) W D _ _ (by omega) hK rfl rfl))⟩
  case stop =>
    rintro D c pre W _ _ h _
    exact h.elim
end Go.Proofs.Ytmnmciajldoabaa
