/-
  DERIVED. The law's awake: some of the chapter's examples.
-/
import Derived.Test.YtmhlfbgchhmffaaCput3Is
namespace Go.Proofs.Ytmhlfbgchhmffaa
open Go.RowKit Go.Maps
set_option linter.unusedVariables false

set_option maxRecDepth 20000 in
set_option maxHeartbeats 2000000 in
theorem awake_ok (w : World) : Calls Try.prog 7 #[] w fun e w' => e = .returned (.bool true) ∧ Below w.heap.size w w' := by
  go_enter Try.func7, Try.ntmps7
  go_wp2_with fail
  refine (Is.New_any w 2 (by omega) (by omega)).mono ?_
  rintro e w1 ⟨c, rfl, hc, a1, b1⟩
  have H1 := hide a1
  have B1 := hide (Is.Fr.of_below (N := w.heap.size) b1)
  have hN1 : w.heap.size ≤ w1.heap.size := b1.size
  clear a1 b1 hc
  go_wp2_with fail
  refine (Is.Put_room w1 w.heap.size c 2 0 [] 1 ⟨#[97]⟩ false (unhide H1) (by decide) rfl (by simp) (by omega) hN1).mono ?_
  rintro e w2 ⟨rfl, ⟨L2, a2, b2, rfl⟩, f2⟩
  have H2 := hide a2
  have B2 := hide ((unhide B1).trans f2)
  have hN2 : w.heap.size ≤ w2.heap.size := Nat.le_trans hN1 f2.size
  clear a2 f2
  go_wp2_with fail
  refine (Is.Put_room w2 w.heap.size c 2 1 _ 2 ⟨#[98]⟩ true (unhide H2) (by decide) (by simp [Is.fnd]) (by simp) (by omega) hN2).mono ?_
  rintro e w3 ⟨rfl, ⟨L3, a3, b3, rfl⟩, f3⟩
  have H3 := hide a3
  have B3 := hide ((unhide B2).trans f3)
  have hN3 : w.heap.size ≤ w3.heap.size := Nat.le_trans hN2 f3.size
  clear a3 f3
  go_wp2_with fail
  refine (Is.Get_some w3 w.heap.size c 2 2 [] [⟨b3, 2, ⟨#[98]⟩, true, 0⟩] ⟨b2, 1, ⟨#[97]⟩, false, 0⟩ (unhide H3)).mono ?_
  rintro e w4 ⟨rfl, a4, f4⟩
  have H4 := hide a4
  have B4 := hide ((unhide B3).trans f4)
  have hN4 : w.heap.size ≤ w4.heap.size := Nat.le_trans hN3 f4.size
  clear a4 f4
  go_wp2_with fail
  refine (Is.Put_goes w4 w.heap.size c 2 2 [] [⟨b2, 1, ⟨#[97]⟩, false, 0⟩] ⟨b3, 2, ⟨#[98]⟩, true, 0⟩ 3 ⟨#[99]⟩ false (unhide H4) (by decide) (by simp [Is.fnd]) (by simp) (by simp) rfl (by omega) hN4).mono ?_
  rintro e w5 ⟨rfl, ⟨L5, a5, b5, rfl⟩, f5⟩
  have H5 := hide a5
  have B5 := hide ((unhide B4).trans f5)
  clear a5 f5
  go_wp2_with fail
  refine (Is.Len_any w5 w.heap.size c 2 3 _ (unhide H5)).mono ?_
  rintro e w6 ⟨rfl, rfl⟩
  go_wp2
  go_ret
  exact ⟨rfl, (unhide B5).below (Nat.le_refl _)⟩
end Go.Proofs.Ytmhlfbgchhmffaa
