/-
  DERIVED. FormWrites: any list of fields is checked, and written, as the document says.
-/
import Derived.Test.YtihkbbhckdpaiaaGreatDoorShaw
import Derived.Test.YtihkbbhckdpaiaaGreatDoorShR4
import Derived.Test.YtihkbbhckdpaiaaGreatDoorShopen
import Derived.Test.YtihkbbhckdpaiaaGreatDoorShlaid
import Derived.Test.YtihkbbhckdpaiaaGreatDoorCards
import Derived.Test.YtihkbbhckdpaiaaGreatDoorTie
import Derived.SevenTiedAt
namespace Go.Proofs.YtihkbbhckdpaiaaGreatDoor
open Go.ChangeShapes Go.WideShapes Go.ChangeAt Go.RowKit
open Go.ChangeMaps (open_string shut_string)
set_option linter.unusedVariables false

/-- What Write and the document's Write both answer. -/
theorem write_both (fs : List Fld) (hfit : ∀ f ∈ fs, fits f) : ∃ (s : List UInt8) (M : Int), checkF fs = M ∧
    (∀ (a : Option Addr) (n c : Nat) (w : World), FdL w (.slice a n c) fs → Vars w → Calls Tryz.prog 8 #[.slice a n c] w fun e w' => e = .returned (.tuple #[sv s, .int .i64 M]) ∧ Below w.heap.size w w') ∧
    (∀ (a : Option Addr) (n c : Nat) (w : World), FdL w (.slice a n c) fs → Vars w → Calls Tryz.prog 9 #[.slice a n c] w fun e w' => e = .returned (.tuple #[sv s, .int .i64 M]) ∧ Below w.heap.size w w') := by
  by_cases h : checkF fs = 0
  · exact ⟨writeT fs, 0, h, fun a n c w hv hva => Write_ok a n c fs w hv hfit h hva, fun a n c w hv hva => rWrite_ok a n c fs w hv hfit h hva⟩
  · exact ⟨[], checkF fs, rfl, fun a n c w hv hva => Write_bad a n c fs w hv hfit _ rfl h, fun a n c w hv hva => rWrite_bad a n c fs w hv hfit _ rfl h⟩

set_option maxHeartbeats 4000000 in
theorem ShWrites.walk (a : Option Addr) (n c : Nat) (fs : List Fld) (w : World) (hv : FdL w (.slice a n c) fs) (hfit : ∀ f ∈ fs, fits f) (hva : Vars w) :
    Calls Tryz.prog 3 #[.slice a n c] w fun e w' => e = .returned (.bool true) ∧ Below w.heap.size w w' := by
  have HA := hide (awake_go w hva)
  obtain ⟨s, M, hM, h1, h2⟩ := write_both fs hfit
  have HW1 : Hid (∀ W, Below w.heap.size w W → Calls Tryz.prog 8 #[.slice a n c] W fun e w' => e = .returned (.tuple #[sv s, .int .i64 M]) ∧ Below W.heap.size W w') := hide (fun W hW => h1 a n c W (hv.below hW (Nat.le_refl _)) (hva.below hW (Nat.le_refl _)))
  have HW2 : Hid (∀ W, Below w.heap.size w W → Calls Tryz.prog 9 #[.slice a n c] W fun e w' => e = .returned (.tuple #[sv s, .int .i64 M]) ∧ Below W.heap.size W w') := hide (fun W hW => h2 a n c W (hv.below hW (Nat.le_refl _)) (hva.below hW (Nat.le_refl _)))
  have HC1 : Hid (∀ W, Below w.heap.size w W → Calls Tryz.prog 10 #[.slice a n c] W fun e w' => e = .returned (.int .i64 M) ∧ Below W.heap.size W w') := hide (fun W hW => by have := Check_any a n c fs W (hv.below hW (Nat.le_refl _)) hfit; rwa [hM] at this)
  have HC2 : Hid (∀ W, Below w.heap.size w W → Calls Tryz.prog 11 #[.slice a n c] W fun e w' => e = .returned (.int .i64 M) ∧ Below W.heap.size W w') := hide (fun W hW => by have := rCheck_any a n c fs W (hv.below hW (Nat.le_refl _)) hfit; rwa [hM] at this)
  clear hv hva hfit h1 h2 hM
  go_enter Tryz.func3, Tryz.ntmps3
  go_wp2_with (first | (go_at_call 7; refine (unhide HA).mono ?_; rintro e w1 ⟨rfl, b1⟩; have HB1 := hide b1; clear b1) | (go_at_call 8; refine (unhide HW1 _ (unhide HB1)).mono ?_; rintro e w2 ⟨rfl, b2⟩; have HB2 := hide ((unhide HB1).trans (b2.mono (unhide HB1).size)); clear b2) | (go_at_call 9; refine (unhide HW2 _ (unhide HB2)).mono ?_; rintro e w3 ⟨rfl, b3⟩; have HB3 := hide ((unhide HB2).trans (b3.mono (unhide HB2).size)); clear b3) | (go_at_call 10; refine (unhide HC1 _ (unhide HB3)).mono ?_; rintro e w4 ⟨rfl, b4⟩; have HB4 := hide ((unhide HB3).trans (b4.mono (unhide HB3).size)); clear b4) | (go_at_call 11; refine (unhide HC2 _ (unhide HB4)).mono ?_; rintro e w5 ⟨rfl, b5⟩; have HB5 := hide ((unhide HB4).trans (b5.mono (unhide HB4).size)); clear b5))
  go_ret
  exact ⟨rfl, unhide HB5⟩

set_option maxRecDepth 100000 in
theorem ShWrites.lifted (os : Os) (started : os.Started) (H : Type) (enc : TypeId × Value → H) :
    ReturnsInHanded {} Tryz.checked os 3 .any (fun w args => (Rows.formWritesSpec.pre enc Tryz.prog Tryz.f3 [] false w args ∧ laidMetH Tryz.prog seatLaid w) ∧ sizedMet enc Tryz.prog Tryz.f3 (OpenSpec.ofChange Rows.formWritesSpec) false w args)
      (Rows.formWritesSpec.post enc Tryz.prog Tryz.f3 false true false false) := by
  refine returnsInHanded_of_change_and (C := Tryz.checked) (X := fun w _ => laidMetH Tryz.prog seatLaid w) (fun _ _ _ hh h => h.of_heap hh) own_knob started (by kernel_rfl) Tryz.func3
    (ChangeSpec.witness_at (enc := enc) (C := Tryz.checked) (os := os) (X := fun w _ => laidMetH Tryz.prog seatLaid w) false (laidWorld os) #[.slice none 0 0] 8 rfl (by kernel_rfl) (by kernel_rfl) (by kernel_rfl) (by kernel_rfl) (by kernel_rfl) (laidWorld_met os _)) ?_
  intro W base args ds gs before hval0 hW _ hsz0 hL _
  have hval : ∀ (j : Nat) t v, Tryz.f3.params[j]? = some t → args[j]? = some v → Value.okWide Tryz.prog W .any base t v := hval0
  have hsz : (DataW.weightsEach Tryz.prog (Tryz.f3.params.toList ++ Rows.formWritesSpec.plain.varTypes Tryz.prog) (ds ++ gs)).all (· ≤ reachBytes) = true := hsz0
  have hW' := hW
  obtain ⟨p, q, hA0, hV, rfl, hfz, hnd⟩ := hW
  have hA : DataW.TrodAll enc Tryz.prog W 0 (fun _ => true) true Tryz.f3.params.toList args.toList ds p := hA0
  rw [Tryz.params3] at hA hval hsz
  obtain ⟨v0, vs0, d0, ds0, p0, q0, e0, rfl, rfl, h0, hA⟩ := trodAll_cons hA
  obtain ⟨rfl, rfl, rfl⟩ := trodAll_nil hA
  obtain rfl : args = #[v0] := by cases args; simp_all
  obtain ⟨rfl, rfl⟩ := trodVars_none hV
  obtain ⟨a0, n0, c0, rfl⟩ := okWide_slice Tryz.underlying22 (hval 0 22 v0 rfl rfl)
  have k0 := h0
  have lt0 : ∀ x ∈ p0, x.block < W.heap.size := by obtain ⟨m, hm⟩ := k0; exact DataW.trod_lt m _ _ _ hm
  obtain ⟨l0, g0, f0, b0⟩ := open_flds hsz (j := 0) rfl h0 rfl
  clear hA0 hval0 hsz0
  refine (ShWrites.walk a0 n0 c0 l0 W g0 f0 (vars_of_laid hL)).mono fun e W' ⟨he, bel⟩ => ?_
  subst he
  exact ⟨_, rfl, _, _, _, [], _, [], hW', trodAll_mk1 (shut_bool Tryz.underlying4 _), (trodAll_cons_mk (Below.trod laid_out (by kernel_rfl) (of_decide_eq_true (by kernel_rfl)) k0 bel lt0) trodAll_mk0), rfl, bel.frame _, fun h => by cases h⟩

theorem formWrites_holds : Rows.FormWritesSaid :=
  OpenClaim.holds_of_wide 3 Tryz.f3 rfl rfl rfl rfl rfl rfl rfl ⟨rfl, rfl, rfl, rfl, rfl⟩ rfl rfl rfl rfl rfl (by kernel_rfl) Tryz.func3 (by kernel_rfl)
    (of_decide_eq_true (by kernel_rfl)) (by unfold Func.isWrapper; first | (rw [if_pos (by decide +kernel)]; kernel_rfl) | (rw [if_neg (by decide +kernel)]; exact ⟨rfl, rfl⟩))
    (fun os started H enc _ => ShWrites.lifted os started H enc)

theorem formWritesCard_holds : Rows.FormWritesCardSaid :=
  Claim7.holds_tied_plain_at .later [] _ _ _ _
    formWrites_holds (fun _ h => by cases h) (by kernel_rfl) (fun _ h => by cases h) formWrites_row_tie rfl ⟨rfl, rfl⟩ (by kernel_rfl) rfl
    (fun f fn hf hfn => by
      obtain rfl : f = 3 := Option.some.inj ((show Tryz.prog.funcNamed "cartulary/cartularylaw12.FormWrites" = some 3 by kernel_rfl).symm.trans hf) |>.symm
      obtain rfl : fn = Tryz.f3 := (Option.some.inj (Tryz.func3.symm.trans hfn)).symm
      exact ⟨by kernel_rfl, fun j t ht => by
        rw [Tryz.params3] at ht
        have h0 : ∀ (t : TypeId), t ∈ ([22] : List TypeId) → Tryz.prog.wantsStandIn t = false := by
          intro t ht
          simp only [List.mem_cons, List.not_mem_nil, or_false] at ht
          rcases ht with rfl <;> kernel_rfl
        exact h0 t (List.mem_of_getElem? (by simpa using ht))⟩)
    (by kernel_rfl)
#print axioms formWritesCard_holds
end Go.Proofs.YtihkbbhckdpaiaaGreatDoor
