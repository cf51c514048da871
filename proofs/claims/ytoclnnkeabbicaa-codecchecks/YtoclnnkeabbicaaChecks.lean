/-
  CodecChecks: for every event it returns true, and its argument reads as before. Conditions: none beyond the form's own.
-/
import Derived.Test.YtoclnnkeabbicaaRows
import Derived.Test.YtoclnnkeabbicaaOpenE
import Derived.Test.YtoclnnkeabbicaaRefCheck
import Derived.OpenShut
namespace Go.Proofs.Ytoclnnkeabbicaa
open Go.ChangeShapes Go.WideShapes Go.ChangeAt Go.RowKit
set_option linter.unusedVariables false

theorem Check_as (t : List UInt8) (v : Int) (a : Option Addr) (n c : Nat) (fs : List Fld) (z : Int) (w : World) (ht : t.length ≤ 9223372036854775807) (hv : FdL w (.slice a n c) fs) (hfit : ∀ f ∈ fs, fits f) (hz : chk (okEvent t v fs) = z) :
    Calls Try.prog 29 #[.agg (ev t v a n c)] w fun e w' => e = .returned (.int .i64 z) ∧ Below w.heap.size w w' := by
  subst hz
  exact Check_any t v a n c fs w ht hv hfit
theorem rCheck_as (t : List UInt8) (v : Int) (a : Option Addr) (n c : Nat) (fs : List Fld) (z : Int) (w : World) (ht : t.length ≤ 9223372036854775807) (hv : FdL w (.slice a n c) fs) (hfit : ∀ f ∈ fs, fits f) (hz : chk (okEvent t v fs) = z) :
    Calls Try.prog 30 #[.agg (ev t v a n c)] w fun e w' => e = .returned (.int .i64 z) ∧ Below w.heap.size w w' := by
  subst hz
  exact rCheck_any t v a n c fs w ht hv hfit

set_option maxHeartbeats 4000000 in
theorem Checks.walk (t : List UInt8) (v : Int) (a : Option Addr) (n c : Nat) (fs : List Fld) (w : World) (ht : t.length ≤ 9223372036854775807) (hv : FdL w (.slice a n c) fs) (hfit : ∀ f ∈ fs, fits f) :
    Calls Try.prog 6 #[.agg (ev t v a n c)] w fun e w' => e = .returned (.bool true) ∧ Below w.heap.size w w' := by
  obtain ⟨z, hz⟩ : ∃ z, chk (okEvent t v fs) = z := ⟨_, rfl⟩
  have HZ := hide hz
  have HV := hide hv
  have HFit := hide hfit
  clear hz hv hfit
  go_enter Try.func6, Try.ntmps6
  go_wp2_with fail
  refine (awake_any _).mono ?_
  rintro e w1 ⟨rfl, b1⟩
  have s1 := b1.size
  have z0 := (b1.cell (p := ⟨w.heap.size, 0, none⟩) (by simp))
  have z1 := (b1.cell (p := ⟨w.heap.size, 1, none⟩) (by simp))
  have z2 := (b1.cell (p := ⟨w.heap.size, 2, none⟩) (by simp))
  simp at z0 z1 z2 s1
  have HW1 := hide (((Below.refl w.heap.size w).alloc (Nat.le_refl _) (.cells (ev t v a n c) 55)).trans (b1.mono (by simp)))
  have HV1 := hide ((unhide HV).below (unhide HW1) (Nat.le_refl _))
  have hlt : w.heap.size < w1.heap.size := by omega
  clear b1 s1
  go_wp2_with fail
  first
  | (go_region_with (first
      | (go_at_call 29; refine (Check_as t v a n c fs z _ ht ?hv (unhide HFit) (unhide HZ)).mono ?_; (case hv => (first | exact unhide HV1 | exact (unhide HV1).below (after_drew (unhide HBB)) (Nat.le_refl _))); rintro e wA ⟨rfl, bA⟩; have HBA := hide bA; have sA := bA.size; have zA0 := fun hh => bA.cell (p := ⟨w.heap.size, 0, none⟩) hh; have zA1 := fun hh => bA.cell (p := ⟨w.heap.size, 1, none⟩) hh; have zA2 := fun hh => bA.cell (p := ⟨w.heap.size, 2, none⟩) hh; simp [z0, hlt] at zA0; simp [z1, hlt] at zA1; simp [z2, hlt] at zA2; clear bA)
      | (go_at_call 30; refine (rCheck_as t v a n c fs z _ ht ?hv (unhide HFit) (unhide HZ)).mono ?_; (case hv => (first | exact unhide HV1 | exact (unhide HV1).below (after_drew (unhide HBA)) (Nat.le_refl _))); rintro e wB ⟨rfl, bB⟩; have HBB := hide bB; clear bB)))
  | fail
  all_goals
    go_wp2
    go_ret
    refine ⟨rfl, ?_⟩
    first
    | exact (((unhide HW1).drew).trans ((unhide HBA).mono (Nat.le_of_lt hlt))).trans ((unhide HBB).mono (Nat.le_trans (Nat.le_of_lt hlt) (unhide HBA).size))
    | exact (((unhide HW1).drew).trans ((unhide HBB).mono (Nat.le_of_lt hlt))).trans ((unhide HBA).mono (Nat.le_trans (Nat.le_of_lt hlt) (unhide HBB).size))

set_option maxRecDepth 100000 in
theorem Checks.lifted (os : Os) (started : os.Started) (H : Type) (enc : TypeId × Value → H) :
    ReturnsInHanded {} Try.checked os 6 .any (Rows.codecChecksSpec.pre6 enc Try.prog Try.f6 Rows.codecChecksRow.domain false) (Rows.codecChecksSpec.post enc Try.prog Try.f6 false true false false) := by
  refine returnsInHanded_of_change (C := Try.checked) own_knob started (by kernel_rfl) Try.func6
    (ChangeSpec.witness6 (enc := enc) (C := Try.checked) false ⟨#[], #[.agg #[.string ⟨#[]⟩, .int .i64 0, .slice none 0 0]], []⟩ 8 (by kernel_rfl) (by kernel_rfl) (by kernel_rfl) (by kernel_rfl)) ?_
  intro W base args ds gs before hval0 hW hcnd _
  have hval : ∀ (j : Nat) t v, Try.f6.params[j]? = some t → args[j]? = some v → Value.okWide Try.prog W .any base t v := hval0
  have hW' := hW
  obtain ⟨p, q, hA0, hV, rfl, hfz, hnd⟩ := hW
  have hA : DataW.TrodAll enc Try.prog W 0 (fun _ => true) true Try.f6.params.toList args.toList ds p := hA0
  rw [Try.params6] at hA hval
  obtain ⟨v0, d0, rfl, rfl, h0⟩ := trodAll_one hA
  obtain ⟨rfl, rfl⟩ := trodVars_none hV
  have k0 := h0
  have lt0 : ∀ x ∈ p, x.block < W.heap.size := by obtain ⟨m, hm⟩ := k0; exact DataW.trod_lt m _ _ _ hm
  obtain ⟨t, i, a, n, c, fs, rfl, h1, h2, h3⟩ := open_event (hval 0 55 v0 rfl rfl) h0
  clear hA0 hval0
  refine (Checks.walk t i a n c fs W h1 h2 h3).mono fun e W' ⟨he, bel⟩ => ?_
  subst he
  exact ⟨_, rfl, _, _, _, [], _, [], hW', trodAll_mk1 (shut_bool Try.underlying4 _), (trodAll_cons_mk (Below.trod laid_out (by kernel_rfl) (of_decide_eq_true (by kernel_rfl)) k0 bel lt0) trodAll_mk0), rfl, bel.frame _, fun h => by cases h⟩

theorem codecChecks_holds : Rows.CodecChecksSaid :=
  OpenClaim.holds_of_wide 6 Try.f6 rfl rfl rfl rfl rfl rfl rfl ⟨rfl, rfl, rfl, rfl, rfl⟩ rfl rfl rfl rfl rfl (by kernel_rfl) Try.func6 (by kernel_rfl)
    (of_decide_eq_true (by kernel_rfl)) (by unfold Func.isWrapper; first | (rw [if_pos (by decide +kernel)]; kernel_rfl) | (rw [if_neg (by decide +kernel)]; exact ⟨rfl, rfl⟩))
    (fun os started H enc _ => Checks.lifted os started H enc)
#print axioms codecChecks_holds
end Go.Proofs.Ytoclnnkeabbicaa
