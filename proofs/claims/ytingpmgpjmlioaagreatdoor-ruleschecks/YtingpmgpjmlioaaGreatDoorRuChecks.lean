/-
  DERIVED. RulesChecks: any table is taken, or refused, as the document says.
-/
import Derived.Test.YtingpmgpjmlioaaGreatDoorRuXg
import Derived.Test.YtingpmgpjmlioaaGreatDoorRuUg
import Derived.Test.YtingpmgpjmlioaaGreatDoorRuOd
import Derived.Test.YtingpmgpjmlioaaGreatDoorRuTb
import Derived.Test.YtingpmgpjmlioaaGreatDoorUpLaid
import Derived.Test.YtingpmgpjmlioaaGreatDoorCards
import Derived.Test.YtingpmgpjmlioaaGreatDoorTie
import Derived.SevenTiedAt
namespace Go.Proofs.YtingpmgpjmlioaaGreatDoor
open Go.ChangeShapes Go.WideShapes Go.ChangeAt Go.RowKit
open Go.ChangeMaps (open_string shut_string)
set_option linter.unusedVariables false

set_option maxRecDepth 20000 in
set_option maxHeartbeats 16000000 in
theorem RuChecks.walk (ha : Option Addr) (hc : Nat) (hs : List Ha) (va : Option Addr) (vc : Nat) (vs : List Evo) (w : World)
    (ht : SlOf 3 HaAt w (.slice ha hs.length hc) hs) (hbig : ∀ h ∈ hs, bigHaP h) (hv : SlOf 3 EvoAt w (.slice va vs.length vc) vs) (hfv : ∀ h ∈ vs, fitEv h) (hva : Vars w) :
    Calls Tryz.prog 3 #[.agg (rulV ha hs.length hc va vs.length vc)] w fun e w' => e = .returned (.bool true) ∧ Below w.heap.size w w' := by
  obtain ⟨Y, hY, hsV⟩ := haPick ht (fun x hx => (hbig x hx).1)
  obtain ⟨Z, hZ, hvV⟩ := evPick hv hfv
  have e1 : hs.length = Y.length := by rw [← hY]; simp
  have e2 : vs.length = Z.length := by rw [← hZ]; simp
  have hb1 : Below w.heap.size w (w.alloc (.cells (rulV ha hs.length hc va vs.length vc) 25)) := (Below.refl _ _).alloc (Nat.le_refl _) _
  have hr1 : (w.alloc (.cells (rulV ha hs.length hc va vs.length vc) 25)).heap[w.heap.size]? = some (.cells (rulV ha hs.length hc va vs.length vc) 25 (0, 0)) := heap_alloc_new _ _
  obtain ⟨w1, hw1⟩ : ∃ w1, w1 = w.alloc (.cells (rulV ha hs.length hc va vs.length vc) 25) := ⟨_, rfl⟩
  rw [← hw1] at hb1 hr1
  have HW := hide hw1
  obtain ⟨B, hB⟩ : ∃ B, B = w.heap.size := ⟨_, rfl⟩
  rw [← hB] at hr1
  have HBe := hide hB
  obtain ⟨K1, hK1⟩ : ∃ K1, K1 = checkT hs vs := ⟨_, rfl⟩
  have HSB : Hid (∀ W, Below w1.heap.size w1 W → (W.cell? ⟨B, 0, none⟩ = some (.slice ha hs.length hc) ∧ W.cell? ⟨B, 1, none⟩ = some (.slice va vs.length vc))) := hide (fun W hW => ⟨kept hW ((cell_of_row _ _ _ _ _ _ hr1).trans rfl), kept hW ((cell_of_row _ _ _ _ _ _ hr1).trans rfl)⟩)
  have HBW : Hid (∀ W, Below w1.heap.size w1 W → Below w.heap.size w W) := hide (fun W hW => hb1.trans (hW.mono hb1.size))
  have HC1 : Hid (∀ W, Below w1.heap.size w1 W → Calls Tryz.prog 7 #[.agg #[.slice ha hs.length hc, .slice va vs.length vc]] W fun e w' => e = .returned (.int .i64 K1) ∧ Below W.heap.size W w') := hide (fun W hW => by
    have h := hb1.trans (hW.mono hb1.size)
    have := uCheck_any ha hc Y va vc Z W ⟨by rw [← e1]; exact hsV.grown (fun _ _ _ _ _ => HaR.grown) h, by rw [← e2]; exact hvV.grown (fun _ _ _ _ _ => EvR.grown) h⟩
    rw [hY, hZ, ← e1, ← e2, ← hK1] at this
    exact this)
  have HC2 : Hid (∀ W, Below w1.heap.size w1 W → Calls Tryz.prog 8 #[.agg #[.slice ha hs.length hc, .slice va vs.length vc]] W fun e w' => e = .returned (.int .i64 K1) ∧ Below W.heap.size W w') := hide (fun W hW => by
    have h := hb1.trans (hW.mono hb1.size)
    rw [hK1]
    exact ruCheck_any w ha hs.length hc hs va vs.length vc vs ht hv ⟨fun x hx => (hbig x hx).1, hfv⟩ W h)
  have HA := hide (uawake_go w1 (hva.below hb1 (Nat.le_refl _)))
  obtain ⟨NH, hNH⟩ : ∃ NH, NH = hs.length := ⟨_, rfl⟩
  obtain ⟨NV, hNV⟩ : ∃ NV, NV = vs.length := ⟨_, rfl⟩
  rw [← hNH, ← hNV] at HW HSB HC1 HC2 ⊢
  clear hw1 hb1 hr1 hB ht hbig hv hfv hva hK1 hsV hvV hY hZ e1 e2 hNH hNV
  go_enter Tryz.func3, Tryz.ntmps3
  go_upto_region 1 with fail
  rw [show w.alloc (.cells #[Value.slice ha NH hc, .slice va NV vc] 25) = w1 from (unhide HW).symm]
  rw [← unhide HBe]
  go_upto_region 2 with (go_at_call 6; refine (unhide HA).mono ?_; rintro e w2 ⟨rfl, b2⟩; have HK2 := hide b2; clear b2)
  clear HA
  have HSV : Hid (∀ V, Below w2.heap.size w2 V → V.cell? ⟨B, 0, none⟩ = some (.slice ha NH hc) ∧ V.cell? ⟨B, 1, none⟩ = some (.slice va NV vc)) := hide (fun V hV => unhide HSB V ((unhide HK2).trans (hV.mono (unhide HK2).size)))
  have bD : Below w2.heap.size w2 w2.drew := (Below.refl _ _).drew
  have S0 := hide (unhide HSV _ (Below.refl _ _))
  have SD := hide (unhide HSV _ bD)
  have HC := hide (unhide HC1 w2.drew ((unhide HK2).trans (bD.mono (unhide HK2).size)))
  have BD := hide bD
  clear bD
  go_region_held3 (fun V => V.cell? ⟨B, 0, none⟩ = some (.slice ha NH hc) ∧ V.cell? ⟨B, 1, none⟩ = some (.slice va NV vc))
    (first | with_reducible exact unhide S0 | with_reducible exact unhide SD | with_reducible exact unhide S7 | with_reducible exact unhide S8)
    ((first
      | (go_at_call 7; refine (unhide HC).mono ?_; rintro e w3 ⟨rfl, b3⟩; have HB3 := hide ((unhide BD).trans (b3.mono (unhide BD).size)); have S7 := hide (unhide HSV _ (unhide HB3)); have HD := hide (unhide HC2 w3 ((unhide HK2).trans ((unhide HB3).mono (unhide HK2).size))); clear b3)
      | (go_at_call 8; refine (unhide HD).mono ?_; rintro e w4 ⟨rfl, b4⟩; have HB4 := hide ((unhide HB3).trans (b4.mono (unhide HB3).size)); have S8 := hide (unhide HSV _ (unhide HB4)); clear b4)))
  have HE := hide (unhide HBW _ ((unhide HK2).trans ((unhide HB4).mono (unhide HK2).size)))
  go_wp2
  go_ret
  exact ⟨by simp, unhide HE⟩

set_option maxRecDepth 100000 in
theorem RuChecks.lifted (os : Os) (started : os.Started) (H : Type) (enc : TypeId × Value → H) :
    ReturnsInHanded {} Tryz.checked os 3 .any (fun w args => (Rows.rulesChecksSpec.pre enc Tryz.prog Tryz.f3 [] false w args ∧ laidMetH Tryz.prog seatLaid w) ∧ sizedMet enc Tryz.prog Tryz.f3 (OpenSpec.ofChange Rows.rulesChecksSpec) false w args)
      (Rows.rulesChecksSpec.post enc Tryz.prog Tryz.f3 false true false false) := by
  refine returnsInHanded_of_change_and (C := Tryz.checked) (X := fun w _ => laidMetH Tryz.prog seatLaid w) (fun _ _ _ hh h => h.of_heap hh) own_knob started (by kernel_rfl) Tryz.func3
    (ChangeSpec.witness_at (enc := enc) (C := Tryz.checked) (os := os) (X := fun w _ => laidMetH Tryz.prog seatLaid w) false (laidWorld os) #[.agg (rulV none 0 0 none 0 0)] 8 rfl (by kernel_rfl) (by kernel_rfl) (by kernel_rfl) (by kernel_rfl) (by kernel_rfl) (laidWorld_met os _)) ?_
  intro W base args ds gs before hval0 hW _ hsz0 hL _
  have hval : ∀ (j : Nat) t v, Tryz.f3.params[j]? = some t → args[j]? = some v → Value.okWide Tryz.prog W .any base t v := hval0
  have hsz : (DataW.weightsEach Tryz.prog (Tryz.f3.params.toList ++ Rows.rulesChecksSpec.plain.varTypes Tryz.prog) (ds ++ gs)).all (· ≤ reachBytes) = true := hsz0
  have hW' := hW
  obtain ⟨p, q, hA0, hV, rfl, hfz, hnd⟩ := hW
  have hA : DataW.TrodAll enc Tryz.prog W 0 (fun _ => true) true Tryz.f3.params.toList args.toList ds p := hA0
  rw [Tryz.params3] at hA hval hsz
  obtain ⟨v0, vs0, d0, ds0, p0, q0, e0, rfl, rfl, h0, hA⟩ := trodAll_cons hA
  obtain ⟨rfl, rfl, rfl⟩ := trodAll_nil hA
  obtain rfl : args = #[v0] := by cases args; simp_all
  obtain ⟨rfl, rfl⟩ := trodVars_none hV
  have k0 := h0
  have lt0 : ∀ x ∈ p0, x.block < W.heap.size := by obtain ⟨m, hm⟩ := k0; exact DataW.trod_lt m _ _ _ hm
  obtain ⟨a0, c0, l0, m0, r0, t0, rfl, g0, f0, b0, j0, o0, z0⟩ := open_ruA hsz (j := 0) rfl rfl (hval 0 25 v0 rfl rfl) h0
  clear hA0 hval0 hsz0
  refine (RuChecks.walk a0 c0 l0 m0 r0 t0 W g0 f0 j0 o0 (vars_of_laid hL)).mono fun e W' ⟨he, bel⟩ => ?_
  subst he
  exact ⟨_, rfl, _, _, _, [], _, [], hW', trodAll_mk1 (shut_bool Tryz.underlying4 _), (trodAll_cons_mk (Below.trod laid_out (by kernel_rfl) (of_decide_eq_true (by kernel_rfl)) k0 bel lt0) trodAll_mk0), rfl, bel.frame _, fun h => by cases h⟩

theorem rulesChecks_holds : Rows.RulesChecksSaid :=
  OpenClaim.holds_of_wide 3 Tryz.f3 rfl rfl rfl rfl rfl rfl rfl ⟨rfl, rfl, rfl, rfl, rfl⟩ rfl rfl rfl rfl rfl (by kernel_rfl) Tryz.func3 (by kernel_rfl)
    (of_decide_eq_true (by kernel_rfl)) (by unfold Func.isWrapper; first | (rw [if_pos (by decide +kernel)]; kernel_rfl) | (rw [if_neg (by decide +kernel)]; exact ⟨rfl, rfl⟩))
    (fun os started H enc _ => RuChecks.lifted os started H enc)

theorem rulesChecksCard_holds : Rows.RulesChecksCardSaid :=
  Claim7.holds_tied_plain_at .later [] _ _ _ _
    rulesChecks_holds (fun _ h => by cases h) (by kernel_rfl) (fun _ h => by cases h) rulesChecks_row_tie rfl ⟨rfl, rfl⟩ (by kernel_rfl) rfl
    (fun f fn hf hfn => by
      obtain rfl : f = 3 := Option.some.inj ((show Tryz.prog.funcNamed "cartulary/cartularylaw13.RulesChecks" = some 3 by kernel_rfl).symm.trans hf) |>.symm
      obtain rfl : fn = Tryz.f3 := (Option.some.inj (Tryz.func3.symm.trans hfn)).symm
      exact ⟨by kernel_rfl, fun j t ht => by
        rw [Tryz.params3] at ht
        have h0 : ∀ (t : TypeId), t ∈ ([25] : List TypeId) → Tryz.prog.wantsStandIn t = false := by
          intro t ht
          simp only [List.mem_cons, List.not_mem_nil, or_false] at ht
          rcases ht with rfl <;> kernel_rfl
        exact h0 t (List.mem_of_getElem? (by simpa using ht))⟩)
    (by kernel_rfl)
#print axioms rulesChecksCard_holds
end Go.Proofs.YtingpmgpjmlioaaGreatDoor
