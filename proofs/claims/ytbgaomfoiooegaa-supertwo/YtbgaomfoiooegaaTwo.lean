/-
  SuperTwo: for every two slices of bytes it returns true, and its arguments read as before. Conditions: none.
-/
import Derived.Test.YtbgaomfoiooegaaSopen
namespace Go.Proofs.Ytbgaomfoiooegaa
open Go.ChangeShapes Go.WideShapes Go.ChangeAt Go.RowKit
set_option linter.unusedVariables false

set_option maxRecDepth 100000 in
set_option maxHeartbeats 3200000 in
theorem Two.walk (a : Option Addr) (c : Nat) (d : List UInt8) (x : Option Addr) (y : Nat) (f : List UInt8) (w : World) (hv : Sl w (.slice a d.length c) d) (hu : Sl w (.slice x f.length y) f) :
    Calls Try.prog 8 #[.slice a d.length c, .slice x f.length y] w fun e w' => e = .returned (.bool true) ∧ Below w.heap.size w w' := by
  have HV := hide hv
  have HU := hide hu
  clear hv hu
  by_cases hd : 400 < d.length ∨ 400 < f.length
  · by_cases hd1 : 400 < d.length
    · clear hd
      go_enter Try.func8, Try.ntmps8
      go_wp2_with fail
      refine (awake_any _).mono ?_
      rintro e w1 ⟨rfl, b1⟩
      have HB1 := hide b1
      clear b1
      go_wp2_with fail
      refine (New_run w w1 (unhide HB1)).mono ?_
      rintro e w2 ⟨rfl, r2, _⟩
      have R2 := hide r2
      clear r2
      go_wp2
      go_ret
      exact ⟨rfl, (unhide R2).bel⟩
    · have hd2 : 400 < f.length := by omega
      clear hd
      go_enter Try.func8, Try.ntmps8
      go_wp2_with fail
      refine (awake_any _).mono ?_
      rintro e w1 ⟨rfl, b1⟩
      have HB1 := hide b1
      clear b1
      go_wp2_with fail
      refine (New_run w w1 (unhide HB1)).mono ?_
      rintro e w2 ⟨rfl, r2, _⟩
      have R2 := hide r2
      clear r2
      go_wp2
      go_ret
      exact ⟨rfl, (unhide R2).bel⟩
  have hd1 : d.length ≤ 400 := by omega
  have hd2 : f.length ≤ 400 := by omega
  clear hd
  go_enter Try.func8, Try.ntmps8
  go_wp2_with fail
  refine (awake_any _).mono ?_
  rintro e w1 ⟨rfl, b1⟩
  have HB1 := hide b1
  clear b1
  go_wp2_with fail
  refine (New_run w w1 (unhide HB1)).mono ?_
  rintro e w2 ⟨rfl, r2, _⟩
  obtain ⟨b, hb⟩ : ∃ b, b = w1.heap.size + 2 := ⟨_, rfl⟩
  obtain ⟨F2, hF2⟩ : ∃ F2, F2 = (fun k => w1.heap.size ≤ k ∧ k < w2.heap.size) := ⟨_, rfl⟩
  rw [← hb, ← hF2] at r2
  rw [← hb]
  have R2 := hide r2
  clear r2 hb hF2 HB1
  have e0 : (St.new 64).rcd 0 = noSlot := new_rcd 0 (by omega)
  have e2 : (St.new 64).rcd 2 = noSlot := new_rcd 2 (by omega)
  go_wp2_with fail
  refine (Format_up (unhide R2) Up.new 0 (by omega) (by omega) a c d ((unhide R2).sl (unhide HV)) ((unhide R2).notF (unhide HV)) hd1).mono ?_
  rintro e w3 ⟨rfl, F3, T3, r3, p3, u3, _, _⟩
  have R3 := hide r3
  have x0 := p3.rec_
  have x2 := p3.apart (j := 2) (by decide) (by omega)
  clear r3 p3 e0
  rw [e2] at x2
  clear e2
  go_wp2_with fail
  refine (Format_up (unhide R3) u3 2 (by omega) (by omega) x y f ((unhide R3).sl (unhide HU)) ((unhide R3).notF (unhide HU)) hd2).mono ?_
  rintro e w4 ⟨rfl, F4, T4, r4, p4, u4, _, _⟩
  have R4 := hide r4
  have y2 := p4.rec_
  have y0 := p4.apart (j := 0) (by rw [u3.len]; decide) (by omega)
  rw [x0] at y0
  clear r4 p4 x0 x2
  go_wp2_with fail
  refine (Store_up (unhide R4) u4 0 (by omega) (by omega) x y f ((unhide R4).sl (unhide HU)) ((unhide R4).notF (unhide HU)) hd2 (by rw [y0]) (by rw [y0]; simp only; omega)).mono ?_
  rintro e w5 ⟨rfl, F5, T5, r5, p5, u5, _, _⟩
  have R5 := hide r5
  have z0 := p5.rec_
  have z2 := p5.apart (j := 2) (by rw [u4.len]; decide) (by omega)
  rw [y0] at z0
  rw [y2] at z2
  clear r5 p5 y0 y2
  go_wp2_with fail
  refine (Store_up (unhide R5) u5 2 (by omega) (by omega) a c d ((unhide R5).sl (unhide HV)) ((unhide R5).notF (unhide HV)) hd1 (by rw [z2]) (by rw [z2]; simp only; omega)).mono ?_
  rintro e w6 ⟨rfl, F6, T6, r6, p6, u6, _, _⟩
  have R6 := hide r6
  have s2 := p6.rec_
  have s0 := p6.apart (j := 0) (by rw [u5.len]; decide) (by omega)
  rw [z0] at s0
  rw [z2] at s2
  clear r6 p6 z0 z2
  go_wp2_with fail
  refine (Store_up (unhide R6) u6 2 (by omega) (by omega) x y f ((unhide R6).sl (unhide HU)) ((unhide R6).notF (unhide HU)) hd2 (by rw [s2]) (by rw [s2]; simp only; omega)).mono ?_
  rintro e w7 ⟨rfl, F7, T7, r7, p7, u7, _, _⟩
  have R7 := hide r7
  have t2 := p7.rec_
  have t0 := p7.apart (j := 0) (by rw [u6.len]; decide) (by omega)
  rw [s0] at t0
  rw [s2] at t2
  clear r7 p7 s0 s2
  go_wp2_with fail
  refine (Load_up (unhide R7) u7 0 (by omega) (by omega) (by rw [t0])).mono ?_
  rintro e w8 ⟨a8, n8, c8, rfl, l8, f8, r8, k8⟩
  have R8 := hide r8
  rw [t0] at l8 ⊢
  have L8 := hide l8
  have z8 := k8.size
  have nF : ∀ ad, a8 = some ad → ¬ F7 ad.block := fun ad h hf => by have := f8 ad h; have := (unhide R7).foot _ hf; omega
  clear r8 l8 f8 k8
  go_wp2_with fail
  refine (Load_up (unhide R8) u7.burn.burn 2 (by omega) (by omega) (by show (T7.rcd 2).laid = true; rw [t2])).mono ?_
  rintro e w9 ⟨a9, n9, c9, rfl, l9, f9, r9, k9⟩
  have R9 := hide r9
  have ht : T7.burn.burn.rcd 2 = T7.rcd 2 := rfl
  rw [ht, t2] at l9
  rw [ht, t2]
  have q8 := ((unhide L8).kept k9 nF).str
  have q9 := l9.str
  have qf := ((unhide R9).sl (unhide HU)).str
  clear r9 l9 f9 k9 ht
  go_wp2
  go_ret
  exact ⟨rfl, (unhide R9).bel⟩

set_option maxRecDepth 100000 in
theorem Two.lifted (os : Os) (started : os.Started) (H : Type) (enc : TypeId × Value → H) :
    ReturnsInHanded {} Try.checked os 8 .any (Rows.superTwoSpec.pre6 enc Try.prog Try.f8 Rows.superTwoRow.domain false) (Rows.superTwoSpec.post enc Try.prog Try.f8 false true false false) := by
  refine returnsInHanded_of_change (C := Try.checked) own_knob started (by kernel_rfl) Try.func8
    (ChangeSpec.witness6 (enc := enc) (C := Try.checked) false ⟨#[], #[.slice none 0 0, .slice none 0 0], []⟩ 8 (by kernel_rfl) (by kernel_rfl) (by kernel_rfl) (by kernel_rfl)) ?_
  intro W base args ds gs before hval0 hW hcnd _
  have hval : ∀ (j : Nat) t v, Try.f8.params[j]? = some t → args[j]? = some v → Value.okWide Try.prog W .any base t v := hval0
  have hW' := hW
  obtain ⟨p, q, hA0, hV, rfl, hfz, hnd⟩ := hW
  have hA : DataW.TrodAll enc Try.prog W 0 (fun _ => true) true Try.f8.params.toList args.toList ds p := hA0
  rw [Try.params8] at hA hval
  obtain ⟨v0, v1, d0, d1, p0, p1, rfl, rfl, rfl, h0, h1⟩ := trodAll_two hA
  obtain ⟨rfl, rfl⟩ := trodVars_none hV
  obtain ⟨a0, len0, cap0, rfl⟩ := okWide_slice Try.underlying22 (hval 0 22 v0 rfl rfl)
  obtain ⟨a1, len1, cap1, rfl⟩ := okWide_slice Try.underlying22 (hval 1 22 v1 rfl rfl)
  have k0 := h0
  have lt0 : ∀ x ∈ p0, x.block < W.heap.size := by obtain ⟨m, hm⟩ := k0; exact DataW.trod_lt m _ _ _ hm
  have k1 := h1
  have lt1 : ∀ x ∈ p1, x.block < W.heap.size := by obtain ⟨m, hm⟩ := k1; exact DataW.trod_lt m _ _ _ hm
  obtain ⟨l0, hl0, _⟩ := open_bytes h0
  obtain ⟨l1, hl1, _⟩ := open_bytes h1
  obtain rfl : len0 = l0.length := hl0.lenEq
  obtain rfl : len1 = l1.length := hl1.lenEq
  clear hA0 hval0
  refine (Two.walk a0 cap0 l0 a1 cap1 l1 W hl0 hl1).mono fun e W' ⟨he, bel⟩ => ?_
  subst he
  exact ⟨_, rfl, _, _, _, [], _, [], hW', trodAll_mk1 (shut_bool Try.underlying4 _), (trodAll_cons_mk (Below.trod laid_out (by kernel_rfl) (of_decide_eq_true (by kernel_rfl)) k0 bel lt0) (trodAll_cons_mk (Below.trod laid_out (by kernel_rfl) (of_decide_eq_true (by kernel_rfl)) k1 bel lt1) trodAll_mk0)), rfl, bel.frame _, fun h => by cases h⟩

theorem superTwo_holds : Rows.SuperTwoSaid :=
  OpenClaim.holds_of_wide 8 Try.f8 rfl rfl rfl rfl rfl rfl rfl ⟨rfl, rfl, rfl, rfl, rfl⟩ rfl rfl rfl rfl rfl (by kernel_rfl) Try.func8 (by kernel_rfl)
    (of_decide_eq_true (by kernel_rfl)) (by unfold Func.isWrapper; first | (rw [if_pos (by decide +kernel)]; kernel_rfl) | (rw [if_neg (by decide +kernel)]; exact ⟨rfl, rfl⟩))
    (fun os started H enc _ => Two.lifted os started H enc)
#print axioms superTwo_holds
end Go.Proofs.Ytbgaomfoiooegaa
