/-
  SuperHolds: for every two slices of bytes, every int and every two slices of ints it returns true, and its arguments read as before. Conditions: none.
-/
import Derived.Test.YtbgaomfoiooegaaSfuse
namespace Go.Proofs.Ytbgaomfoiooegaa
open Go.ChangeShapes Go.WideShapes Go.ChangeAt Go.RowKit
set_option linter.unusedVariables false

theorem Pick_12 (p : Int) (w : World) (p1 : -9223372036854775808 ≤ p) (p2 : p < 9223372036854775808) :
    Calls Try.prog 18 #[.int .i64 p, .int .i64 12] w fun e w' => e = .returned (.int .i64 (pickR p 11 : Nat)) ∧ w = w' := Pick_eq p 11 w p1 p2 (by omega)

/-- What the second store has made: its answer, whether the device is down, and what the record is behind the crash. -/
def HoldsOut (h : Int) (dn : Bool) (R : Slot) (o d : List UInt8) : Prop :=
  (h = 0 ∧ dn = false ∧ R.data = d ∧ R.count = 2) ∨ (h = 2 ∧ dn = true ∧ (R.data = o ∧ R.count = 1 ∨ R.data = d ∧ R.count = 2))

set_option maxRecDepth 100000 in
set_option maxHeartbeats 3200000 in
theorem Holds.walk (a : Option Addr) (c : Nat) (o : List UInt8) (x : Option Addr) (y : Nat) (d : List UInt8) (k : Int) (v1 v2 : Value) (ps qs : List Int) (w : World) (hv : Sl w (.slice a o.length c) o) (hu : Sl w (.slice x d.length y) d) (k1 : -9223372036854775808 ≤ k) (k2 : k < 9223372036854775808) (hp : Ints w v1 ps) (hq : Ints w v2 qs) :
    Calls Try.prog 4 #[.slice a o.length c, .slice x d.length y, .int .i64 k, v1, v2] w fun e w' => e = .returned (.bool true) ∧ Below w.heap.size w w' := by
  have HV := hide hv
  have HU := hide hu
  have HP := hide hp
  have HQ := hide hq
  clear hv hu hp hq
  have kc := fun (w : World) (C : Array Value) (n c : Nat) => Lib.run_convert_bytes_const (P := Try.prog) w 22 5 C n c Try.underlying22 Try.underlying5
  by_cases hd : 400 < o.length ∨ 400 < d.length
  · by_cases hd1 : 400 < o.length
    · clear hd
      go_enter Try.func4, Try.ntmps4
      go_wp2_with fail
      refine (awake_any _).mono ?_
      rintro e w1 ⟨rfl, b1⟩
      have HB1 := hide b1
      clear b1
      go_wp2_with fail
      refine (New_run w w1 (unhide HB1)).mono ?_
      rintro e w2 ⟨rfl, r2, _⟩
      have R2 := hide r2
      clear r2
      go_wp2
      go_ret
      exact ⟨rfl, (unhide R2).bel⟩
    · have hd2 : 400 < d.length := by omega
      clear hd
      go_enter Try.func4, Try.ntmps4
      go_wp2_with fail
      refine (awake_any _).mono ?_
      rintro e w1 ⟨rfl, b1⟩
      have HB1 := hide b1
      clear b1
      go_wp2_with fail
      refine (New_run w w1 (unhide HB1)).mono ?_
      rintro e w2 ⟨rfl, r2, _⟩
      have R2 := hide r2
      clear r2
      go_wp2
      go_ret
      exact ⟨rfl, (unhide R2).bel⟩
  have hd1 : o.length ≤ 400 := by omega
  have hd2 : d.length ≤ 400 := by omega
  clear hd
  go_enter Try.func4, Try.ntmps4
  go_wp2_with fail
  refine (awake_any _).mono ?_
  rintro e w1 ⟨rfl, b1⟩
  have HB1 := hide b1
  clear b1
  go_wp2_with fail
  refine (New_run w w1 (unhide HB1)).mono ?_
  rintro e w2 ⟨rfl, r2, _⟩
  obtain ⟨b, hb⟩ : ∃ b, b = w1.heap.size + 2 := ⟨_, rfl⟩
  obtain ⟨F2, hF2⟩ : ∃ F2, F2 = (fun k => w1.heap.size ≤ k ∧ k < w2.heap.size) := ⟨_, rfl⟩
  rw [← hb, ← hF2] at r2
  rw [← hb]
  have R2 := hide r2
  clear r2 hb hF2 HB1
  go_wp2_with fail
  refine (Format_up ((unhide R2).grown ((Below.refl _ _).alloc (Nat.le_refl _) _)) Up.new 7 (by omega) (by omega) _ 5 [102, 105, 114, 115, 116] (Sl.new w2 [102, 105, 114, 115, 116] (by simp [maxLen]) (5, 6)) ((unhide R2).newF 5 0) (by decide)).mono ?_
  rintro e w3 ⟨rfl, F3, T3, r3, p3, u3, _, _⟩
  have R3 := hide r3
  have x3 := p3.rec_
  clear r3 p3
  go_wp2_with fail
  refine (Store_up (unhide R3) u3 7 (by omega) (by omega) a c o ((unhide R3).sl (unhide HV)) ((unhide R3).notF (unhide HV)) hd1 (by rw [x3]) (by rw [x3]; simp only; omega)).mono ?_
  rintro e w4 ⟨rfl, F4, T4, r4, p4, u4, _, _⟩
  have R4 := hide r4
  have x4 := p4.rec_
  have P4 := hide p4.pend
  rw [x3] at x4
  clear r4 p4 x3
  go_wp2_with fail
  refine (Pick_12 k w4 k1 k2).mono ?_
  rintro e w5 ⟨rfl, rfl⟩
  have hpk := pickR_lt k 11
  obtain ⟨m, hm⟩ : ∃ m, m = pickR k 11 := ⟨_, rfl⟩
  rw [← hm] at hpk ⊢
  clear hm
  go_wp2_with fail
  refine (Fuse_run (unhide R4) (m : Int) (by omega) (by omega)).mono ?_
  rintro e w6 ⟨rfl, r6, _⟩
  rw [u4.up]
  have R6 := hide r6
  have l6 : (T4.fuseK m).safe.length = 64 := by rw [St.fuseK_len]; exact u4.len
  have x6 : (T4.fuseK m).rcd 7 = T4.rcd 7 := St.fuseK_rcd _ _ _
  rw [x4] at x6
  have y6 : (T4.fuseK m).down = false := by rw [St.fuseK_down]; exact u4.up
  have z6 : (T4.fuseK m).calm 7 := by unfold St.calm; rw [St.fuseK_pend]; exact ⟨unhide P4 7, unhide P4 8⟩
  have HC : Hid (∃ h T, (T4.fuseK m).store 7 d = (h, T) ∧ T.safe.length = 64 ∧ (T.crash ps).rcd 7 = (T.crash ps).rcd 7 ∧ ((T.crash ps).rcd 7).laid = true ∧ HoldsOut h T.down ((T.crash ps).rcd 7) o d) := hide (by
    refine ⟨((T4.fuseK m).store 7 d).1, ((T4.fuseK m).store 7 d).2, rfl, ?_⟩
    rcases store_cases l6 7 (by omega) y6 z6 (by rw [x6]) (by rw [x6]; simp only; omega) d hd2 with ⟨h1, h2⟩ | ⟨h1, h2, h3, h4⟩
    · have hcl : ((T4.fuseK m).store 7 d).2.calm 7 := ⟨h2.pend 7, h2.pend 8⟩
      have hr := (crash_rcd hcl (by rw [h2.len, l6]; omega) ps).trans h2.rec_
      rw [x6] at hr
      exact ⟨h2.len.trans l6, rfl, by rw [hr], .inl ⟨h1, h2.up, by rw [hr], by rw [hr]; rfl⟩⟩
    · refine ⟨h3, rfl, ?_, .inr ⟨h1, h2, ?_⟩⟩
      · rcases h4 ps with h | h <;> rw [h]
        rw [x6]
      · rcases h4 ps with h | h
        · left; rw [h, x6]; exact ⟨rfl, rfl⟩
        · right; rw [h, x6]; exact ⟨rfl, rfl⟩)
  obtain ⟨h, T, hT, lT, _, laT, out⟩ := unhide HC
  have HT := hide hT
  have HO := hide out
  have hc6 : ((T4.fuseK m).rcd 7).count < 9223372036854775807 := by rw [x6]; simp only; omega
  clear r6 HC hT out x6 y6 z6 x4 u4 hpk
  go_wp2_with fail
  refine (Store_run (unhide R6) l6 7 (by omega) (by omega) x y d ((unhide R6).sl (unhide HU)) ((unhide R6).notF (unhide HU)) hd2 hc6).mono ?_
  rintro e w7 ⟨rfl, F7, r7, _, _⟩
  rw [unhide HT] at r7 ⊢
  have R7 := hide r7
  clear r7 hc6 l6
  simp only
  go_wp2_with fail
  refine (Down_run (unhide R7)).mono ?_
  rintro e w8 ⟨rfl, rfl⟩
  go_wp2_with fail
  refine (Crash_run (unhide R7) (by omega) ps v1 (unhide HP)).mono ?_
  rintro e w9 ⟨rfl, r9, _⟩
  have R9 := hide r9
  clear r9
  go_wp2_with fail
  refine (Load_up (unhide R9) (Up.crash T ps lT) 7 (by omega) (by omega) laT).mono ?_
  rintro e w10 ⟨a10, n10, c10, rfl, l10, f10, r10, k10⟩
  have R10 := hide r10
  have L10 := hide l10
  have z10 := k10.size
  have nF : ∀ ad, a10 = some ad → ¬ F7 ad.block := fun ad h hf => by have := f10 ad h; have := (unhide R9).foot _ hf; omega
  obtain ⟨Rc, hRc⟩ : ∃ Rc, Rc = (T.crash ps).rcd 7 := ⟨_, rfl⟩
  have U := Up.crash T ps lT
  have E12 : Hid (((T.crash ps).burn.burn.crash qs).rcd 7 = Rc) := hide (by
    rw [hRc]
    exact crash_rcd (S := (T.crash ps).burn.burn) ⟨rfl, rfl⟩ (by show 7 + 1 < (T.crash ps).safe.length; rw [U.len]; omega) qs)
  rw [← hRc] at L10 HO laT ⊢
  clear r10 l10 f10 k10 hRc
  go_wp2_with fail
  refine (Crash_run (unhide R10) (by omega) qs v2 (unhide HQ)).mono ?_
  rintro e w11 ⟨rfl, r11, k11⟩
  have R11 := hide r11
  have L11 := hide ((unhide L10).kept k11 nF)
  clear r11 k11
  go_wp2_with fail
  refine (Load_up (unhide R11) (Up.crash _ qs U.len) 7 (by omega) (by omega) (by rw [unhide E12]; exact laT)).mono ?_
  rintro e w12 ⟨a12, n12, c12, rfl, l12, f12, r12, k12⟩
  rw [unhide E12] at l12 ⊢
  have R12 := hide r12
  have q10 := ((unhide L11).kept k12 nF).str
  have q12 := l12.str
  have qo := ((unhide R12).sl (unhide HV)).str
  have qd := ((unhide R12).sl (unhide HU)).str
  clear r12 l12 f12 k12 U laT lT nF
  rcases unhide HO with ⟨rfl, hdn, hR1, hR2⟩ | ⟨rfl, hdn, ⟨hR1, hR2⟩ | ⟨hR1, hR2⟩⟩
  · rw [hR1] at q10 q12
    rw [hR2, hdn]
    clear hdn hR1 hR2
    by_cases hod : d = o
    · subst hod
      go_wp2
      go_ret
      exact ⟨rfl, (unhide R12).bel⟩
    · go_wp2
      go_ret
      exact ⟨rfl, (unhide R12).bel⟩
  · rw [hR1] at q10 q12
    rw [hR2, hdn]
    clear hdn hR1 hR2
    by_cases hod : o = d
    · subst hod
      go_wp2
      go_ret
      exact ⟨rfl, (unhide R12).bel⟩
    · go_wp2
      go_ret
      exact ⟨rfl, (unhide R12).bel⟩
  · rw [hR1] at q10 q12
    rw [hR2, hdn]
    clear hdn hR1 hR2
    by_cases hod : d = o
    · subst hod
      go_wp2
      go_ret
      exact ⟨rfl, (unhide R12).bel⟩
    · go_wp2
      go_ret
      exact ⟨rfl, (unhide R12).bel⟩

set_option maxRecDepth 100000 in
theorem Holds.lifted (os : Os) (started : os.Started) (H : Type) (enc : TypeId × Value → H) :
    ReturnsInHanded {} Try.checked os 4 .any (Rows.superHoldsSpec.pre6 enc Try.prog Try.f4 Rows.superHoldsRow.domain false) (Rows.superHoldsSpec.post enc Try.prog Try.f4 false true false false) := by
  refine returnsInHanded_of_change (C := Try.checked) own_knob started (by kernel_rfl) Try.func4
    (ChangeSpec.witness6 (enc := enc) (C := Try.checked) false ⟨#[], #[.slice none 0 0, .slice none 0 0, .int .i64 0, .slice none 0 0, .slice none 0 0], []⟩ 8 (by kernel_rfl) (by kernel_rfl) (by kernel_rfl) (by kernel_rfl)) ?_
  intro W base args ds gs before hval0 hW hcnd _
  have hval : ∀ (j : Nat) t v, Try.f4.params[j]? = some t → args[j]? = some v → Value.okWide Try.prog W .any base t v := hval0
  have hW' := hW
  obtain ⟨p, q, hA0, hV, rfl, hfz, hnd⟩ := hW
  have hA : DataW.TrodAll enc Try.prog W 0 (fun _ => true) true Try.f4.params.toList args.toList ds p := hA0
  rw [Try.params4] at hA hval
  obtain ⟨v0, vs0, d0, ds0, p0, q0, e0, rfl, rfl, h0, hA⟩ := trodAll_cons hA
  obtain ⟨v1, vs1, d1, ds1, p1, q1, rfl, rfl, rfl, h1, hA⟩ := trodAll_cons hA
  obtain ⟨v2, vs2, d2, ds2, p2, q2, rfl, rfl, rfl, h2, hA⟩ := trodAll_cons hA
  obtain ⟨v3, vs3, d3, ds3, p3, q3, rfl, rfl, rfl, h3, hA⟩ := trodAll_cons hA
  obtain ⟨v4, vs4, d4, ds4, p4, q4, rfl, rfl, rfl, h4, hA⟩ := trodAll_cons hA
  obtain ⟨rfl, rfl, rfl⟩ := trodAll_nil hA
  obtain rfl : args = #[v0, v1, v2, v3, v4] := by cases args; simp_all
  obtain ⟨rfl, rfl⟩ := trodVars_none hV
  obtain ⟨a0, len0, cap0, rfl⟩ := okWide_slice Try.underlying22 (hval 0 22 v0 rfl rfl)
  obtain ⟨a1, len1, cap1, rfl⟩ := okWide_slice Try.underlying22 (hval 1 22 v1 rfl rfl)
  obtain ⟨x, rfl, rfl, rfl, wx⟩ := open_int Try.underlying3 (hval 2 3 v2 rfl rfl) h2
  obtain ⟨a3, len3, cap3, rfl⟩ := okWide_slice Try.underlying35 (hval 3 35 v3 rfl rfl)
  obtain ⟨a4, len4, cap4, rfl⟩ := okWide_slice Try.underlying35 (hval 4 35 v4 rfl rfl)
  have k0 := h0
  have lt0 : ∀ x ∈ p0, x.block < W.heap.size := by obtain ⟨m, hm⟩ := k0; exact DataW.trod_lt m _ _ _ hm
  have k1 := h1
  have lt1 : ∀ x ∈ p1, x.block < W.heap.size := by obtain ⟨m, hm⟩ := k1; exact DataW.trod_lt m _ _ _ hm
  have k3 := h3
  have lt3 : ∀ x ∈ p3, x.block < W.heap.size := by obtain ⟨m, hm⟩ := k3; exact DataW.trod_lt m _ _ _ hm
  have k4 := h4
  have lt4 : ∀ x ∈ p4, x.block < W.heap.size := by obtain ⟨m, hm⟩ := k4; exact DataW.trod_lt m _ _ _ hm
  obtain ⟨l0, hl0, _⟩ := open_bytes h0
  obtain ⟨l1, hl1, _⟩ := open_bytes h1
  obtain ⟨l3, hl3⟩ := open_intl h3
  obtain ⟨l4, hl4⟩ := open_intl h4
  obtain rfl : len0 = l0.length := hl0.lenEq
  obtain rfl : len1 = l1.length := hl1.lenEq
  have bx := bounds_i64 wx
  clear hA0 hval0
  refine (Holds.walk a0 cap0 l0 a1 cap1 l1 x _ _ l3 l4 W hl0 hl1 (by omega) (by omega) hl3 hl4).mono fun e W' ⟨he, bel⟩ => ?_
  subst he
  exact ⟨_, rfl, _, _, _, [], _, [], hW', trodAll_mk1 (shut_bool Try.underlying4 _), (trodAll_cons_mk (Below.trod laid_out (by kernel_rfl) (of_decide_eq_true (by kernel_rfl)) k0 bel lt0) (trodAll_cons_mk (Below.trod laid_out (by kernel_rfl) (of_decide_eq_true (by kernel_rfl)) k1 bel lt1) (trodAll_cons_mk (shut_int Try.underlying3 wx) (trodAll_cons_mk (Below.trod laid_out (by kernel_rfl) (of_decide_eq_true (by kernel_rfl)) k3 bel lt3) (trodAll_cons_mk (Below.trod laid_out (by kernel_rfl) (of_decide_eq_true (by kernel_rfl)) k4 bel lt4) trodAll_mk0))))), rfl, bel.frame _, fun h => by cases h⟩

theorem superHolds_holds : Rows.SuperHoldsSaid :=
  OpenClaim.holds_of_wide 4 Try.f4 rfl rfl rfl rfl rfl rfl rfl ⟨rfl, rfl, rfl, rfl, rfl⟩ rfl rfl rfl rfl rfl (by kernel_rfl) Try.func4 (by kernel_rfl)
    (of_decide_eq_true (by kernel_rfl)) (by unfold Func.isWrapper; first | (rw [if_pos (by decide +kernel)]; kernel_rfl) | (rw [if_neg (by decide +kernel)]; exact ⟨rfl, rfl⟩))
    (fun os started H enc _ => Holds.lifted os started H enc)
#print axioms superHolds_holds
end Go.Proofs.Ytbgaomfoiooegaa
