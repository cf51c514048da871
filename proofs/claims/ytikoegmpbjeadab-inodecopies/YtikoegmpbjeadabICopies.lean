/-
  InodeCopies: for every slice of ints and every two ints it returns true, and its arguments read as before. Conditions: none.
-/
import Derived.Test.YtikoegmpbjeadabIcut2
import Derived.Test.YtikoegmpbjeadabIgrown
namespace Go.Proofs.Ytikoegmpbjeadab
open Go.ChangeShapes Go.WideShapes Go.ChangeAt Go.RowKit
set_option linter.unusedVariables false

set_option maxRecDepth 100000 in
set_option maxHeartbeats 8000000 in
theorem Copies.walk (vs : Value) (sz : List Int) (gap cut : Int) (w : World) (hs : Ints w vs sz) (hgap : I64 gap) (hcut0 : I64 cut) :
    Calls Try.prog 4 #[vs, .int .i64 gap, .int .i64 cut] w fun e w' => e = .returned (.bool true) ∧ Below w.heap.size w w' := by
  have HI := hide hs
  obtain ⟨a1, b1⟩ := hcut0
  clear hs
  go_enter Try.func4, Try.ntmps4
  go_wp2_with fail
  refine (awake_ok _).mono ?_
  rintro e w1 ⟨rfl, g1⟩
  have G1 := hide g1
  clear g1
  go_wp2_with fail
  refine (grown_any w1 vs sz gap ((unhide HI).kept (unhide G1)) hgap).mono ?_
  rintro e w2 ⟨b, n, vn, vl, L, rfl, hb, m2, l2, hn, g2⟩
  have M2 := hide m2
  have G2 : Hid (w.grownBy w2 none) := hide ((unhide G1).trans g2)
  have HB : Hid (w.heap.size ≤ b) := hide (Nat.le_trans (unhide G1).size hb)
  have hnI : (n : Int) ≤ 23980 := by omega
  clear m2 l2 g2 hb G1
  go_wp2_with fail
  refine (Bytes_any w2 b n vn L (unhide M2)).mono ?_
  rintro e w3 ⟨u3, rfl, o3, g3⟩
  have M3 := hide ((unhide M2).grown g3)
  have G3 : Hid (w.grownBy w3 none) := hide ((unhide G2).trans g3)
  have st3 := o3.sl.str
  clear o3 g3 M2 G2
  go_wp2_with fail
  clear st3
  refine (Copy_any w3 b n vn L (unhide M3)).mono ?_
  rintro e w4 ⟨c, vc, rfl, hc, m4, _, g4⟩
  have C4 := hide m4
  have M4 := hide ((unhide M3).grown g4)
  have G4 : Hid (w.grownBy w4 none) := hide ((unhide G3).trans g4)
  have HBC : Hid (b ≠ c) := hide (by have := (unhide M3).lt; omega)
  have HC : Hid (w.heap.size ≤ c) := hide (by have := (unhide G3).size; omega)
  clear m4 g4 M3 G3 hc
  go_wp2_with fail
  refine (Bytes_any w4 c n vc L (unhide C4)).mono ?_
  rintro e w5 ⟨u5, rfl, o5, g5⟩
  have M5 := hide ((unhide M4).grown g5)
  have C5 := hide ((unhide C4).grown g5)
  have G5 : Hid (w.grownBy w5 none) := hide ((unhide G4).trans g5)
  have st5 := o5.sl.str
  clear o5 g5 M4 C4 G4
  go_wp2_with fail
  clear st5
  refine (Size_any w5 c n vc L (unhide C5)).mono ?_
  rintro e w5' ⟨rfl, rfl⟩
  go_wp2_with fail
  refine (Pick_any cut ((n : Int) + 1) w5' a1 b1 (by omega) (by omega)).mono ?_
  rintro e w5'' ⟨k, rfl, hk, rfl⟩
  go_wp2_with fail
  refine (Cut_ok w5' c n vc L (unhide C5) k (by omega)).mono ?_
  rintro e w6 ⟨vd, vg, rfl, m6, _, _, g6⟩
  have C6 := hide m6
  have M6 := hide ((unhide M5).beside (unhide C5) g6 (unhide HBC))
  have G6 := hide (own_step (unhide G5) (unhide HC) g6)
  obtain ⟨L', hL'⟩ : ∃ L', L' = L.take (bf k) := ⟨_, rfl⟩
  rw [← hL'] at C6
  clear m6 g6 M5 C5 G5 hL'
  go_wp2_with fail
  refine (Bytes_any w6 c k vd L' (unhide C6)).mono ?_
  rintro e w7 ⟨u7, rfl, o7, g7⟩
  have M7 := hide ((unhide M6).grown g7)
  have C7 := hide ((unhide C6).grown g7)
  have G7 : Hid (w.grownBy w7 none) := hide ((unhide G6).trans g7)
  have st7 := o7.sl.str
  clear o7 g7 M6 C6 G6
  go_wp2_with fail
  clear st7
  refine (Runs_any w7 b n vn L (unhide M7)).mono ?_
  rintro e w8 ⟨u8, rfl, o8, g8⟩
  have HX : Hid (∃ xs, ROwn w8 w7.heap.size u8 xs ∧ xs.length = (canon L).length) := hide ⟨_, o8, rfl⟩
  have G8 := hide g8
  have hln := (unhide M7).small.2
  obtain ⟨ro, rcap, rfl, _⟩ := o8.form
  obtain ⟨q, hq⟩ : ∃ q, q = (canon L).length := ⟨_, rfl⟩
  rw [← hq] at HX hln ⊢
  clear o8 g8 hq
  have hqI : (q : Int) ≤ 64 := by omega
  go_wp2
  go_loopw [15] (fun i wr => ∃ (j : Nat) (xs : List (Nat × Nat)), i = .int .i64 (j : Int) ∧ j ≤ q ∧ ROwn wr w7.heap.size (.slice ro q rcap) xs ∧ xs.length = q ∧ w7.grownBy wr none) (fun i _ => q - (intOf i).toNat)
  case atStart =>
    obtain ⟨xs, h1, h2⟩ := unhide HX
    exact ⟨0, xs, rfl, by omega, h1, h2, unhide G8⟩
  case round =>
    obtain ⟨j, xs, rfl, hj, ho, hxl, hg⟩ := hrel
    have HO := hide ho
    have HG := hide hg
    have HXl := hide hxl
    clear ho hg hxl HX G8
    by_cases hlt : j < q
    · have hlt' : (j : Int) < (q : Int) := by omega
      have hjx : j < xs.length := by rw [unhide HXl]; exact hlt
      obtain ⟨ao', cap', e, _, _, h4⟩ := (unhide HO).form
      injection e with e1 e2 e3
      obtain ⟨g, hro, hgb, hgl, hcell⟩ := h4 (by omega)
      rw [← e1] at hro
      subst hro
      clear e1 e2 e3 h4
      obtain ⟨d0, d1⟩ := hcell j hjx
      obtain ⟨_, cur, hcur⟩ := (unhide HO).row (q := g) rfl
      have f0 : wr.frozen? ⟨g, j * 2, none⟩ = false := by simp [World.frozen?, hcur]
      have f1 : wr.frozen? ⟨g, j * 2 + 1, none⟩ = false := by simp [World.frozen?, hcur]
      have HO2 : Hid (ROwn ((wr.setCell ⟨g, j * 2, none⟩ (.int .i64 1)).setCell ⟨g, j * 2 + 1, none⟩ (.int .i64 1)) w7.heap.size (.slice (some ⟨g, 0, none⟩) q rcap) ((xs.set j (1, (xs[j]).2)).set j ((xs.set j (1, (xs[j]).2))[j]'(by simpa using hjx) |>.1, 1))) := hide (((unhide HO).set0 j 1 hjx).set1 j 1 (by simpa using hjx))
      have HG2 : Hid (w7.grownBy ((wr.setCell ⟨g, j * 2, none⟩ (.int .i64 1)).setCell ⟨g, j * 2 + 1, none⟩ (.int .i64 1)) none) := hide (own_step (unhide HG) hgb ((setCell_grown _ _ _ _).trans (setCell_grown _ _ _ _)))
      clear hcell hcur HO HG
      go_wp2
      go_roundw
      case rel => exact ⟨j + 1, _, rfl, by omega, unhide HO2, by simpa using unhide HXl, unhide HG2⟩
      case measure => simp [intOf]; omega
    · have hlt' : ¬ (j : Int) < (q : Int) := by omega
      have M8 := hide ((unhide M7).grown (unhide HG))
      have C8 := hide ((unhide C7).grown (unhide HG))
      have G9 : Hid (w.grownBy wr none) := hide ((unhide G7).trans (unhide HG))
      clear M7 C7 G7 HG HO
      go_wp2_with fail
      refine (Cut_ok wr b n vn L (unhide M8) 0 (by omega)).mono ?_
      rintro e w10 ⟨va, vx, rfl, m10, _, _, g10⟩
      have M10 := hide m10
      have C10 := hide ((unhide C8).beside (unhide M8) g10 (unhide HBC).symm)
      have G10 := hide (own_step (unhide G9) (unhide HB) g10)
      clear m10 g10 M8 C8 G9
      go_wp2_with fail
      refine (Bytes_any w10 c k vd L' (unhide C10)).mono ?_
      rintro e w11 ⟨u11, rfl, o11, g11⟩
      have M11 := hide ((unhide M10).grown g11)
      have G11 : Hid (w.grownBy w11 none) := hide ((unhide G10).trans g11)
      have st11 := o11.sl.str
      clear o11 g11 M10 C10 G10
      go_wp2_with fail
      refine (Size_any w11 b 0 va _ (unhide M11)).mono ?_
      rintro e w12 ⟨rfl, rfl⟩
      go_wp2
      go_ret
      exact ⟨by simp, below_of_grown (unhide G11)⟩

set_option maxRecDepth 100000 in
theorem Copies.lifted (os : Os) (started : os.Started) (H : Type) (enc : TypeId × Value → H) :
    ReturnsInHanded {} Try.checked os 4 .any (Rows.inodeCopiesSpec.pre6 enc Try.prog Try.f4 Rows.inodeCopiesRow.domain false) (Rows.inodeCopiesSpec.post enc Try.prog Try.f4 false true false false) := by
  refine returnsInHanded_of_change (C := Try.checked) own_knob started (by kernel_rfl) Try.func4
    (ChangeSpec.witness6 (enc := enc) (C := Try.checked) false ⟨#[], #[.slice none 0 0, .int .i64 0, .int .i64 0], []⟩ 8 (by kernel_rfl) (by kernel_rfl) (by kernel_rfl) (by kernel_rfl)) ?_
  intro W base args ds gs before hval0 hW hcnd _
  have hval : ∀ (j : Nat) t v, Try.f4.params[j]? = some t → args[j]? = some v → Value.okWide Try.prog W .any base t v := hval0
  have hW' := hW
  obtain ⟨p, q, hA0, hV, rfl, hfz, hnd⟩ := hW
  have hA : DataW.TrodAll enc Try.prog W 0 (fun _ => true) true Try.f4.params.toList args.toList ds p := hA0
  rw [Try.params4] at hA hval
  obtain ⟨v0, v1, v2, d0, d1, d2, p0, p1, p2, rfl, rfl, rfl, h0, h1, h2⟩ := trodAll_three hA
  obtain ⟨rfl, rfl⟩ := trodVars_none hV
  obtain ⟨a1, rfl, rfl, rfl, w1⟩ := open_int Try.underlying3 (hval 1 3 v1 rfl rfl) h1
  obtain ⟨a2, rfl, rfl, rfl, w2⟩ := open_int Try.underlying3 (hval 2 3 v2 rfl rfl) h2
  have k0 := h0
  have lt0 : ∀ x ∈ p0, x.block < W.heap.size := by obtain ⟨m, hm⟩ := k0; exact DataW.trod_lt m _ _ _ hm
  obtain ⟨a0, len0, cap0, rfl⟩ := okWide_slice Try.underlying22 (hval 0 22 v0 rfl rfl)
  obtain ⟨l0, hl0⟩ := open_intl h0
  have b1 := bounds_i64 w1
  have b2 := bounds_i64 w2
  clear hA0 hval0
  refine (Copies.walk _ l0 a1 a2 W hl0 ⟨by omega, by omega⟩ ⟨by omega, by omega⟩).mono fun e W' ⟨he, bel⟩ => ?_
  subst he
  exact ⟨_, rfl, _, _, _, [], _, [], hW', trodAll_mk1 (shut_bool Try.underlying4 _), (trodAll_cons_mk (Below.trod laid_out (by kernel_rfl) (of_decide_eq_true (by kernel_rfl)) k0 bel lt0) (trodAll_cons_mk (shut_int Try.underlying3 w1) (trodAll_cons_mk (shut_int Try.underlying3 w2) trodAll_mk0))), rfl, bel.frame _, fun h => by cases h⟩

theorem inodeCopies_holds : Rows.InodeCopiesSaid :=
  OpenClaim.holds_of_wide 4 Try.f4 rfl rfl rfl rfl rfl rfl rfl ⟨rfl, rfl, rfl, rfl, rfl⟩ rfl rfl rfl rfl rfl (by kernel_rfl) Try.func4 (by kernel_rfl)
    (of_decide_eq_true (by kernel_rfl)) (by unfold Func.isWrapper; first | (rw [if_pos (by decide +kernel)]; kernel_rfl) | (rw [if_neg (by decide +kernel)]; exact ⟨rfl, rfl⟩))
    (fun os started H enc _ => Copies.lifted os started H enc)
#print axioms inodeCopies_holds
end Go.Proofs.Ytikoegmpbjeadab
