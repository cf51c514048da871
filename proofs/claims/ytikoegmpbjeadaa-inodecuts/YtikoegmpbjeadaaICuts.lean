/-
  InodeCuts: for every four ints it returns true. Conditions: none.
-/
import Derived.Test.YtikoegmpbjeadaaIcut2
import Derived.Test.YtikoegmpbjeadaaIgrown
import Derived.Deep.Cut
import Derived.Deep.CutRange
namespace Go.Proofs.Ytikoegmpbjeadaa
open Go.ChangeShapes Go.WideShapes Go.ChangeAt Go.RowKit
set_option linter.unusedVariables false

theorem Need_new (w : World) (b : Nat) (v : Value) (h : NdAt w b 0 v []) (m : Nat) (hm : m ≤ 32768) : Calls Try.prog 18 #[.pointer (some ⟨b, 0, none⟩), .int .i64 (m : Int)] w fun e w' => e = .returned (.tuple #[.int .i64 ((bf m : Nat) : Int), .int .i64 0]) ∧ w' = w := by
  refine (Need_ok w b 0 v [] h m (by omega)).mono fun e w' h => ?_
  rw [show bf (0 + m) - bf 0 = bf m by rw [Nat.zero_add]; unfold bf; omega] at h
  exact h
/-- Extend with runs of one's own. -/
theorem Extend_own (w : World) (b n m base : Nat) (v u : Value) (L : List Nat) (Y : List (Nat × Nat)) (h : NdAt w b n v L) (hm : n + m ≤ 32768) (hu : ROwn w base u Y) (hY : ∀ y ∈ Y, 0 < y.2 ∧ y.1 + y.2 ≤ 512) (ht : tot Y = bf (n + m) - bf n) :
    Calls Try.prog 19 #[.pointer (some ⟨b, 0, none⟩), .int .i64 (m : Int), u] w fun e w' => ∃ v', e = .returned (.int .i64 0) ∧ NdAt w' b (n + m) v' (L ++ bks Y) ∧ ROwn w' base u Y ∧ w.grownBy w' (some b) := by
  refine (Extend_ok w b n m v u L Y h hm (hu.rn fun x hx => by have := hY x hx; omega) hY ht).mono ?_
  rintro e w' ⟨rfl, v', h1, _, h3⟩
  exact ⟨v', rfl, h1, hu.far h h3, h3⟩
theorem canon_runs {Y : List (Nat × Nat)} (h : Y = [] ∨ ∃ x, Y = [x] ∧ 0 < x.2) : canon (bks Y) = Y := by
  rcases h with rfl | ⟨x, rfl, hx⟩
  · rfl
  · exact canon_of hx rfl
/-- Cut back to what was there ahead of the last Extend. -/
theorem Cut_back (w : World) (b n m : Nat) (v : Value) (L : List Nat) (Y : List (Nat × Nat)) (h : NdAt w b (n + m) v (L ++ bks Y)) (hl : L.length = bf n) (hY : Y = [] ∨ ∃ x, Y = [x] ∧ 0 < x.2) :
    Calls Try.prog 24 #[.pointer (some ⟨b, 0, none⟩), .int .i64 (n : Int)] w fun e w' => ∃ a c, e = .returned (.tuple #[c, .int .i64 0]) ∧ NdAt w' b n a L ∧ ROwn w' w.heap.size c Y ∧ w.grownBy w' (some b) := by
  refine (Cut_ok w b (n + m) v _ h n (by omega)).mono ?_
  rintro e w' ⟨a, c, rfl, h1, h2, _, h4⟩
  rw [← hl, List.take_left] at h1
  rw [← hl, List.drop_left, canon_runs hY] at h2
  exact ⟨a, c, rfl, h1, h2, h4⟩

set_option maxRecDepth 100000 in
set_option maxHeartbeats 8000000 in
theorem Cuts.walk (x0 x1 x2 x3 : Int) (w : World) (h0 : I64 x0) (h1 : I64 x1) (h2 : I64 x2) :
    Calls Try.prog 6 #[.int .i64 x0, .int .i64 x1, .int .i64 x2, .int .i64 x3] w fun e w' => e = .returned (.bool true) ∧ Below w.heap.size w w' := by
  obtain ⟨a0, b0⟩ := h0
  obtain ⟨a1, b1⟩ := h1
  obtain ⟨a2, b2⟩ := h2
  go_enter Try.func6, Try.ntmps6
  go_wp2_with fail
  refine (awake_ok _).mono ?_
  rintro e w1 ⟨rfl, g1⟩
  have G1 := hide g1
  clear g1
  go_wp2_with fail
  refine (New_any w1).mono ?_
  rintro e w2 ⟨rfl, m2, g2⟩
  have HB : Hid (w.heap.size ≤ w1.heap.size) := hide (unhide G1).size
  obtain ⟨b, hb⟩ : ∃ b, b = w1.heap.size := ⟨_, rfl⟩
  rw [← hb] at m2 HB ⊢
  have M2 := hide m2
  have G2 : Hid (w.grownBy w2 none) := hide ((unhide G1).trans g2)
  clear hb m2 g2 G1
  go_wp2_with fail
  refine (Pick_any x0 20000 w2 a0 b0 (by omega) (by omega)).mono ?_
  rintro e w2' ⟨f, rfl, hf, rfl⟩
  go_wp2_with fail
  refine (Pick_any x2 12000 w2 a2 b2 (by omega) (by omega)).mono ?_
  rintro e w2' ⟨m, rfl, hm, rfl⟩
  go_wp2_with fail
  refine (Need_new w2 b _ (unhide M2) f (by omega)).mono ?_
  rintro e w2' ⟨rfl, rfl⟩
  have hk40 : bf f ≤ 40 := by unfold bf; omega
  have hkf : bf f = 0 → f = 0 := by unfold bf; omega
  have HF : Hid (bf f = bf (0 + f) - bf 0) := hide (by rw [Nat.zero_add]; unfold bf; omega)
  obtain ⟨k, hk⟩ : ∃ k, k = bf f := ⟨_, rfl⟩
  rw [← hk] at hk40 hkf HF ⊢
  have HK := hide hk
  clear hk
  have hkI : (k : Int) ≤ 40 := by omega
  have hmI : (m : Int) < 12000 := hm
  have hfI : (f : Int) < 20000 := hf
  go_upto_region 8 with fail
  go_cut [49] from 39 to 48 (fun t wx => t = .bool false ∧ ∃ v3 L, NdAt wx b f v3 L ∧ L.length = bf f ∧ w.grownBy wx none)
  case first =>
    by_cases hk0 : (0 : Int) < (k : Int)
    · go_wp2_with fail
      refine (Extend_own (w2'.alloc (.cells #[.int .i64 0, .int .i64 (k : Int)] 51)) b 0 f w2'.heap.size _ _ [] [(0, k)] ((unhide M2).grown (World.grownBy_alloc _ _ _)) (by omega) (ROwn.one w2' 0 k) (fun y hy => by simp at hy; subst hy; simp only; omega) (by rw [tot_cons, tot_nil]; exact unhide HF)).mono ?_
      rintro e w3 ⟨v3, rfl, m3, _, g3⟩
      have L3 : Hid (∃ v3 L, NdAt w3 b f v3 L ∧ L.length = bf f ∧ w.grownBy w3 none) := hide ⟨v3, _, by simpa using m3, by rw [← unhide HK, bks_one]; simp, own_step ((unhide G2).trans (World.grownBy_alloc _ _ _)) (unhide HB) g3⟩
      clear m3 g3 M2 G2
      go_wp2_with fail
      go_meet
      exact ⟨rfl, unhide L3⟩
    · have HF0 : Hid (f = 0) := hide (hkf (by omega))
      clear hkf
      go_wp2_with fail
      go_meet
      exact ⟨rfl, _, [], by rw [unhide HF0]; exact unhide M2, by rw [unhide HF0]; rfl, unhide G2⟩
  case rest =>
    obtain ⟨rfl, v3, L, m3, hL, g3⟩ := hcut
    have M3 := hide m3
    have HLn := hide hL
    have G3 := hide g3
    clear m3 hL g3 M2 G2 hkf HK HF hkI
    go_wp2_with fail
    refine (Bytes_any wc b f v3 L (unhide M3)).mono ?_
    rintro e w4 ⟨u4, rfl, o4, g4⟩
    have M4 := hide ((unhide M3).grown g4)
    have G4 : Hid (w.grownBy w4 none) := hide ((unhide G3).trans g4)
    have st4 := o4.sl.str
    clear o4 g4 M3 G3
    go_wp2_with fail
    clear st4
    refine (Need_ok w4 b f v3 L (unhide M4) m (by omega)).mono ?_
    rintro e w4' ⟨rfl, rfl⟩
    have hd64 : bf (f + m) - bf f ≤ 64 := by unfold bf; omega
    obtain ⟨d, hd⟩ : ∃ d, d = bf (f + m) - bf f := ⟨_, rfl⟩
    rw [← hd] at hd64 ⊢
    have HD := hide hd
    clear hd
    have hdI : (d : Int) ≤ 64 := by omega
    go_upto_if 60 with fail
    go_cut [16] from 59 to 66 (fun l wx => ∃ ao c Y, l = .slice ao Y.length c ∧ ROwn wx 0 l Y ∧ (Y = [] ∨ ∃ x, Y = [x] ∧ 0 < x.2) ∧ (∀ y ∈ Y, 0 < y.2 ∧ y.1 + y.2 ≤ 512) ∧ tot Y = d ∧ NdAt wx b f v3 L ∧ w.grownBy wx none)
    case first =>
      by_cases hd0 : (0 : Int) < (d : Int)
      · go_wp2_with fail
        refine (Pick_any x1 300 w4' a1 b1 (by omega) (by omega)).mono ?_
        rintro e w5 ⟨fr, rfl, hfr, rfl⟩
        have hfrI : (100 : Int) + (fr : Int) ≤ 400 := by omega
        go_wp2_with fail
        go_meet
        refine ⟨_, 1, [(100 + fr, d)], rfl, ?_, .inr ⟨_, rfl, by simp only; omega⟩, (fun y hy => by simp at hy; subst hy; simp only; omega), (by rw [tot_cons, tot_nil]; rfl), (unhide M4).grown (World.grownBy_alloc _ _ _), (unhide G4).trans (World.grownBy_alloc _ _ _)⟩
        exact (ROwn.one w4' (100 + fr) d).mono (Nat.zero_le _)
      · go_wp2_with fail
        go_meet
        exact ⟨none, 0, [], rfl, ROwn.nil _ _, .inl rfl, (fun y hy => by cases hy), (by rw [tot_nil]; omega), unhide M4, unhide G4⟩
    case rest =>
      obtain ⟨ao, c, Y, rfl, oy, hY1, hY2, hY3, m5, g5⟩ := hcut
      have OY := hide oy
      have M5 := hide m5
      have G5 := hide g5
      clear oy m5 g5 M4 G4
      obtain ⟨ny, hny⟩ : ∃ ny, ny = Y.length := ⟨_, rfl⟩
      rw [← hny] at OY ⊢
      clear hny
      go_wp2_with fail
      refine (Extend_own _ b f m 0 v3 _ L Y (unhide M5) (by omega) (unhide OY) hY2 (by rw [hY3]; exact unhide HD)).mono ?_
      rintro e w6 ⟨v6, rfl, m6, oy6, g6⟩
      have M6 := hide m6
      have OY6 := hide oy6
      have G6 := hide (own_step (unhide G5) (unhide HB) g6)
      clear m6 oy6 g6 M5 OY G5
      go_wp2_with fail
      refine (Size_any w6 b (f + m) v6 _ (unhide M6)).mono ?_
      rintro e w6' ⟨rfl, rfl⟩
      go_wp2_with fail
      refine (Cut_back w6' b f m v6 L Y (unhide M6) (unhide HLn) hY1).mono ?_
      rintro e w7 ⟨v7, c7, rfl, m7, o7, g7⟩
      have M7 := hide m7
      have OY7 := hide ((unhide OY6).far (unhide M6) g7)
      have O7 := hide o7
      have G7 := hide (own_step (unhide G6) (unhide HB) g7)
      clear m7 o7 g7 M6 OY6 G6
      go_wp2_with fail
      refine (SameRuns_any w7 c7 _ _ _ ((unhide O7).rn fun x hx => by have := hY2 x hx; omega) ((unhide OY7).rn fun x hx => by have := hY2 x hx; omega)).mono ?_
      rintro e w8 ⟨rfl, g8⟩
      have M8 := hide ((unhide M7).grown g8)
      have G8 : Hid (w.grownBy w8 none) := hide ((unhide G7).trans g8)
      simp only [decide_true]
      clear g8 M7 G7 O7 OY7
      go_wp2_with fail
      refine (Bytes_any w8 b f v7 L (unhide M8)).mono ?_
      rintro e w9 ⟨u9, rfl, o9, g9⟩
      have M9 := hide ((unhide M8).grown g9)
      have G9 : Hid (w.grownBy w9 none) := hide ((unhide G8).trans g9)
      have st9 := o9.sl.str
      clear o9 g9 M8 G8
      go_wp2_with fail
      refine (Size_any w9 b f v7 L (unhide M9)).mono ?_
      rintro e w10 ⟨rfl, rfl⟩
      go_wp2
      go_ret
      exact ⟨by simp, below_of_grown (unhide G9)⟩

theorem trodAll_four {H : Type} {enc : TypeId × Value → H} {W : World} {t1 t2 t3 t4 : TypeId} {args : Array Value} {ds : List (DataW H)} {ps : List MemPlace} (h : DataW.TrodAll enc Try.prog W 0 (fun _ => true) true [t1, t2, t3, t4] args.toList ds ps) :
    ∃ v1 v2 v3 v4 d1 d2 d3 d4 p1 p2 p3 p4, args = #[v1, v2, v3, v4] ∧ ds = [d1, d2, d3, d4] ∧ ps = p1 ++ p2 ++ p3 ++ p4 ∧ DataW.Trod enc Try.prog W 0 (fun _ => true) true t1 v1 d1 p1 ∧ DataW.Trod enc Try.prog W 0 (fun _ => true) true t2 v2 d2 p2 ∧ DataW.Trod enc Try.prog W 0 (fun _ => true) true t3 v3 d3 p3 ∧ DataW.Trod enc Try.prog W 0 (fun _ => true) true t4 v4 d4 p4 := by
  obtain ⟨v1, _, d1, _, p1, _, hargs, rfl, rfl, h1, hr⟩ := trodAll_cons h
  obtain ⟨v2, _, d2, _, p2, _, rfl, rfl, rfl, h2, hr⟩ := trodAll_cons hr
  obtain ⟨v3, _, d3, _, p3, _, rfl, rfl, rfl, h3, hr⟩ := trodAll_cons hr
  obtain ⟨v4, _, d4, _, p4, _, rfl, rfl, rfl, h4, hr⟩ := trodAll_cons hr
  obtain ⟨rfl, rfl, rfl⟩ := trodAll_nil hr
  exact ⟨v1, v2, v3, v4, d1, d2, d3, d4, p1, p2, p3, p4, by cases args; simp_all, rfl, by simp, h1, h2, h3, h4⟩

set_option maxRecDepth 100000 in
theorem Cuts.lifted (os : Os) (started : os.Started) (H : Type) (enc : TypeId × Value → H) :
    ReturnsInHanded {} Try.checked os 6 .any (Rows.inodeCutsSpec.pre6 enc Try.prog Try.f6 Rows.inodeCutsRow.domain false) (Rows.inodeCutsSpec.post enc Try.prog Try.f6 false true false false) := by
  refine returnsInHanded_of_change (C := Try.checked) own_knob started (by kernel_rfl) Try.func6
    (ChangeSpec.witness6 (enc := enc) (C := Try.checked) false ⟨#[], #[.int .i64 0, .int .i64 0, .int .i64 0, .int .i64 0], []⟩ 8 (by kernel_rfl) (by kernel_rfl) (by kernel_rfl) (by kernel_rfl)) ?_
  intro W base args ds gs before hval0 hW hcnd _
  have hval : ∀ (j : Nat) t v, Try.f6.params[j]? = some t → args[j]? = some v → Value.okWide Try.prog W .any base t v := hval0
  have hW' := hW
  obtain ⟨p, q, hA0, hV, rfl, hfz, hnd⟩ := hW
  have hA : DataW.TrodAll enc Try.prog W 0 (fun _ => true) true Try.f6.params.toList args.toList ds p := hA0
  rw [Try.params6] at hA hval
  obtain ⟨v0, v1, v2, v3, d0, d1, d2, d3, p0, p1, p2, p3, rfl, rfl, rfl, h0, h1, h2, h3⟩ := trodAll_four hA
  obtain ⟨rfl, rfl⟩ := trodVars_none hV
  obtain ⟨a0, rfl, rfl, rfl, w0⟩ := open_int Try.underlying3 (hval 0 3 v0 rfl rfl) h0
  obtain ⟨a1, rfl, rfl, rfl, w1⟩ := open_int Try.underlying3 (hval 1 3 v1 rfl rfl) h1
  obtain ⟨a2, rfl, rfl, rfl, w2⟩ := open_int Try.underlying3 (hval 2 3 v2 rfl rfl) h2
  obtain ⟨a3, rfl, rfl, rfl, w3⟩ := open_int Try.underlying3 (hval 3 3 v3 rfl rfl) h3
  have b0 := bounds_i64 w0
  have b1 := bounds_i64 w1
  have b2 := bounds_i64 w2
  clear hA0 hval0
  refine (Cuts.walk a0 a1 a2 a3 W ⟨by omega, by omega⟩ ⟨by omega, by omega⟩ ⟨by omega, by omega⟩).mono fun e W' ⟨he, bel⟩ => ?_
  subst he
  exact ⟨_, rfl, _, _, _, [], _, [], hW', trodAll_mk1 (shut_bool Try.underlying4 _), (trodAll_cons_mk (shut_int Try.underlying3 w0) (trodAll_cons_mk (shut_int Try.underlying3 w1) (trodAll_cons_mk (shut_int Try.underlying3 w2) (trodAll_cons_mk (shut_int Try.underlying3 w3) trodAll_mk0)))), rfl, bel.frame _, fun h => by cases h⟩

theorem inodeCuts_holds : Rows.InodeCutsSaid :=
  OpenClaim.holds_of_wide 6 Try.f6 rfl rfl rfl rfl rfl rfl rfl ⟨rfl, rfl, rfl, rfl, rfl⟩ rfl rfl rfl rfl rfl (by kernel_rfl) Try.func6 (by kernel_rfl)
    (of_decide_eq_true (by kernel_rfl)) (by unfold Func.isWrapper; first | (rw [if_pos (by decide +kernel)]; kernel_rfl) | (rw [if_neg (by decide +kernel)]; exact ⟨rfl, rfl⟩))
    (fun os started H enc _ => Cuts.lifted os started H enc)
#print axioms inodeCuts_holds
end Go.Proofs.Ytikoegmpbjeadaa
