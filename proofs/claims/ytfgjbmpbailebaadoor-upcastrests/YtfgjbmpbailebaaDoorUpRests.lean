/-
  DERIVED. UpcastRests: an event that was brought up rests; records stay records.
-/
import Derived.Test.YtfgjbmpbailebaaDoorUpR
import Derived.Test.YtfgjbmpbailebaaDoorUpQ
import Derived.Test.YtfgjbmpbailebaaDoorUpLaid
import Derived.Test.YtfgjbmpbailebaaDoorCards
import Derived.Test.YtfgjbmpbailebaaDoorTie
import Derived.SevenTiedAt
namespace Go.Proofs.YtfgjbmpbailebaaDoor
open Go.ChangeShapes Go.WideShapes Go.ChangeAt Go.RowKit
open Go.ChangeMaps (open_string shut_string)
set_option linter.unusedVariables false

set_option maxHeartbeats 16000000 in
theorem UpRests.walk (a : Option Addr) (n c : Nat) (us : List Upc) (tp : List UInt8) (vr : Int) (fa : Option Addr) (fc : Nat) (fs : List Fld) (w : World) (hv : UpL w (.slice a n c) us) (hfit : ∀ u ∈ us, fitU u) (hlen : us.length < 10000000000000)
    (hf : FdN w fa fc fs) (hff : ∀ f ∈ fs, fits f) (hn48 : fs.length * 48 ≤ 140737488351232) (htp : tp.length ≤ 9223372036854775807) (hvr : I64 vr) (hva : Vars w) :
    Calls Tryd.prog 5 #[.slice a n c, .agg (evv tp vr (.slice fa fs.length fc))] w fun e w' => e = .returned (.bool true) ∧ Below w.heap.size w w' := by
  obtain ⟨L, hL1, hL2, hL3⟩ : ∃ L, fs.length ≤ L ∧ 16 ≤ L ∧ (L + 1) * 48 ≤ 140737488355328 := ⟨max fs.length 16, by omega, by omega, by omega⟩
  have hb1 : Below w.heap.size w (w.alloc (.cells (evv tp vr (.slice fa fs.length fc)) 26)) := (Below.refl _ _).alloc (Nat.le_refl _) _
  have hx1 := EBx.new w tp vr (.slice fa fs.length fc)
  obtain ⟨w1, hw1⟩ : ∃ w1, w1 = w.alloc (.cells (evv tp vr (.slice fa fs.length fc)) 26) := ⟨_, rfl⟩
  have HW1 := hide hw1
  rw [← hw1] at hb1 hx1
  obtain ⟨B, hB⟩ : ∃ B, B = w.heap.size := ⟨_, rfl⟩
  rw [← hB] at hx1
  have HBB := hide hB
  have HB1 := hide hb1
  have HX1 := hide hx1
  have HV := hide hv
  have HF := hide hf
  have HFf := hide hff
  have HFit := hide hfit
  have HVa := hide hva
  have HAw := hide (vawake_go w1 (hva.below hb1 (Nat.le_refl _)))
  have HCk : Hid (∀ W, Below w.heap.size w W → Calls Tryd.prog 11 #[.slice a n c] W fun e w' => e = .returned (.int .i64 (checkU us)) ∧ Below W.heap.size W w') := hide (fun W hW => vCheck_any a n c us W (hv.below hW (Nat.le_refl _)) hfit (by omega))
  clear hb1 hx1 hw1 hB hv hf hff hfit hva
  by_cases hck : checkU us = 0
  · rw [hck] at HCk
    have hgood := (checkU_iff us).1 hck
    have HAp : Hid (∀ W, Below w.heap.size w W → Calls Tryd.prog 8 #[.slice a n c, .agg (evv tp vr (.slice fa fs.length fc))] W (ApPost W tp (applyU us tp vr fs) L)) := hide (fun W hW => Apply_any a n c us tp vr fa fc fs L W ((unhide HV).below hW (Nat.le_refl _)) (unhide HFit) (by omega) ((unhide HF).below hW (Nat.le_refl _)) (unhide HFf) hL1 hL2 hL3 htp hvr ((unhide HVa).below hW (Nat.le_refl _)))
    have HLa : Hid (∀ W, Below w.heap.size w W → Calls Tryd.prog 13 #[.slice a n c, sv tp] W fun e w' => e = .returned (.int .i64 (latestU us tp : Nat)) ∧ Below W.heap.size W w') := hide (fun W hW => Latest_any a n c us tp W ((unhide HV).below hW (Nat.le_refl _)) (unhide HFit) (by omega) htp)
    have HGe := hide (good_ge hgood (tp := tp) hvr fs)
    have HLt := hide (good_latest hgood (tp := tp) fs)
    have HGc : Hid (checkF fs = 0 → checkF (applyU us tp vr fs).2 = 0) := hide (fun h => good_check hgood (unhide HFit) hvr (unhide HFf) h)
    have HGr := hide (good_rests (us := us) (tp := tp) (by omega) hvr fs)
    have HG6 := hide (apply_i64 (us := us) (tp := tp) (by omega) hvr fs)
    have HLt2 : Hid (vr = 0 → (applyU us tp vr fs).1 = (latestU us tp : Nat)) := hide (fun h => by rw [h]; exact unhide HLt)
    obtain ⟨⟨v1, R⟩, hR⟩ : ∃ r, r = applyU us tp vr fs := ⟨_, rfl⟩
    rw [← hR] at HAp HGe HGc HGr HG6 HLt2
    simp only at HGe HGc HGr HG6 HLt2
    have HAp2 : Hid (∀ W fa2 fc2, Below w.heap.size w W → FdN W fa2 fc2 R → R.length ≤ L → (∀ f ∈ R, fits f) → Calls Tryd.prog 8 #[.slice a n c, .agg (evv tp v1 (.slice fa2 R.length fc2))] W (ApPost W tp (v1, R) L)) := hide (fun W fa2 fc2 hW hfd hRl hRf => by
      have := Apply_any a n c us tp v1 fa2 fc2 R L W ((unhide HV).below hW (Nat.le_refl _)) (unhide HFit) (by omega) hfd hRf hRl hL2 hL3 htp (unhide HG6) ((unhide HVa).below hW (Nat.le_refl _))
      rwa [unhide HGr] at this)
    obtain ⟨lt, hlt⟩ : ∃ lt, lt = latestU us tp := ⟨_, rfl⟩
    rw [← hlt] at HLa HLt2
    clear hR hck hgood HLt HGr hlt
    go_enter Tryd.func5, Tryd.ntmps5
    go_upto_region 1 with fail
    rw [← unhide HW1, ← unhide HBB]
    go_upto_region 4 with (first | (go_at_call 7; refine (unhide HAw).mono ?_; rintro e w2 ⟨rfl, b2⟩; have HB2 := hide ((unhide HB1).trans (b2.mono (unhide HB1).size)); have HX2 := hide ((unhide HX1).below b2 (Nat.le_refl _)); clear b2) | (go_at_call 11; refine (unhide HCk _ (unhide HB2)).mono ?_; rintro e w3 ⟨rfl, b3⟩; have HB3 := hide ((unhide HB2).trans (b3.mono (unhide HB2).size)); have HX3 := hide ((unhide HX2).below b3 (Nat.le_refl _)); clear b3))
    obtain ⟨x0, x1, x2⟩ := (unhide HX3).cells
    go_upto_region 5 with (go_at_call 8; refine (unhide HAp _ (unhide HB3)).mono ?_; rintro e w4 ⟨v4, rfl, o4, l4, f4, b4⟩; obtain ⟨va4, vc4, rfl, fd4⟩ := o4.fdn; have HB4 := hide ((unhide HB3).trans (b4.mono (unhide HB3).size)); have HX4 := hide ((unhide HX3).below b4 (Nat.le_refl _)); have HFd4 := hide fd4; have HL4 := hide l4; have HF4 := hide f4; clear b4 o4 l4 f4 fd4)
    have hb5 : Below w4.heap.size w4 (w4.alloc (.cells (evv tp v1 (.slice va4 R.length vc4)) 26)) := (Below.refl _ _).alloc (Nat.le_refl _) _
    have HA5 := hide (EBx.new w4 tp v1 (.slice va4 R.length vc4))
    have HB5 := hide ((unhide HB4).trans (hb5.mono (unhide HB4).size))
    have HX5 := hide ((unhide HX4).below hb5 (Nat.le_refl _))
    have HFd5 := hide ((unhide HFd4).below hb5 (Nat.le_refl _))
    obtain ⟨w5, hw5⟩ : ∃ w5, w5 = w4.alloc (.cells (evv tp v1 (.slice va4 R.length vc4)) 26) := ⟨_, rfl⟩
    rw [show w4.alloc (.cells #[Value.string ⟨tp.toArray⟩, .int .i64 v1, .slice va4 R.length vc4] 26) = w5 from hw5.symm]
    rw [← hw5] at HA5 HB5 HX5 HFd5
    obtain ⟨A, hA⟩ : ∃ A, A = w4.heap.size := ⟨_, rfl⟩
    rw [← hA] at HA5 ⊢
    clear hb5 hw5 hA x0 x1 x2
    obtain ⟨x0, x1, x2⟩ := (unhide HX5).cells
    obtain ⟨y0, y1, y2⟩ := (unhide HA5).cells
    go_upto_region 6 with (go_at_call 8; refine (unhide HAp2 _ _ _ (unhide HB5) (unhide HFd5) (unhide HL4) (unhide HF4)).mono ?_; rintro e w6 ⟨v6, rfl, o6, l6, f6, b6⟩; obtain ⟨va6, vc6, rfl, fd6⟩ := o6.fdn; have HB6 := hide ((unhide HB5).trans (b6.mono (unhide HB5).size)); have HX6 := hide ((unhide HX5).below b6 (Nat.le_refl _)); have HA6 := hide ((unhide HA5).below b6 (Nat.le_refl _)); have HFa6 := hide ((unhide HFd5).below b6 (Nat.le_refl _)); have HFd6 := hide fd6; clear b6 o6 l6 f6 fd6)
    have hb7 : Below w6.heap.size w6 (w6.alloc (.cells (evv tp v1 (.slice va6 R.length vc6)) 26)) := (Below.refl _ _).alloc (Nat.le_refl _) _
    have HC7 := hide (EBx.new w6 tp v1 (.slice va6 R.length vc6))
    have HB7 := hide ((unhide HB6).trans (hb7.mono (unhide HB6).size))
    have HX7 := hide ((unhide HX6).below hb7 (Nat.le_refl _))
    have HA7 := hide ((unhide HA6).below hb7 (Nat.le_refl _))
    have HFa7 := hide ((unhide HFa6).below hb7 (Nat.le_refl _))
    have HFd7 := hide ((unhide HFd6).below hb7 (Nat.le_refl _))
    obtain ⟨w7, hw7⟩ : ∃ w7, w7 = w6.alloc (.cells (evv tp v1 (.slice va6 R.length vc6)) 26) := ⟨_, rfl⟩
    rw [show w6.alloc (.cells #[Value.string ⟨tp.toArray⟩, .int .i64 v1, .slice va6 R.length vc6] 26) = w7 from hw7.symm]
    rw [← hw7] at HC7 HB7 HX7 HA7 HFa7 HFd7
    obtain ⟨C, hC⟩ : ∃ C, C = w6.heap.size := ⟨_, rfl⟩
    rw [← hC] at HC7 ⊢
    clear hb7 hw7 hC x0 x1 x2 y0 y1 y2
    obtain ⟨x0, x1, x2⟩ := (unhide HX7).cells
    obtain ⟨y0, y1, y2⟩ := (unhide HA7).cells
    obtain ⟨z0, z1, z2⟩ := (unhide HC7).cells
    have HSm := hide (SameEvent_eq tp v1 R va4 va6 R.length R.length vc4 vc6 w7 (unhide HFa7).1 (unhide HFd7).1)
    go_upto_region 7 with (go_at_call 10; refine (unhide HSm).mono ?_; rintro e w8 ⟨rfl, b8⟩; have HB8 := hide ((unhide HB7).trans (b8.mono (unhide HB7).size)); have HX8 := hide ((unhide HX7).below b8 (Nat.le_refl _)); have HA8 := hide ((unhide HA7).below b8 (Nat.le_refl _)); have HFa8 := hide ((unhide HFa7).below b8 (Nat.le_refl _)); clear b8)
    clear x0 x1 x2 y0 y1 y2 z0 z1 z2
    obtain ⟨x0, x1, x2⟩ := (unhide HX8).cells
    obtain ⟨y0, y1, y2⟩ := (unhide HA8).cells
    by_cases hv0 : vr = 0
    · have hv0' : (vr == 0) = true := by simp [hv0]
      have hvl : (v1 != (lt : Int)) = false := by simp [unhide HLt2 hv0]
      have HX8' := hide ((unhide HX8).below (Below.refl _ _).drew (Nat.le_refl _))
      have HA8' := hide ((unhide HA8).below (Below.refl _ _).drew (Nat.le_refl _))
      have HFa8' := hide ((unhide HFa8).below (Below.refl _ _).drew (Nat.le_refl _))
      clear hv0
      go_region_law (go_simp; go_at_call 13; refine (unhide HLa _ (unhide HB8).drew).mono ?_; rintro e w9 ⟨rfl, b9⟩; have HB9 := hide ((unhide HB8).drew.trans (b9.mono (unhide HB8).drew.size)); have HX9 := hide ((unhide HX8').below b9 (Nat.le_refl _)); have HA9 := hide ((unhide HA8').below b9 (Nat.le_refl _)); have HFa9 := hide ((unhide HFa8').below b9 (Nat.le_refl _)); have hy1 := (unhide HA9).cells.2.1; clear b9)
      all_goals
        go_upto_region 9 with fail
        clear x0 x1 x2 y0 y1 y2
        obtain ⟨x0, x1, x2⟩ := (unhide HX9).cells
        obtain ⟨y0, y1, y2⟩ := (unhide HA9).cells
        have HC1 := hide (rCheck_any fa fs.length fc fs w9 ((unhide HF).below (unhide HB9) (Nat.le_refl _)).1 (unhide HFf))
        by_cases hcf : checkF fs = 0
        · have hcr := unhide HGc hcf
          rw [hcf] at HC1
          have HC2 : Hid (∀ W, Below w9.heap.size w9 W → Calls Tryd.prog 15 #[.slice va4 R.length vc4] W fun e w' => e = .returned (.int .i64 0) ∧ Below W.heap.size W w') := hide (fun W hW => by
            have := rCheck_any va4 R.length vc4 R W ((unhide HFa9).below hW (Nat.le_refl _)).1 (unhide HF4)
            rwa [hcr] at this)
          clear hcf hcr
          have m1 : True := trivial
          go_upto_region 11 with (go_at_call 15; first | (with_reducible clear m1; refine (unhide HC1).mono ?_; rintro e w10 ⟨rfl, b10⟩; have HB10 := hide b10; obtain ⟨y0, y1, y2⟩ := ((unhide HA9).below b10 (Nat.le_refl _)).cells; clear b10) | (refine (unhide HC2 _ (unhide HB10)).mono ?_; rintro e w11 ⟨rfl, b11⟩; have HB11 := hide ((unhide HB10).trans (b11.mono (unhide HB10).size)); clear b11))
          clear x0 x1 x2
          obtain ⟨x0, x1, x2⟩ := ((unhide HX9).below (unhide HB11) (Nat.le_refl _)).cells
          obtain ⟨y0, y1, y2⟩ := ((unhide HA9).below (unhide HB11) (Nat.le_refl _)).cells
          have hge : decide (vr ≤ v1) = true := decide_eq_true (unhide HGe)
          go_wp2_with fail
          go_ret
          exact ⟨rfl, (unhide HB9).trans ((unhide HB11).mono (unhide HB9).size)⟩
        · obtain ⟨M, hM⟩ : ∃ M, M = checkF fs := ⟨_, rfl⟩
          rw [← hM] at HC1 hcf
          have hm : (M == 0) = false := by simp [hcf]
          clear hM hcf
          go_upto_region 11 with (go_at_call 15; refine (unhide HC1).mono ?_; rintro e w11 ⟨rfl, b11⟩; have HB11 := hide b11; clear b11)
          clear x0 x1 x2 y0 y1 y2
          obtain ⟨x0, x1, x2⟩ := ((unhide HX9).below (unhide HB11) (Nat.le_refl _)).cells
          obtain ⟨y0, y1, y2⟩ := ((unhide HA9).below (unhide HB11) (Nat.le_refl _)).cells
          have hge : decide (vr ≤ v1) = true := decide_eq_true (unhide HGe)
          go_wp2_with fail
          go_ret
          exact ⟨rfl, (unhide HB9).trans ((unhide HB11).mono (unhide HB9).size)⟩
    · have hv0' : (vr == 0) = false := by simp [hv0]
      have q1 : ∀ m, (w8.drewN m).cell? ⟨B, 1, none⟩ = some (.int .i64 vr) := fun m => ((unhide HX8).below (below_drewN (Below.refl _ _) m) (Nat.le_refl _)).cells.2.1
      clear hv0 x0 x1 x2 y0 y1 y2
      go_quiet (fail)
      go_upto_region 9 with fail
      have HB9 := hide (below_drewN (unhide HB8) nq)
      have HX9 := hide ((unhide HX8).below (below_drewN (Below.refl _ _) nq) (Nat.le_refl _))
      have HA9 := hide ((unhide HA8).below (below_drewN (Below.refl _ _) nq) (Nat.le_refl _))
      have HFa9 := hide ((unhide HFa8).below (below_drewN (Below.refl _ _) nq) (Nat.le_refl _))
      obtain ⟨w9, hw9⟩ : ∃ w9, w9 = w8.drewN nq := ⟨_, rfl⟩
      rw [← hw9] at HB9 HX9 HA9 HFa9 ⊢
      clear hw9 q1
      obtain ⟨x0, x1, x2⟩ := (unhide HX9).cells
      obtain ⟨y0, y1, y2⟩ := (unhide HA9).cells
      have HC1 := hide (rCheck_any fa fs.length fc fs w9 ((unhide HF).below (unhide HB9) (Nat.le_refl _)).1 (unhide HFf))
      by_cases hcf : checkF fs = 0
      · have hcr := unhide HGc hcf
        rw [hcf] at HC1
        have HC2 : Hid (∀ W, Below w9.heap.size w9 W → Calls Tryd.prog 15 #[.slice va4 R.length vc4] W fun e w' => e = .returned (.int .i64 0) ∧ Below W.heap.size W w') := hide (fun W hW => by
          have := rCheck_any va4 R.length vc4 R W ((unhide HFa9).below hW (Nat.le_refl _)).1 (unhide HF4)
          rwa [hcr] at this)
        clear hcf hcr
        have m1 : True := trivial
        go_upto_region 11 with (go_at_call 15; first | (with_reducible clear m1; refine (unhide HC1).mono ?_; rintro e w10 ⟨rfl, b10⟩; have HB10 := hide b10; obtain ⟨y0, y1, y2⟩ := ((unhide HA9).below b10 (Nat.le_refl _)).cells; clear b10) | (refine (unhide HC2 _ (unhide HB10)).mono ?_; rintro e w11 ⟨rfl, b11⟩; have HB11 := hide ((unhide HB10).trans (b11.mono (unhide HB10).size)); clear b11))
        clear x0 x1 x2
        obtain ⟨x0, x1, x2⟩ := ((unhide HX9).below (unhide HB11) (Nat.le_refl _)).cells
        obtain ⟨y0, y1, y2⟩ := ((unhide HA9).below (unhide HB11) (Nat.le_refl _)).cells
        have hge : decide (vr ≤ v1) = true := decide_eq_true (unhide HGe)
        go_wp2_with fail
        go_ret
        exact ⟨rfl, (unhide HB9).trans ((unhide HB11).mono (unhide HB9).size)⟩
      · obtain ⟨M, hM⟩ : ∃ M, M = checkF fs := ⟨_, rfl⟩
        rw [← hM] at HC1 hcf
        have hm : (M == 0) = false := by simp [hcf]
        clear hM hcf
        go_upto_region 11 with (go_at_call 15; refine (unhide HC1).mono ?_; rintro e w11 ⟨rfl, b11⟩; have HB11 := hide b11; clear b11)
        clear x0 x1 x2 y0 y1 y2
        obtain ⟨x0, x1, x2⟩ := ((unhide HX9).below (unhide HB11) (Nat.le_refl _)).cells
        obtain ⟨y0, y1, y2⟩ := ((unhide HA9).below (unhide HB11) (Nat.le_refl _)).cells
        have hge : decide (vr ≤ v1) = true := decide_eq_true (unhide HGe)
        go_wp2_with fail
        go_ret
        exact ⟨rfl, (unhide HB9).trans ((unhide HB11).mono (unhide HB9).size)⟩
  · obtain ⟨M, hM⟩ : ∃ M, M = checkU us := ⟨_, rfl⟩
    rw [← hM] at HCk hck
    have hm : (M != 0) = true := by simp [hck]
    clear hM hck
    go_enter Tryd.func5, Tryd.ntmps5
    go_upto_region 1 with fail
    rw [← unhide HW1, ← unhide HBB]
    go_wp2_with (first | (go_at_call 7; refine (unhide HAw).mono ?_; rintro e w2 ⟨rfl, b2⟩; have HB2 := hide ((unhide HB1).trans (b2.mono (unhide HB1).size)); clear b2) | (go_at_call 11; refine (unhide HCk _ (unhide HB2)).mono ?_; rintro e w3 ⟨rfl, b3⟩; have HB3 := hide ((unhide HB2).trans (b3.mono (unhide HB2).size)); clear b3))
    go_ret
    exact ⟨rfl, unhide HB3⟩

set_option maxRecDepth 100000 in
theorem UpRests.lifted (os : Os) (started : os.Started) (H : Type) (enc : TypeId × Value → H) :
    ReturnsInHanded {} Tryd.checked os 5 .any (fun w args => (Rows.upcastRestsSpec.pre enc Tryd.prog Tryd.f5 [] false w args ∧ laidMetH Tryd.prog seatLaid w) ∧ sizedMet enc Tryd.prog Tryd.f5 (OpenSpec.ofChange Rows.upcastRestsSpec) false w args)
      (Rows.upcastRestsSpec.post enc Tryd.prog Tryd.f5 false true false false) := by
  refine returnsInHanded_of_change_and (C := Tryd.checked) (X := fun w _ => laidMetH Tryd.prog seatLaid w) (fun _ _ _ hh h => h.of_heap hh) own_knob started (by kernel_rfl) Tryd.func5
    (ChangeSpec.witness_at (enc := enc) (C := Tryd.checked) (os := os) (X := fun w _ => laidMetH Tryd.prog seatLaid w) false (laidWorld os) #[.slice none 0 0, .agg (evv [] 0 (.slice none 0 0))] 8 rfl (by kernel_rfl) (by kernel_rfl) (by kernel_rfl) (by kernel_rfl) (by kernel_rfl) (laidWorld_met os _)) ?_
  intro W base args ds gs before hval0 hW _ hsz0 hL _
  have hval : ∀ (j : Nat) t v, Tryd.f5.params[j]? = some t → args[j]? = some v → Value.okWide Tryd.prog W .any base t v := hval0
  have hsz : (DataW.weightsEach Tryd.prog (Tryd.f5.params.toList ++ Rows.upcastRestsSpec.plain.varTypes Tryd.prog) (ds ++ gs)).all (· ≤ reachBytes) = true := hsz0
  have hW' := hW
  obtain ⟨p, q, hA0, hV, rfl, hfz, hnd⟩ := hW
  have hA : DataW.TrodAll enc Tryd.prog W 0 (fun _ => true) true Tryd.f5.params.toList args.toList ds p := hA0
  rw [Tryd.params5] at hA hval hsz
  obtain ⟨v0, vs0, d0, ds0, p0, q0, e0, rfl, rfl, h0, hA⟩ := trodAll_cons hA
  obtain ⟨v1, vs1, d1, ds1, p1, q1, rfl, rfl, rfl, h1, hA⟩ := trodAll_cons hA
  obtain ⟨rfl, rfl, rfl⟩ := trodAll_nil hA
  obtain rfl : args = #[v0, v1] := by cases args; simp_all
  obtain ⟨rfl, rfl⟩ := trodVars_none hV
  obtain ⟨a0, n0, c0, rfl⟩ := okWide_slice Tryd.underlying23 (hval 0 23 v0 rfl rfl)
  have k0 := h0
  have lt0 : ∀ x ∈ p0, x.block < W.heap.size := by obtain ⟨m, hm⟩ := k0; exact DataW.trod_lt m _ _ _ hm
  obtain ⟨l0, g0, f0, b0⟩ := open_ups hsz (j := 0) rfl h0 rfl
  have k1 := h1
  have lt1 : ∀ x ∈ p1, x.block < W.heap.size := by obtain ⟨m, hm⟩ := k1; exact DataW.trod_lt m _ _ _ hm
  obtain ⟨tp1, vr1, fa1, fc1, fs1, rfl, g1, f1, b1, t1, j1⟩ := open_event hsz (j := 1) rfl rfl (hval 1 26 v1 rfl rfl) h1
  clear hA0 hval0 hsz0
  refine (UpRests.walk a0 n0 c0 l0 tp1 vr1 fa1 fc1 fs1 W g0 f0 b0 g1 f1 b1 t1 j1 (vars_of_laid hL)).mono fun e W' ⟨he, bel⟩ => ?_
  subst he
  exact ⟨_, rfl, _, _, _, [], _, [], hW', trodAll_mk1 (shut_bool Tryd.underlying4 _), (trodAll_cons_mk (Below.trod laid_out (by kernel_rfl) (of_decide_eq_true (by kernel_rfl)) k0 bel lt0) (trodAll_cons_mk (Below.trod laid_out (by kernel_rfl) (of_decide_eq_true (by kernel_rfl)) k1 bel lt1) trodAll_mk0)), rfl, bel.frame _, fun h => by cases h⟩

theorem upcastRests_holds : Rows.UpcastRestsSaid :=
  OpenClaim.holds_of_wide 5 Tryd.f5 rfl rfl rfl rfl rfl rfl rfl ⟨rfl, rfl, rfl, rfl, rfl⟩ rfl rfl rfl rfl rfl (by kernel_rfl) Tryd.func5 (by kernel_rfl)
    (of_decide_eq_true (by kernel_rfl)) (by unfold Func.isWrapper; first | (rw [if_pos (by decide +kernel)]; kernel_rfl) | (rw [if_neg (by decide +kernel)]; exact ⟨rfl, rfl⟩))
    (fun os started H enc _ => UpRests.lifted os started H enc)

theorem upcastRestsCard_holds : Rows.UpcastRestsCardSaid :=
  Claim7.holds_tied_plain_at .later [] _ _ _ _
    upcastRests_holds (fun _ h => by cases h) (by kernel_rfl) (fun _ h => by cases h) upcastRests_row_tie rfl ⟨rfl, rfl⟩ (by kernel_rfl) rfl
    (fun f fn hf hfn => by
      obtain rfl : f = 5 := Option.some.inj ((show Tryd.prog.funcNamed "cartulary/cartularylaw14.UpcastRests" = some 5 by kernel_rfl).symm.trans hf) |>.symm
      obtain rfl : fn = Tryd.f5 := (Option.some.inj (Tryd.func5.symm.trans hfn)).symm
      exact ⟨by kernel_rfl, fun j t ht => by
        rw [Tryd.params5] at ht
        have h0 : ∀ (t : TypeId), t ∈ ([23, 26] : List TypeId) → Tryd.prog.wantsStandIn t = false := by
          intro t ht
          simp only [List.mem_cons, List.not_mem_nil, or_false] at ht
          rcases ht with rfl | rfl <;> kernel_rfl
        exact h0 t (List.mem_of_getElem? (by simpa using ht))⟩)
    (by kernel_rfl)
#print axioms upcastRestsCard_holds
end Go.Proofs.YtfgjbmpbailebaaDoor
