/-
  DERIVED. UpcastTurns: upcasters may stand in any order.
-/
import Derived.Test.YtfgjbmpbailebaaDoorUpT
import Derived.Test.YtfgjbmpbailebaaDoorUpLaid
import Derived.Test.YtfgjbmpbailebaaDoorCards
import Derived.Test.YtfgjbmpbailebaaDoorTie
import Derived.SevenTiedAt
namespace Go.Proofs.YtfgjbmpbailebaaDoor
open Go.ChangeShapes Go.WideShapes Go.ChangeAt Go.RowKit
open Go.ChangeMaps (open_string shut_string)
set_option linter.unusedVariables false

set_option maxHeartbeats 16000000 in
theorem UpTurns.walk (a : Option Addr) (n c : Nat) (us : List Upc) (tp : List UInt8) (vr : Int) (fa : Option Addr) (fc : Nat) (fs : List Fld) (w : World) (hv : UpL w (.slice a n c) us) (hfit : ∀ u ∈ us, fitU u) (hlen : us.length < 10000000000000)
    (hf : FdN w fa fc fs) (hff : ∀ f ∈ fs, fits f) (hn48 : fs.length * 48 ≤ 140737488351232) (htp : tp.length ≤ 9223372036854775807) (hvr : I64 vr) (hva : Vars w) :
    Calls Tryd.prog 6 #[.slice a n c, .agg (evv tp vr (.slice fa fs.length fc))] w fun e w' => e = .returned (.bool true) ∧ Below w.heap.size w w' := by
  obtain ⟨L, hL1, hL2, hL3⟩ : ∃ L, fs.length ≤ L ∧ 16 ≤ L ∧ (L + 1) * 48 ≤ 140737488355328 := ⟨max fs.length 16, by omega, by omega, by omega⟩
  have hb1 : Below w.heap.size w (w.alloc (.cells (evv tp vr (.slice fa fs.length fc)) 26)) := (Below.refl _ _).alloc (Nat.le_refl _) _
  have hx1 := EBx.new w tp vr (.slice fa fs.length fc)
  obtain ⟨w1, hw1⟩ : ∃ w1, w1 = w.alloc (.cells (evv tp vr (.slice fa fs.length fc)) 26) := ⟨_, rfl⟩
  have HW1 := hide hw1
  rw [← hw1] at hb1 hx1
  obtain ⟨B, hB⟩ : ∃ B, B = w.heap.size := ⟨_, rfl⟩
  rw [← hB] at hx1
  have HBB := hide hB
  have HB1 := hide hb1
  have HX1 := hide hx1
  have HV := hide hv
  have HF := hide hf
  have HFf := hide hff
  have HFit := hide hfit
  have HVa := hide hva
  have HAw := hide (vawake_go w1 (hva.below hb1 (Nat.le_refl _)))
  have HCk : Hid (∀ W, Below w.heap.size w W → Calls Tryd.prog 11 #[.slice a n c] W fun e w' => e = .returned (.int .i64 (checkU us)) ∧ Below W.heap.size W w') := hide (fun W hW => vCheck_any a n c us W (hv.below hW (Nat.le_refl _)) hfit (by omega))
  clear hb1 hx1 hw1 hB hv hf hff hfit hva
  by_cases hck : checkU us = 0
  · rw [hck] at HCk
    have hgood := (checkU_iff us).1 hck
    have hck2 : checkU us.reverse = 0 := (checkU_iff us.reverse).2 hgood.turned
    have hN64 := hgood.len
    have HAp : Hid (∀ W, Below w.heap.size w W → Calls Tryd.prog 8 #[.slice a n c, .agg (evv tp vr (.slice fa fs.length fc))] W (ApPost W tp (applyU us tp vr fs) L)) := hide (fun W hW => Apply_any a n c us tp vr fa fc fs L W ((unhide HV).below hW (Nat.le_refl _)) (unhide HFit) (by omega) ((unhide HF).below hW (Nat.le_refl _)) (unhide HFf) hL1 hL2 hL3 htp hvr ((unhide HVa).below hW (Nat.le_refl _)))
    have HLa : Hid (∀ W, Below w.heap.size w W → Calls Tryd.prog 13 #[.slice a n c, sv tp] W fun e w' => e = .returned (.int .i64 (latestU us tp : Nat)) ∧ Below W.heap.size W w') := hide (fun W hW => Latest_any a n c us tp W ((unhide HV).below hW (Nat.le_refl _)) (unhide HFit) (by omega) htp)
    have HFit2 : Hid (∀ u ∈ us.reverse, fitU u) := hide (fun u hu => unhide HFit u (by simpa using hu))
    have hrl : us.reverse.length < 10000000000000 := by simp; omega
    have HAp2 : Hid (∀ W ta tn tc, Below w.heap.size w W → UpL W (.slice ta tn tc) us.reverse → Calls Tryd.prog 8 #[.slice ta tn tc, .agg (evv tp vr (.slice fa fs.length fc))] W (ApPost W tp (applyU us tp vr fs) L)) := hide (fun W ta tn tc hW hU => by
      have := Apply_any ta tn tc us.reverse tp vr fa fc fs L W hU (unhide HFit2) (by omega) ((unhide HF).below hW (Nat.le_refl _)) (unhide HFf) hL1 hL2 hL3 htp hvr ((unhide HVa).below hW (Nat.le_refl _))
      rwa [hgood.apply tp vr fs] at this)
    have HLa2 : Hid (∀ W ta tn tc, UpL W (.slice ta tn tc) us.reverse → Calls Tryd.prog 13 #[.slice ta tn tc, sv tp] W fun e w' => e = .returned (.int .i64 (latestU us tp : Nat)) ∧ Below W.heap.size W w') := hide (fun W ta tn tc hU => by
      have := Latest_any ta tn tc us.reverse tp W hU (unhide HFit2) (by omega) htp
      rwa [hgood.latest tp] at this)
    have HCk2 : Hid (∀ W ta tn tc, UpL W (.slice ta tn tc) us.reverse → Calls Tryd.prog 11 #[.slice ta tn tc] W fun e w' => e = .returned (.int .i64 0) ∧ Below W.heap.size W w') := hide (fun W ta tn tc hU => by
      have := vCheck_any ta tn tc us.reverse W hU (unhide HFit2) (by omega)
      rwa [hck2] at this)
    obtain ⟨⟨v1, R⟩, hR⟩ : ∃ r, r = applyU us tp vr fs := ⟨_, rfl⟩
    rw [← hR] at HAp HAp2
    obtain ⟨lt, hlt⟩ : ∃ lt, lt = latestU us tp := ⟨_, rfl⟩
    rw [← hlt] at HLa HLa2
    obtain ⟨rfl, hl1, hl2⟩ := (unhide HV).len
    obtain ⟨N, hN⟩ : ∃ N, N = us.length := ⟨_, rfl⟩
    have HN := hide hN
    rw [← hN] at HCk HAp HLa hN64 hl1 ⊢
    clear hR hck hck2 hgood hlt hrl hN
    go_enter Tryd.func6, Tryd.ntmps6
    go_upto_region 1 with fail
    rw [← unhide HW1, ← unhide HBB]
    go_wp2_with (first | (go_at_call 7; refine (unhide HAw).mono ?_; rintro e w2 ⟨rfl, b2⟩; have HB2 := hide ((unhide HB1).trans (b2.mono (unhide HB1).size)); have HX2 := hide ((unhide HX1).below b2 (Nat.le_refl _)); clear b2) | (go_at_call 11; refine (unhide HCk _ (unhide HB2)).mono ?_; rintro e w3 ⟨rfl, b3⟩; have HB3 := hide ((unhide HB2).trans (b3.mono (unhide HB2).size)); have HX3 := hide ((unhide HX2).below b3 (Nat.le_refl _)); clear b3))
    go_loopw [6, 7] (fun t i wr => ∃ (j : Nat) (z : Int), j ≤ N ∧ Hid (z = (j : Int) - 1) ∧ i = .int .i64 z ∧ Hid (UOwn w wr w3.heap.size t (us.drop j).reverse) ∧ Hid (Below w3.heap.size w3 wr)) (fun _ i _ => (intOf i + 1).toNat)
    case atStart => exact ⟨N, (N : Int) - 1, Nat.le_refl _, hide rfl, rfl, hide (by rw [List.drop_of_length_le (by have := unhide HN; omega)]; exact UOwn.nil _ _ _), hide (Below.refl _ _)⟩
    case round =>
      obtain ⟨j, z, hj, HZ, rfl, HU, HB⟩ := hrel
      obtain ⟨ta, tc, rfl⟩ := (unhide HU).slice
      clear HAw HCk
      by_cases hj0 : j = 0
      · have hz' : decide (0 ≤ z) = false := decide_eq_false (by have := unhide HZ; omega)
        have HB4 := hide ((unhide HB3).trans ((unhide HB).mono (unhide HB3).size))
        have HX4 := hide ((unhide HX3).below (unhide HB) (Nat.le_refl _))
        have hU := (unhide HU).upl (unhide HB4)
        subst hj0
        have hlr : (us.drop 0).reverse.length = N := by simp; exact (unhide HN).symm
        rw [hlr] at hU ⊢
        rw [List.drop_zero] at hU
        have HU4 := hide hU
        clear hU hlr HU
        obtain ⟨x0, x1, x2⟩ := (unhide HX4).cells
        go_upto_region 10 with (go_at_call 8; refine (unhide HAp _ (unhide HB4)).mono ?_; rintro e w5 ⟨v5, rfl, o5, -, -, b5⟩; obtain ⟨va5, vc5, rfl, fd5⟩ := o5.fdn; have HB5 := hide ((unhide HB4).trans (b5.mono (unhide HB4).size)); have HX5 := hide ((unhide HX4).below b5 (Nat.le_refl _)); have HU5 := hide ((unhide HU4).below b5 (Nat.le_refl _)); have HFd5 := hide fd5; clear b5 o5 fd5)
        have hb6 : Below w5.heap.size w5 (w5.alloc (.cells (evv tp v1 (.slice va5 R.length vc5)) 26)) := (Below.refl _ _).alloc (Nat.le_refl _) _
        have HA6 := hide (EBx.new w5 tp v1 (.slice va5 R.length vc5))
        have HB6 := hide ((unhide HB5).trans (hb6.mono (unhide HB5).size))
        have HX6 := hide ((unhide HX5).below hb6 (Nat.le_refl _))
        have HU6 := hide ((unhide HU5).below hb6 (Nat.le_refl _))
        have HFd6 := hide ((unhide HFd5).below hb6 (Nat.le_refl _))
        obtain ⟨w6, hw6⟩ : ∃ w6, w6 = w5.alloc (.cells (evv tp v1 (.slice va5 R.length vc5)) 26) := ⟨_, rfl⟩
        rw [show w5.alloc (.cells #[Value.string ⟨tp.toArray⟩, .int .i64 v1, .slice va5 R.length vc5] 26) = w6 from hw6.symm]
        rw [← hw6] at HA6 HB6 HX6 HU6 HFd6
        obtain ⟨A, hA⟩ : ∃ A, A = w5.heap.size := ⟨_, rfl⟩
        rw [← hA] at HA6 ⊢
        clear hb6 hw6 hA x0 x1 x2
        obtain ⟨x0, x1, x2⟩ := (unhide HX6).cells
        go_upto_region 11 with (go_at_call 8; refine (unhide HAp2 _ _ _ _ (unhide HB6) (unhide HU6)).mono ?_; rintro e w7 ⟨v7, rfl, o7, -, -, b7⟩; obtain ⟨va7, vc7, rfl, fd7⟩ := o7.fdn; have HB7 := hide ((unhide HB6).trans (b7.mono (unhide HB6).size)); have HX7 := hide ((unhide HX6).below b7 (Nat.le_refl _)); have HA7 := hide ((unhide HA6).below b7 (Nat.le_refl _)); have HU7 := hide ((unhide HU6).below b7 (Nat.le_refl _)); have HFa7 := hide ((unhide HFd6).below b7 (Nat.le_refl _)); have HFd7 := hide fd7; clear b7 o7 fd7)
        have hb8 : Below w7.heap.size w7 (w7.alloc (.cells (evv tp v1 (.slice va7 R.length vc7)) 26)) := (Below.refl _ _).alloc (Nat.le_refl _) _
        have HC8 := hide (EBx.new w7 tp v1 (.slice va7 R.length vc7))
        have HB8 := hide ((unhide HB7).trans (hb8.mono (unhide HB7).size))
        have HX8 := hide ((unhide HX7).below hb8 (Nat.le_refl _))
        have HA8 := hide ((unhide HA7).below hb8 (Nat.le_refl _))
        have HU8 := hide ((unhide HU7).below hb8 (Nat.le_refl _))
        have HFa8 := hide ((unhide HFa7).below hb8 (Nat.le_refl _))
        have HFd8 := hide ((unhide HFd7).below hb8 (Nat.le_refl _))
        obtain ⟨w8, hw8⟩ : ∃ w8, w8 = w7.alloc (.cells (evv tp v1 (.slice va7 R.length vc7)) 26) := ⟨_, rfl⟩
        rw [show w7.alloc (.cells #[Value.string ⟨tp.toArray⟩, .int .i64 v1, .slice va7 R.length vc7] 26) = w8 from hw8.symm]
        rw [← hw8] at HC8 HB8 HX8 HA8 HU8 HFa8 HFd8
        obtain ⟨C, hC⟩ : ∃ C, C = w7.heap.size := ⟨_, rfl⟩
        rw [← hC] at HC8 ⊢
        clear hb8 hw8 hC x0 x1 x2
        obtain ⟨y0, y1, y2⟩ := (unhide HA8).cells
        obtain ⟨z0, z1, z2⟩ := (unhide HC8).cells
        have HSm := hide (SameEvent_eq tp v1 R va5 va7 R.length R.length vc5 vc7 w8 (unhide HFa8).1 (unhide HFd8).1)
        go_upto_region 12 with (go_at_call 10; refine (unhide HSm).mono ?_; rintro e w9 ⟨rfl, b9⟩; have HB9 := hide ((unhide HB8).trans (b9.mono (unhide HB8).size)); have HX9 := hide ((unhide HX8).below b9 (Nat.le_refl _)); have HU9 := hide ((unhide HU8).below b9 (Nat.le_refl _)); clear b9)
        clear y0 y1 y2 z0 z1 z2
        have HX9' := hide ((unhide HX9).below (Below.refl _ _).drew (Nat.le_refl _))
        have HU9' := hide ((unhide HU9).below (Below.refl _ _).drew (Nat.le_refl _))
        have HB9' := hide (unhide HB9).drew
        clear HA8 HC8 HFa8 HFd8 HSm HA6 HA7 HFa7 HFd7 HFd6 HFd5 HU4 HU5 HU6 HU7 HU8 HX1 HX2 HX3 HX4 HX5 HX6 HX7 HX8 HX9 HU9 HAp HAp2 HF HFf HV
        go_region_law (first | (go_simp; go_at_call 11; refine (unhide HCk2 _ _ _ _ (unhide HU9')).mono ?_; rintro e w10 ⟨rfl, b10⟩; have HB10 := hide ((unhide HB9').trans (b10.mono (unhide HB9').size)); have HX10 := hide ((unhide HX9').below b10 (Nat.le_refl _)); have HU10 := hide ((unhide HU9').below b10 (Nat.le_refl _)); obtain ⟨x0, x1, x2⟩ := (unhide HX10).cells; clear b10) | (go_simp; go_at_call 13; (with_reducible refine (unhide HLa _ (unhide HB10)).mono ?_); rintro e w11 ⟨rfl, b11⟩; have HB11 := hide ((unhide HB10).trans (b11.mono (unhide HB10).size)); have HU11 := hide ((unhide HU10).below b11 (Nat.le_refl _)); obtain ⟨q0, q1, q2⟩ := ((unhide HX10).below b11 (Nat.le_refl _)).cells; clear b11) | (go_simp; go_at_call 13; refine (unhide HLa2 _ _ _ _ (unhide HU11)).mono ?_; rintro e w12 ⟨rfl, b12⟩; have HB12 := hide ((unhide HB11).trans (b12.mono (unhide HB11).size)); clear b12))
        all_goals
          go_wp2
          go_ret
          exact ⟨rfl, unhide HB12⟩
      · obtain ⟨p, rfl⟩ : ∃ p, j = p + 1 := ⟨j - 1, by omega⟩
        obtain rfl : z = (p : Int) := by have := unhide HZ; omega
        have hpN : p < N := by omega
        obtain ⟨⟨ut, uf, chs⟩, hup⟩ : ∃ u, us[p]? = some u := ⟨_, List.getElem?_eq_getElem (by have := unhide HN; omega)⟩
        have HB4 := hide ((unhide HB3).trans ((unhide HB).mono (unhide HB3).size))
        obtain ⟨b, off, rfl, hat⟩ := (unhide HV).at hup
        obtain ⟨d0, d1, ca, cc, d2, hch⟩ := hat.below (unhide HB4) (Nat.le_refl _)
        obtain ⟨e0, e1, ca', cc', e2, hch'⟩ := hat
        have hcc : ca' = ca ∧ cc' = cc := by
          have := cell_kept (unhide HB4) (Nat.le_refl _) e2
          rw [d2] at this
          simp only [Option.some.injEq, Value.slice.injEq] at this
          exact ⟨this.1.symm, this.2.2.symm⟩
        obtain ⟨rfl, rfl⟩ := hcc
        simp only at d0 d1 d2 hch'
        have HCh := hide hch'
        have hrv : (us.drop p).reverse = (us.drop (p + 1)).reverse ++ [⟨ut, uf, chs⟩] := by rw [drop_up hup]; simp
        have HRv := hide hrv
        have hsz := (unhide HB).size
        have hUl : (us.drop (p + 1)).reverse.length ≤ 2000000000 := by simp; have := unhide HN; omega
        obtain ⟨z2, hw⟩ : ∃ z2, IntKind.i64.wrap ((p : Int) - 1) = z2 := ⟨_, rfl⟩
        have HZ2 : Hid (z2 = (p : Int) - 1) := hide (by rw [← hw, IntKind.wrap_i64]; omega)
        have hb5 : Below w3.heap.size w3 (wr.alloc (.cells (uv ut uf (.slice ca' chs.length cc')) 38)) := (unhide HB).alloc (unhide HB).size _
        have HB5 := hide hb5
        have HU5 := hide ((unhide HU).below ((Below.refl _ _).alloc (Nat.le_refl _) (.cells (uv ut uf (.slice ca' chs.length cc')) 38)) (Nat.le_refl _))
        have HX5 := hide (UBx.new wr ut uf (.slice ca' chs.length cc'))
        obtain ⟨T, hT⟩ : ∃ T, T = (us.drop (p + 1)).reverse := ⟨_, rfl⟩
        rw [← hT] at HU5 HRv hUl ⊢
        have hsz5 := hb5.size
        clear hch hch' hup hrv e0 e1 e2 hb5 hT HU
        go_wp2_with (at_builtin; refine wpList_append_up rfl (.tmp 23) (.tmp 28) rfl w3.heap.size _ T rfl (unhide HU5) wr.heap.size ⟨ut, uf, chs⟩ ca' cc' rfl (unhide HX5) (unhide HCh) hUl hsz5 ?_; intro v' w6 own6 b6; have HU6 := hide own6; have HB6 := hide ((unhide HB5).trans b6); clear own6 b6)
        go_roundw
        case rel => exact ⟨p, z2, by omega, HZ2, rfl, (by rw [unhide HRv]; exact HU6), HB6⟩
        case measure => simp only [intOf]; rw [unhide HZ2]; omega
  · obtain ⟨M, hM⟩ : ∃ M, M = checkU us := ⟨_, rfl⟩
    rw [← hM] at HCk hck
    have hm : (M != 0) = true := by simp [hck]
    clear hM hck
    go_enter Tryd.func6, Tryd.ntmps6
    go_upto_region 1 with fail
    rw [← unhide HW1, ← unhide HBB]
    go_wp2_with (first | (go_at_call 7; refine (unhide HAw).mono ?_; rintro e w2 ⟨rfl, b2⟩; have HB2 := hide ((unhide HB1).trans (b2.mono (unhide HB1).size)); clear b2) | (go_at_call 11; refine (unhide HCk _ (unhide HB2)).mono ?_; rintro e w3 ⟨rfl, b3⟩; have HB3 := hide ((unhide HB2).trans (b3.mono (unhide HB2).size)); clear b3))
    go_ret
    exact ⟨rfl, unhide HB3⟩

set_option maxRecDepth 100000 in
theorem UpTurns.lifted (os : Os) (started : os.Started) (H : Type) (enc : TypeId × Value → H) :
    ReturnsInHanded {} Tryd.checked os 6 .any (fun w args => (Rows.upcastTurnsSpec.pre enc Tryd.prog Tryd.f6 [] false w args ∧ laidMetH Tryd.prog seatLaid w) ∧ sizedMet enc Tryd.prog Tryd.f6 (OpenSpec.ofChange Rows.upcastTurnsSpec) false w args)
      (Rows.upcastTurnsSpec.post enc Tryd.prog Tryd.f6 false true false false) := by
  refine returnsInHanded_of_change_and (C := Tryd.checked) (X := fun w _ => laidMetH Tryd.prog seatLaid w) (fun _ _ _ hh h => h.of_heap hh) own_knob started (by kernel_rfl) Tryd.func6
    (ChangeSpec.witness_at (enc := enc) (C := Tryd.checked) (os := os) (X := fun w _ => laidMetH Tryd.prog seatLaid w) false (laidWorld os) #[.slice none 0 0, .agg (evv [] 0 (.slice none 0 0))] 8 rfl (by kernel_rfl) (by kernel_rfl) (by kernel_rfl) (by kernel_rfl) (by kernel_rfl) (laidWorld_met os _)) ?_
  intro W base args ds gs before hval0 hW _ hsz0 hL _
  have hval : ∀ (j : Nat) t v, Tryd.f6.params[j]? = some t → args[j]? = some v → Value.okWide Tryd.prog W .any base t v := hval0
  have hsz : (DataW.weightsEach Tryd.prog (Tryd.f6.params.toList ++ Rows.upcastTurnsSpec.plain.varTypes Tryd.prog) (ds ++ gs)).all (· ≤ reachBytes) = true := hsz0
  have hW' := hW
  obtain ⟨p, q, hA0, hV, rfl, hfz, hnd⟩ := hW
  have hA : DataW.TrodAll enc Tryd.prog W 0 (fun _ => true) true Tryd.f6.params.toList args.toList ds p := hA0
  rw [Tryd.params6] at hA hval hsz
  obtain ⟨v0, vs0, d0, ds0, p0, q0, e0, rfl, rfl, h0, hA⟩ := trodAll_cons hA
  obtain ⟨v1, vs1, d1, ds1, p1, q1, rfl, rfl, rfl, h1, hA⟩ := trodAll_cons hA
  obtain ⟨rfl, rfl, rfl⟩ := trodAll_nil hA
  obtain rfl : args = #[v0, v1] := by cases args; simp_all
  obtain ⟨rfl, rfl⟩ := trodVars_none hV
  obtain ⟨a0, n0, c0, rfl⟩ := okWide_slice Tryd.underlying23 (hval 0 23 v0 rfl rfl)
  have k0 := h0
  have lt0 : ∀ x ∈ p0, x.block < W.heap.size := by obtain ⟨m, hm⟩ := k0; exact DataW.trod_lt m _ _ _ hm
  obtain ⟨l0, g0, f0, b0⟩ := open_ups hsz (j := 0) rfl h0 rfl
  have k1 := h1
  have lt1 : ∀ x ∈ p1, x.block < W.heap.size := by obtain ⟨m, hm⟩ := k1; exact DataW.trod_lt m _ _ _ hm
  obtain ⟨tp1, vr1, fa1, fc1, fs1, rfl, g1, f1, b1, t1, j1⟩ := open_event hsz (j := 1) rfl rfl (hval 1 26 v1 rfl rfl) h1
  clear hA0 hval0 hsz0
  refine (UpTurns.walk a0 n0 c0 l0 tp1 vr1 fa1 fc1 fs1 W g0 f0 b0 g1 f1 b1 t1 j1 (vars_of_laid hL)).mono fun e W' ⟨he, bel⟩ => ?_
  subst he
  exact ⟨_, rfl, _, _, _, [], _, [], hW', trodAll_mk1 (shut_bool Tryd.underlying4 _), (trodAll_cons_mk (Below.trod laid_out (by kernel_rfl) (of_decide_eq_true (by kernel_rfl)) k0 bel lt0) (trodAll_cons_mk (Below.trod laid_out (by kernel_rfl) (of_decide_eq_true (by kernel_rfl)) k1 bel lt1) trodAll_mk0)), rfl, bel.frame _, fun h => by cases h⟩

theorem upcastTurns_holds : Rows.UpcastTurnsSaid :=
  OpenClaim.holds_of_wide 6 Tryd.f6 rfl rfl rfl rfl rfl rfl rfl ⟨rfl, rfl, rfl, rfl, rfl⟩ rfl rfl rfl rfl rfl (by kernel_rfl) Tryd.func6 (by kernel_rfl)
    (of_decide_eq_true (by kernel_rfl)) (by unfold Func.isWrapper; first | (rw [if_pos (by decide +kernel)]; kernel_rfl) | (rw [if_neg (by decide +kernel)]; exact ⟨rfl, rfl⟩))
    (fun os started H enc _ => UpTurns.lifted os started H enc)

theorem upcastTurnsCard_holds : Rows.UpcastTurnsCardSaid :=
  Claim7.holds_tied_plain_at .later [] _ _ _ _
    upcastTurns_holds (fun _ h => by cases h) (by kernel_rfl) (fun _ h => by cases h) upcastTurns_row_tie rfl ⟨rfl, rfl⟩ (by kernel_rfl) rfl
    (fun f fn hf hfn => by
      obtain rfl : f = 6 := Option.some.inj ((show Tryd.prog.funcNamed "cartulary/cartularylaw14.UpcastTurns" = some 6 by kernel_rfl).symm.trans hf) |>.symm
      obtain rfl : fn = Tryd.f6 := (Option.some.inj (Tryd.func6.symm.trans hfn)).symm
      exact ⟨by kernel_rfl, fun j t ht => by
        rw [Tryd.params6] at ht
        have h0 : ∀ (t : TypeId), t ∈ ([23, 26] : List TypeId) → Tryd.prog.wantsStandIn t = false := by
          intro t ht
          simp only [List.mem_cons, List.not_mem_nil, or_false] at ht
          rcases ht with rfl | rfl <;> kernel_rfl
        exact h0 t (List.mem_of_getElem? (by simpa using ht))⟩)
    (by kernel_rfl)
#print axioms upcastTurnsCard_holds
end Go.Proofs.YtfgjbmpbailebaaDoor
