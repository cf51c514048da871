/-
  DERIVED. RequestPipes: requests one behind the other are read one behind the other.
-/
import Derived.Test.YtankbanonbmffaaGreatDoorRqZ
import Derived.Test.YtankbanonbmffaaGreatDoorRqLaid
import Derived.Test.YtankbanonbmffaaGreatDoorCards
import Derived.Test.YtankbanonbmffaaGreatDoorTie
import Derived.SevenTiedAt
import Derived.ChangeMaps5
import Derived.SizedLaws
import Derived.OpenShut
namespace Go.Proofs.YtankbanonbmffaaGreatDoor
open Go.ChangeShapes Go.WideShapes Go.ChangeMaps Go.RowKit
set_option linter.unusedVariables false

set_option maxRecDepth 20000 in
set_option maxHeartbeats 4000000 in
theorem RqPipes.walk (s t : List UInt8) (w : World) (hs : s.length ≤ 140737488351232) (ht : t.length ≤ 140737488351232) : Calls Tryz.prog 8 #[qv s, qv t] w fun e w' => e = .returned (.bool true) ∧ Below w.heap.size w w' := by
  have HA := hide (awake_go w)
  have hl1 : s.length ≤ 281474976710656 := by omega
  cases hq : qParse s with
  | no e0 =>
    have HP1 := hide (fun W => parse_no s W hl1 hq)
    have f2 : ¬ e0 = 200 := by rcases parse_stat hq with h | h | h | h | h <;> omega
    have f1 : (e0 == 200) = false := beq_eq_false_iff_ne.2 f2
    have f3 : (e0 != 200) = true := by rw [bne, f1]; rfl
    clear hq hs ht hl1
    go_enter Tryz.func8, Tryz.ntmps8
    go_wp2_with (first | (go_at_call 9; refine (unhide HA).mono ?_; rintro e w1 ⟨rfl, b1⟩; have HB1 := hide b1; clear b1) | (go_at_call 10; refine (unhide HP1 _).mono ?_; rintro e w2 ⟨rfl, b2⟩; have HB2 := hide ((unhide HB1).trans (b2.mono (unhide HB1).size)); clear b2))
    go_ret
    exact ⟨rfl, (unhide HB2).alloc (unhide HB2).size _⟩
  | ok r n =>
    have hT := parse_taken hq
    have hk : qParse (s.take n ++ t) = .ok r n := (qParse_steady.ok _ _ _ hq).2 t
    have hn : n ≤ s.length := hT.le
    have hl2 : (s.take n ++ t).length ≤ 281474976710656 := by rw [List.length_append, List.length_take]; omega
    have HP1 := hide (fun W => parse_yes s W hl1 hq)
    have HP2 := hide (fun W => parse_yes (s.take n ++ t) W hl2 hk)
    have HLh : Hid (r.hs.length ≤ 4398046511104) := hide (by have := hT.heads; omega)
    have HX1 : Hid ((⟨s.toArray⟩ : ByteArray).extract 0 n = ⟨(s.take n).toArray⟩) := hide (by rw [ext_mid', List.drop_zero])
    have hnn : (n : Int) ≤ (s.length : Int) := by omega
    have hl3 : t.length ≤ 281474976710656 := by omega
    have hsum : ¬ 9223372036854775807 < min n s.length + t.length := by omega
    have HX2 : Hid (((⟨s.toArray⟩ : ByteArray).extract 0 n ++ ⟨t.toArray⟩) = ⟨(s.take n ++ t).toArray⟩) := hide (by rw [unhide HX1]; exact cat_bytes _ _)
    have HAL : Hid ((s.take n ++ t).length = n + t.length) := hide (by rw [List.length_append, List.length_take]; omega)
    have HAD : Hid ((s.take n ++ t).drop n = t) := hide (by rw [List.drop_append_of_le_length (by rw [List.length_take]; omega), List.drop_of_length_le (by rw [List.length_take]; omega)]; rfl)
    clear hq hk hs ht hl1 hl2 hT hn
    go_enter Tryz.func8, Tryz.ntmps8
    go_upto_region 3 with (first | (go_at_call 9; refine (unhide HA).mono ?_; rintro e w1 ⟨rfl, b1⟩; have HB1 := hide b1; clear b1) | (go_at_call 10; refine (unhide HP1 _).mono ?_; rintro e w2 ⟨a1, k1, rfl, o1, b2⟩; have HB2 := hide ((unhide HB1).trans (b2.mono (unhide HB1).size)); have HO1 := hide o1.hdl; clear b2 o1))
    obtain ⟨x1, hx1⟩ : ∃ y, y = w2.heap.size := ⟨_, rfl⟩
    have hr := RBox.new w2 (qv r.m) (qv r.p) (qv r.q) (.slice a1 r.hs.length k1) (qv r.b) (.bool r.cl)
    have hb3 : Below w2.heap.size w2 (w2.alloc (.cells #[qv r.m, qv r.p, qv r.q, .slice a1 r.hs.length k1, qv r.b, .bool r.cl] 25)) := (Below.refl _ _).alloc (Nat.le_refl _) _
    generalize hW3 : w2.alloc (.cells #[qv r.m, qv r.p, qv r.q, .slice a1 r.hs.length k1, qv r.b, .bool r.cl] 25) = w3 at hr hb3 ⊢
    have HB3 := hide ((unhide HB2).trans (hb3.mono (unhide HB2).size))
    have HO3 := hide ((unhide HO1).below hb3 (Nat.le_refl _))
    rw [← hx1] at hr ⊢
    have HR3 := hide hr
    clear hx1 hW3 hb3 hr
    go_upto_region 6 with fail
    rw [unhide HX2]
    obtain ⟨A, hA⟩ : ∃ A, A = s.take n ++ t := ⟨_, rfl⟩
    rw [← hA] at HP2 HAL HAD ⊢
    have hnA : (n : Int) ≤ (A.length : Int) := by have := unhide HAL; omega
    have HX3 : Hid ((⟨A.toArray⟩ : ByteArray).extract n A.length = ⟨t.toArray⟩) := hide (by rw [ext_mid', List.take_of_length_le (Nat.le_refl _), unhide HAD])
    clear hA HX1 HX2 hsum hnn
    have HR1_3 := HR3
    have HO1_3 := HO3
    go_upto_region 7 with (go_at_call 10; refine (unhide HP2 _).mono ?_; rintro e w4 ⟨a2, k2, rfl, o2, b4⟩; have HB4 := hide ((unhide HB3).trans (b4.mono (unhide HB3).size)); have HO2_4 := hide o2.hdl; have HR1_4 := hide ((unhide HR1_3).below b4 (Nat.le_refl _)); have HO1_4 := hide ((unhide HO1_3).below b4 (Nat.le_refl _)); clear b4 o2)
    obtain ⟨x2, hx2⟩ : ∃ y, y = w4.heap.size := ⟨_, rfl⟩
    have hr := RBox.new w4 (qv r.m) (qv r.p) (qv r.q) (.slice a2 r.hs.length k2) (qv r.b) (.bool r.cl)
    have hb3 : Below w4.heap.size w4 (w4.alloc (.cells #[qv r.m, qv r.p, qv r.q, .slice a2 r.hs.length k2, qv r.b, .bool r.cl] 25)) := (Below.refl _ _).alloc (Nat.le_refl _) _
    generalize hW3 : w4.alloc (.cells #[qv r.m, qv r.p, qv r.q, .slice a2 r.hs.length k2, qv r.b, .bool r.cl] 25) = w5 at hr hb3 ⊢
    have HB5 := hide ((unhide HB4).trans (hb3.mono (unhide HB4).size))
    have HR1_5 := hide ((unhide HR1_4).below hb3 (Nat.le_refl _))
    have HO1_5 := hide ((unhide HO1_4).below hb3 (Nat.le_refl _))
    have HO2_5 := hide ((unhide HO2_4).below hb3 (Nat.le_refl _))
    rw [← hx2] at hr ⊢
    have HR2_5 := hide hr
    clear hx2 hW3 hb3 hr
    have d0 := (unhide HR1_5).c0
    have d1 := (unhide HR1_5).c1
    have d2 := (unhide HR1_5).c2
    have d3 := (unhide HR1_5).c3
    have d4 := (unhide HR1_5).c4
    have d5 := (unhide HR1_5).c5
    have e0 := (unhide HR2_5).c0
    have e1 := (unhide HR2_5).c1
    have e2 := (unhide HR2_5).c2
    have e3 := (unhide HR2_5).c3
    have e4 := (unhide HR2_5).c4
    have e5 := (unhide HR2_5).c5
    go_upto_region 10 with (go_at_call 12; refine (same_any r.m r.p r.q _ r.b r.cl r.hs r.m r.p r.q _ r.b r.cl r.hs _ (unhide HO1_5) (unhide HO2_5) (unhide HLh)).mono ?_; rw [sameR_self]; rintro e w6 ⟨rfl, b6⟩; have HB6 := hide ((unhide HB5).trans (b6.mono (unhide HB5).size)); clear b6 d0 d1 d2 d3 d4 d5 e0 e1 e2 e3 e4 e5)
    cases hq : qParse t with
    | no e1 =>
      have HP3 := hide (fun W => parse_no t W hl3 hq)
      clear hq
      go_upto_region 11 with (go_at_call 10; (first | rw [unhide HX3] | skip); refine (unhide HP3 _).mono ?_; rintro e w7 ⟨rfl, b7⟩; have HB7 := hide ((unhide HB6).trans (b7.mono (unhide HB6).size)); clear b7)
      obtain ⟨x3, hx3⟩ : ∃ y, y = w7.heap.size := ⟨_, rfl⟩
      have hr := RBox.new w7 (qv []) (qv []) (qv []) (.slice none 0 0) (qv []) (.bool false)
      have hb3 : Below w7.heap.size w7 (w7.alloc (.cells #[qv [], qv [], qv [], .slice none 0 0, qv [], .bool false] 25)) := (Below.refl _ _).alloc (Nat.le_refl _) _
      generalize hW3 : w7.alloc (.cells #[qv [], qv [], qv [], .slice none 0 0, qv [], .bool false] 25) = w8 at hr hb3 ⊢
      have HB8 := hide ((unhide HB7).trans (hb3.mono (unhide HB7).size))
      rw [← hx3] at hr ⊢
      have HR3_8 := hide hr
      clear hx3 hW3 hb3 hr
      go_upto_region 12 with (go_at_call 10; refine (unhide HP3 _).mono ?_; rintro e w9 ⟨rfl, b9⟩; have HB9 := hide ((unhide HB8).trans (b9.mono (unhide HB8).size)); have HR3_9 := hide ((unhide HR3_8).below b9 (Nat.le_refl _)); clear b9)
      obtain ⟨x4, hx4⟩ : ∃ y, y = w9.heap.size := ⟨_, rfl⟩
      have hr := RBox.new w9 (qv []) (qv []) (qv []) (.slice none 0 0) (qv []) (.bool false)
      have hb3 : Below w9.heap.size w9 (w9.alloc (.cells #[qv [], qv [], qv [], .slice none 0 0, qv [], .bool false] 25)) := (Below.refl _ _).alloc (Nat.le_refl _) _
      generalize hW3 : w9.alloc (.cells #[qv [], qv [], qv [], .slice none 0 0, qv [], .bool false] 25) = w10 at hr hb3 ⊢
      have HB10 := hide ((unhide HB9).trans (hb3.mono (unhide HB9).size))
      have HR3_10 := hide ((unhide HR3_9).below hb3 (Nat.le_refl _))
      rw [← hx4] at hr ⊢
      have HR4_10 := hide hr
      clear hx4 hW3 hb3 hr
      have d0 := (unhide HR3_10).c0
      have d1 := (unhide HR3_10).c1
      have d2 := (unhide HR3_10).c2
      have d3 := (unhide HR3_10).c3
      have d4 := (unhide HR3_10).c4
      have d5 := (unhide HR3_10).c5
      have e0 := (unhide HR4_10).c0
      have e1 := (unhide HR4_10).c1
      have e2 := (unhide HR4_10).c2
      have e3 := (unhide HR4_10).c3
      have e4 := (unhide HR4_10).c4
      have e5 := (unhide HR4_10).c5
      go_wp2_with (go_at_call 12; refine (same_any [] [] [] (.slice none 0 0) [] false [] [] [] [] (.slice none 0 0) [] false [] _ (HdL.empty _) (HdL.empty _) (by simp)).mono ?_; rw [sameR_self]; rintro e w11 ⟨rfl, b11⟩; have HB11 := hide ((unhide HB10).trans (b11.mono (unhide HB10).size)); clear b11)
      go_ret
      exact ⟨rfl, unhide HB11⟩
    | ok q n2 =>
      have HP3 := hide (fun W => parse_yes t W hl3 hq)
      have HLq : Hid (q.hs.length ≤ 4398046511104) := hide (by have := (parse_taken hq).heads; omega)
      clear hq
      go_upto_region 11 with (go_at_call 10; (first | rw [unhide HX3] | skip); refine (unhide HP3 _).mono ?_; rintro e w7 ⟨a3, k3, rfl, o3, b7⟩; have HB7 := hide ((unhide HB6).trans (b7.mono (unhide HB6).size)); have HO3_7 := hide o3.hdl; clear b7 o3)
      obtain ⟨x3, hx3⟩ : ∃ y, y = w7.heap.size := ⟨_, rfl⟩
      have hr := RBox.new w7 (qv q.m) (qv q.p) (qv q.q) (.slice a3 q.hs.length k3) (qv q.b) (.bool q.cl)
      have hb3 : Below w7.heap.size w7 (w7.alloc (.cells #[qv q.m, qv q.p, qv q.q, .slice a3 q.hs.length k3, qv q.b, .bool q.cl] 25)) := (Below.refl _ _).alloc (Nat.le_refl _) _
      generalize hW3 : w7.alloc (.cells #[qv q.m, qv q.p, qv q.q, .slice a3 q.hs.length k3, qv q.b, .bool q.cl] 25) = w8 at hr hb3 ⊢
      have HB8 := hide ((unhide HB7).trans (hb3.mono (unhide HB7).size))
      have HO3_8 := hide ((unhide HO3_7).below hb3 (Nat.le_refl _))
      rw [← hx3] at hr ⊢
      have HR3_8 := hide hr
      clear hx3 hW3 hb3 hr
      go_upto_region 12 with (go_at_call 10; refine (unhide HP3 _).mono ?_; rintro e w9 ⟨a4, k4, rfl, o4, b9⟩; have HB9 := hide ((unhide HB8).trans (b9.mono (unhide HB8).size)); have HO4_9 := hide o4.hdl; have HR3_9 := hide ((unhide HR3_8).below b9 (Nat.le_refl _)); have HO3_9 := hide ((unhide HO3_8).below b9 (Nat.le_refl _)); clear b9 o4)
      obtain ⟨x4, hx4⟩ : ∃ y, y = w9.heap.size := ⟨_, rfl⟩
      have hr := RBox.new w9 (qv q.m) (qv q.p) (qv q.q) (.slice a4 q.hs.length k4) (qv q.b) (.bool q.cl)
      have hb3 : Below w9.heap.size w9 (w9.alloc (.cells #[qv q.m, qv q.p, qv q.q, .slice a4 q.hs.length k4, qv q.b, .bool q.cl] 25)) := (Below.refl _ _).alloc (Nat.le_refl _) _
      generalize hW3 : w9.alloc (.cells #[qv q.m, qv q.p, qv q.q, .slice a4 q.hs.length k4, qv q.b, .bool q.cl] 25) = w10 at hr hb3 ⊢
      have HB10 := hide ((unhide HB9).trans (hb3.mono (unhide HB9).size))
      have HR3_10 := hide ((unhide HR3_9).below hb3 (Nat.le_refl _))
      have HO3_10 := hide ((unhide HO3_9).below hb3 (Nat.le_refl _))
      have HO4_10 := hide ((unhide HO4_9).below hb3 (Nat.le_refl _))
      rw [← hx4] at hr ⊢
      have HR4_10 := hide hr
      clear hx4 hW3 hb3 hr
      have d0 := (unhide HR3_10).c0
      have d1 := (unhide HR3_10).c1
      have d2 := (unhide HR3_10).c2
      have d3 := (unhide HR3_10).c3
      have d4 := (unhide HR3_10).c4
      have d5 := (unhide HR3_10).c5
      have e0 := (unhide HR4_10).c0
      have e1 := (unhide HR4_10).c1
      have e2 := (unhide HR4_10).c2
      have e3 := (unhide HR4_10).c3
      have e4 := (unhide HR4_10).c4
      have e5 := (unhide HR4_10).c5
      go_wp2_with (go_at_call 12; refine (same_any q.m q.p q.q _ q.b q.cl q.hs q.m q.p q.q _ q.b q.cl q.hs _ (unhide HO3_10) (unhide HO4_10) (unhide HLq)).mono ?_; rw [sameR_self]; rintro e w11 ⟨rfl, b11⟩; have HB11 := hide ((unhide HB10).trans (b11.mono (unhide HB10).size)); clear b11)
      go_ret
      exact ⟨rfl, unhide HB11⟩

set_option maxRecDepth 100000 in
theorem RqPipes.lifted (os : Os) (started : os.Started) (H : Type) (enc : TypeId × Value → H) :
    ReturnsInHanded {} Tryz.checked os 8 .any (fun w args => (Rows.requestPipesSpec.pre enc Tryz.prog Tryz.f8 [] false w args ∧ laidMetH Tryz.prog seatLaid w) ∧ sizedMet enc Tryz.prog Tryz.f8 (OpenSpec.ofChange Rows.requestPipesSpec) false w args)
      (Rows.requestPipesSpec.post enc Tryz.prog Tryz.f8 false true false false) := by
  refine returnsInHanded_of_change_and (C := Tryz.checked) (X := fun w _ => laidMetH Tryz.prog seatLaid w) (fun _ _ _ hh h => h.of_heap hh) own_knob started (by kernel_rfl) Tryz.func8
    (ChangeSpec.witness_at (enc := enc) (C := Tryz.checked) (os := os) (X := fun w _ => laidMetH Tryz.prog seatLaid w) false (laidWorld os) #[.string ⟨#[]⟩, .string ⟨#[]⟩] 8 rfl (by kernel_rfl) (by kernel_rfl) (by kernel_rfl) (by kernel_rfl) (by kernel_rfl) (laidWorld_met os _)) ?_
  intro W base args ds gs before hval0 hW _ hsz0 hL _
  have hval : ∀ (j : Nat) t v, Tryz.f8.params[j]? = some t → args[j]? = some v → Value.okWide Tryz.prog W .any base t v := hval0
  have hsz : (DataW.weightsEach Tryz.prog (Tryz.f8.params.toList ++ Rows.requestPipesSpec.plain.varTypes Tryz.prog) (ds ++ gs)).all (· ≤ reachBytes) = true := hsz0
  have hW' := hW
  obtain ⟨p, q, hA0, hV, rfl, hfz, hnd⟩ := hW
  have hA : DataW.TrodAll enc Tryz.prog W 0 (fun _ => true) true Tryz.f8.params.toList args.toList ds p := hA0
  rw [Tryz.params8] at hA hval hsz
  obtain ⟨v0, vs0, d0, ds0, p0, q0, e0, rfl, rfl, h0, hA⟩ := trodAll_cons hA
  obtain ⟨v1, vs1, d1, ds1, p1, q1, rfl, rfl, rfl, h1, hA⟩ := trodAll_cons hA
  obtain ⟨rfl, rfl, rfl⟩ := trodAll_nil hA
  obtain rfl : args = #[v0, v1] := by cases args; simp_all
  obtain ⟨rfl, rfl⟩ := trodVars_none hV
  obtain ⟨s0, rfl, rfl, rfl, hs0⟩ := open_string Tryz.underlying9 (hval 0 9 v0 rfl rfl) h0
  have ls0 : s0.data.toList.length ≤ 140737488351232 := by
    have := sized_string hsz (j := 0) (t := 9) rfl rfl
    simp only [reachBytes] at this
    omega
  obtain ⟨s1, rfl, rfl, rfl, hs1⟩ := open_string Tryz.underlying9 (hval 1 9 v1 rfl rfl) h1
  have ls1 : s1.data.toList.length ≤ 140737488351232 := by
    have := sized_string hsz (j := 1) (t := 9) rfl rfl
    simp only [reachBytes] at this
    omega
  clear hA0 hval0 hsz0
  refine (RqPipes.walk s0.data.toList s1.data.toList W (by omega) (by omega)).mono fun e W' ⟨he, bel⟩ => ?_
  subst he
  exact ⟨_, rfl, _, _, _, [], _, [], hW', trodAll_mk1 (shut_bool Tryz.underlying4 _), (trodAll_cons_mk (shut_string Tryz.underlying9 hs0) (trodAll_cons_mk (shut_string Tryz.underlying9 hs1) trodAll_mk0)), rfl, bel.frame _, fun h => by cases h⟩

theorem requestPipes_holds : Rows.RequestPipesSaid :=
  OpenClaim.holds_of_wide 8 Tryz.f8 rfl rfl rfl rfl rfl rfl rfl ⟨rfl, rfl, rfl, rfl, rfl⟩ rfl rfl rfl rfl rfl (by kernel_rfl) Tryz.func8 (by kernel_rfl)
    (of_decide_eq_true (by kernel_rfl)) (by unfold Func.isWrapper; first | (rw [if_pos (by decide +kernel)]; kernel_rfl) | (rw [if_neg (by decide +kernel)]; exact ⟨rfl, rfl⟩))
    (fun os started H enc _ => RqPipes.lifted os started H enc)

theorem requestPipesCard_holds : Rows.RequestPipesCardSaid :=
  Claim7.holds_tied_plain_at .later [] _ _ _ _
    requestPipes_holds (fun _ h => by cases h) (by kernel_rfl) (fun _ h => by cases h) requestPipes_row_tie rfl ⟨rfl, rfl⟩ (by kernel_rfl) rfl
    (fun f fn hf hfn => by
      obtain rfl : f = 8 := Option.some.inj ((show Tryz.prog.funcNamed "cartulary/cartularylaw18.RequestPipes" = some 8 by kernel_rfl).symm.trans hf) |>.symm
      obtain rfl : fn = Tryz.f8 := (Option.some.inj (Tryz.func8.symm.trans hfn)).symm
      exact ⟨by kernel_rfl, fun j t ht => by
        rw [Tryz.params8] at ht
        have h0 : ∀ (t : TypeId), t ∈ ([9, 9] : List TypeId) → Tryz.prog.wantsStandIn t = false := by
          intro t ht
          simp only [List.mem_cons, List.not_mem_nil, or_false] at ht
          rcases ht with rfl | rfl <;> kernel_rfl
        exact h0 t (List.mem_of_getElem? (by simpa using ht))⟩)
    (by kernel_rfl)
#print axioms requestPipesCard_holds
end Go.Proofs.YtankbanonbmffaaGreatDoor
