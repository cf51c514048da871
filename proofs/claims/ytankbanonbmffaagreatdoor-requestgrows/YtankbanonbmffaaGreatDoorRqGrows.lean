/-
  DERIVED. RequestGrows: what is told of a text is told of every text that begins with it.
-/
import Derived.Test.YtankbanonbmffaaGreatDoorRqZ
import Derived.Test.YtankbanonbmffaaGreatDoorRqLaid
import Derived.Test.YtankbanonbmffaaGreatDoorCards
import Derived.Test.YtankbanonbmffaaGreatDoorTie
import Derived.SevenTiedAt
import Derived.ChangeMaps5
import Derived.SizedLaws
import Derived.OpenShut
namespace Go.Proofs.YtankbanonbmffaaGreatDoor
open Go.ChangeShapes Go.WideShapes Go.ChangeMaps Go.RowKit
set_option linter.unusedVariables false

set_option maxRecDepth 20000 in
set_option maxHeartbeats 4000000 in
theorem RqGrows.walk (s : List UInt8) (x : Int) (t : List UInt8) (w : World) (hs : s.length ≤ 140737488351232) (ht : t.length ≤ 140737488351232) : Calls Tryz.prog 5 #[qv s, .int .i64 x, qv t] w fun e w' => e = .returned (.bool true) ∧ Below w.heap.size w w' := by
  have HA := hide (awake_go w)
  obtain ⟨c, hc⟩ : ∃ c, c = if x < 0 ∨ (s.length : Int) < x then s.length else x.toNat := ⟨_, rfl⟩
  have hcs : c ≤ s.length := by rw [hc]; split <;> omega
  have HSl := hide hs
  have HTl := hide ht
  have HC := hide hc
  have HCs := hide hcs
  by_cases h1 : x < 0
  · have HX1 : Hid ((⟨s.toArray⟩ : ByteArray).extract 0 c = ⟨(s.take c).toArray⟩) := hide (by rw [ext_mid', List.drop_zero])
    have HX2 : Hid (((⟨s.toArray⟩ : ByteArray) ++ ⟨t.toArray⟩) = ⟨(s ++ t).toArray⟩) := hide (cat_bytes s t)
    have hsum : ¬ 9223372036854775807 < s.length + t.length := by omega
    have hl1 : (s.take c).length ≤ 281474976710656 := by rw [List.length_take]; omega
    have hl2 : (s ++ t).length ≤ 281474976710656 := by rw [List.length_append]; omega
    clear hs ht hc hcs
    go_enter Tryz.func5, Tryz.ntmps5
    go_upto_region 4 with (first | (go_at_call 9; refine (unhide HA).mono ?_; rintro e w1 ⟨rfl, b1⟩; have HB1 := hide b1; clear b1))
    have hcc : Hid (c = s.length) := hide (by rw [unhide HC, if_pos (.inl h1)])
    rw [show ((s.length : Nat) : Int) = (c : Int) by rw [unhide hcc]]
    have hcs : (c : Int) ≤ (s.length : Int) := by have := unhide HCs; omega
    clear hcc HC
    cases hq : qParse (s.take c) with
    | no e0 =>
      have HP1 := hide (fun W => parse_no (s.take c) W hl1 hq)
      by_cases he : e0 = 0
      · subst he
        cases hk : qParse (s ++ t) with
        | no e1 =>
          have HP2 := hide (fun W => parse_no (s ++ t) W hl2 hk)
          have hst := parse_stat hk
          clear hq hk hl1 hl2
          by_cases h0 : e1 = 0
          · subst h0
            clear hst
            go_upto_region 5 with (go_at_call 10; rw [unhide HX1]; refine (unhide HP1 _).mono ?_; rintro e w2 ⟨rfl, b2⟩; have HB2 := hide ((unhide HB1).trans (b2.mono (unhide HB1).size)); clear b2)
            obtain ⟨x1, hx1⟩ : ∃ y, y = w2.heap.size := ⟨_, rfl⟩
            have hr := RBox.new w2 (qv []) (qv []) (qv []) (.slice none 0 0) (qv []) (.bool false)
            have hb3 : Below w2.heap.size w2 (w2.alloc (.cells #[qv [], qv [], qv [], .slice none 0 0, qv [], .bool false] 25)) := (Below.refl _ _).alloc (Nat.le_refl _) _
            generalize hW3 : w2.alloc (.cells #[qv [], qv [], qv [], .slice none 0 0, qv [], .bool false] 25) = w3 at hr hb3 ⊢
            have HB3 := hide ((unhide HB2).trans (hb3.mono (unhide HB2).size))
            rw [← hx1] at hr ⊢
            have HR3 := hide hr
            clear hx1 hW3 hb3 hr
            go_upto_region 6 with (go_at_call 10; rw [unhide HX2]; refine (unhide HP2 _).mono ?_; rintro e w4 ⟨rfl, b4⟩; have HB4 := hide ((unhide HB3).trans (b4.mono (unhide HB3).size)); have HR4 := hide ((unhide HR3).below b4 (Nat.le_refl _)); clear b4)
            obtain ⟨x2, hx2⟩ : ∃ y, y = w4.heap.size := ⟨_, rfl⟩
            have hr := RBox.new w4 (qv []) (qv []) (qv []) (.slice none 0 0) (qv []) (.bool false)
            have hb3 : Below w4.heap.size w4 (w4.alloc (.cells #[qv [], qv [], qv [], .slice none 0 0, qv [], .bool false] 25)) := (Below.refl _ _).alloc (Nat.le_refl _) _
            generalize hW3 : w4.alloc (.cells #[qv [], qv [], qv [], .slice none 0 0, qv [], .bool false] 25) = w5 at hr hb3 ⊢
            have HB5 := hide ((unhide HB4).trans (hb3.mono (unhide HB4).size))
            have HR5 := hide ((unhide HR4).below hb3 (Nat.le_refl _))
            rw [← hx2] at hr ⊢
            have HS5 := hide hr
            clear hx2 hW3 hb3 hr
            have d0 := (unhide HR5).c0
            have d1 := (unhide HR5).c1
            have d2 := (unhide HR5).c2
            have d3 := (unhide HR5).c3
            have d4 := (unhide HR5).c4
            have d5 := (unhide HR5).c5
            go_wp2_with (go_at_call 12; refine (same_any [] [] [] (.slice none 0 0) [] false [] [] [] [] (.slice none 0 0) [] false [] _ (HdL.empty _) (HdL.empty _) (by simp)).mono ?_; rw [show sameR [] [] [] [] [] false [] [] [] [] [] false = true from rfl]; rintro e w6 ⟨rfl, b6⟩; have HB6 := hide ((unhide HB5).trans (b6.mono (unhide HB5).size)); clear b6)
            go_ret
            exact ⟨rfl, unhide HB6⟩
          · have f0 : (e1 == 0) = false := beq_eq_false_iff_ne.2 h0
            have f2 : ¬ e1 = 200 := by rcases hst with h | h | h | h | h <;> omega
            have f1 : (e1 == 200) = false := beq_eq_false_iff_ne.2 f2
            have f3 : (e1 != 200) = true := by rw [bne, f1]; rfl
            clear hst
            go_upto_region 5 with (go_at_call 10; rw [unhide HX1]; refine (unhide HP1 _).mono ?_; rintro e w2 ⟨rfl, b2⟩; have HB2 := hide ((unhide HB1).trans (b2.mono (unhide HB1).size)); clear b2)
            obtain ⟨x1, hx1⟩ : ∃ y, y = w2.heap.size := ⟨_, rfl⟩
            have hr := RBox.new w2 (qv []) (qv []) (qv []) (.slice none 0 0) (qv []) (.bool false)
            have hb3 : Below w2.heap.size w2 (w2.alloc (.cells #[qv [], qv [], qv [], .slice none 0 0, qv [], .bool false] 25)) := (Below.refl _ _).alloc (Nat.le_refl _) _
            generalize hW3 : w2.alloc (.cells #[qv [], qv [], qv [], .slice none 0 0, qv [], .bool false] 25) = w3 at hr hb3 ⊢
            have HB3 := hide ((unhide HB2).trans (hb3.mono (unhide HB2).size))
            rw [← hx1] at hr ⊢
            have HR3 := hide hr
            clear hx1 hW3 hb3 hr
            go_upto_region 6 with (go_at_call 10; rw [unhide HX2]; refine (unhide HP2 _).mono ?_; rintro e w4 ⟨rfl, b4⟩; have HB4 := hide ((unhide HB3).trans (b4.mono (unhide HB3).size)); have HR4 := hide ((unhide HR3).below b4 (Nat.le_refl _)); clear b4)
            obtain ⟨x2, hx2⟩ : ∃ y, y = w4.heap.size := ⟨_, rfl⟩
            have hr := RBox.new w4 (qv []) (qv []) (qv []) (.slice none 0 0) (qv []) (.bool false)
            have hb3 : Below w4.heap.size w4 (w4.alloc (.cells #[qv [], qv [], qv [], .slice none 0 0, qv [], .bool false] 25)) := (Below.refl _ _).alloc (Nat.le_refl _) _
            generalize hW3 : w4.alloc (.cells #[qv [], qv [], qv [], .slice none 0 0, qv [], .bool false] 25) = w5 at hr hb3 ⊢
            have HB5 := hide ((unhide HB4).trans (hb3.mono (unhide HB4).size))
            have HR5 := hide ((unhide HR4).below hb3 (Nat.le_refl _))
            rw [← hx2] at hr ⊢
            have HS5 := hide hr
            clear hx2 hW3 hb3 hr
            have d0 := (unhide HR5).c0
            have d1 := (unhide HR5).c1
            have d2 := (unhide HR5).c2
            have d3 := (unhide HR5).c3
            have d4 := (unhide HR5).c4
            have d5 := (unhide HR5).c5
            go_wp2_with (go_at_call 12; refine (same_any [] [] [] (.slice none 0 0) [] false [] [] [] [] (.slice none 0 0) [] false [] _ (HdL.empty _) (HdL.empty _) (by simp)).mono ?_; rw [show sameR [] [] [] [] [] false [] [] [] [] [] false = true from rfl]; rintro e w6 ⟨rfl, b6⟩; have HB6 := hide ((unhide HB5).trans (b6.mono (unhide HB5).size)); clear b6)
            go_ret
            exact ⟨rfl, unhide HB6⟩
        | ok r n =>
          have HP2 := hide (fun W => parse_yes (s ++ t) W hl2 hk)
          have hgt : (c : Int) < (n : Int) := by have := grows_more hq hk; omega
          clear hq hk hl1 hl2
          go_upto_region 5 with (go_at_call 10; rw [unhide HX1]; refine (unhide HP1 _).mono ?_; rintro e w2 ⟨rfl, b2⟩; have HB2 := hide ((unhide HB1).trans (b2.mono (unhide HB1).size)); clear b2)
          obtain ⟨x1, hx1⟩ : ∃ y, y = w2.heap.size := ⟨_, rfl⟩
          have hr := RBox.new w2 (qv []) (qv []) (qv []) (.slice none 0 0) (qv []) (.bool false)
          have hb3 : Below w2.heap.size w2 (w2.alloc (.cells #[qv [], qv [], qv [], .slice none 0 0, qv [], .bool false] 25)) := (Below.refl _ _).alloc (Nat.le_refl _) _
          generalize hW3 : w2.alloc (.cells #[qv [], qv [], qv [], .slice none 0 0, qv [], .bool false] 25) = w3 at hr hb3 ⊢
          have HB3 := hide ((unhide HB2).trans (hb3.mono (unhide HB2).size))
          rw [← hx1] at hr ⊢
          have HR3 := hide hr
          clear hx1 hW3 hb3 hr
          go_upto_region 6 with (go_at_call 10; rw [unhide HX2]; refine (unhide HP2 _).mono ?_; rintro e w4 ⟨a2, k2, rfl, o2, b4⟩; have HB4 := hide ((unhide HB3).trans (b4.mono (unhide HB3).size)); have HO2 := hide o2.hdl; have HR4 := hide ((unhide HR3).below b4 (Nat.le_refl _)); clear b4 o2)
          obtain ⟨x2, hx2⟩ : ∃ y, y = w4.heap.size := ⟨_, rfl⟩
          have hr := RBox.new w4 (qv r.m) (qv r.p) (qv r.q) (.slice a2 r.hs.length k2) (qv r.b) (.bool r.cl)
          have hb3 : Below w4.heap.size w4 (w4.alloc (.cells #[qv r.m, qv r.p, qv r.q, .slice a2 r.hs.length k2, qv r.b, .bool r.cl] 25)) := (Below.refl _ _).alloc (Nat.le_refl _) _
          generalize hW3 : w4.alloc (.cells #[qv r.m, qv r.p, qv r.q, .slice a2 r.hs.length k2, qv r.b, .bool r.cl] 25) = w5 at hr hb3 ⊢
          have HB5 := hide ((unhide HB4).trans (hb3.mono (unhide HB4).size))
          have HO5b := hide ((unhide HO2).below hb3 (Nat.le_refl _))
          have HR5 := hide ((unhide HR4).below hb3 (Nat.le_refl _))
          rw [← hx2] at hr ⊢
          have HS5 := hide hr
          clear hx2 hW3 hb3 hr
          have d0 := (unhide HR5).c0
          have d1 := (unhide HR5).c1
          have d2 := (unhide HR5).c2
          have d3 := (unhide HR5).c3
          have d4 := (unhide HR5).c4
          have d5 := (unhide HR5).c5
          go_wp2_with (go_at_call 12; refine (same_any [] [] [] (.slice none 0 0) [] false [] [] [] [] (.slice none 0 0) [] false [] _ (HdL.empty _) (HdL.empty _) (by simp)).mono ?_; rw [show sameR [] [] [] [] [] false [] [] [] [] [] false = true from rfl]; rintro e w6 ⟨rfl, b6⟩; have HB6 := hide ((unhide HB5).trans (b6.mono (unhide HB5).size)); clear b6)
          go_ret
          exact ⟨rfl, unhide HB6⟩
      · have hk := grows_no (t := t) hq he
        have HP2 := hide (fun W => parse_no (s ++ t) W hl2 hk)
        have f0 : (e0 == 0) = false := beq_eq_false_iff_ne.2 he
        clear hq hk hl1 hl2 he
        go_upto_region 5 with (go_at_call 10; rw [unhide HX1]; refine (unhide HP1 _).mono ?_; rintro e w2 ⟨rfl, b2⟩; have HB2 := hide ((unhide HB1).trans (b2.mono (unhide HB1).size)); clear b2)
        obtain ⟨x1, hx1⟩ : ∃ y, y = w2.heap.size := ⟨_, rfl⟩
        have hr := RBox.new w2 (qv []) (qv []) (qv []) (.slice none 0 0) (qv []) (.bool false)
        have hb3 : Below w2.heap.size w2 (w2.alloc (.cells #[qv [], qv [], qv [], .slice none 0 0, qv [], .bool false] 25)) := (Below.refl _ _).alloc (Nat.le_refl _) _
        generalize hW3 : w2.alloc (.cells #[qv [], qv [], qv [], .slice none 0 0, qv [], .bool false] 25) = w3 at hr hb3 ⊢
        have HB3 := hide ((unhide HB2).trans (hb3.mono (unhide HB2).size))
        rw [← hx1] at hr ⊢
        have HR3 := hide hr
        clear hx1 hW3 hb3 hr
        go_upto_region 6 with (go_at_call 10; rw [unhide HX2]; refine (unhide HP2 _).mono ?_; rintro e w4 ⟨rfl, b4⟩; have HB4 := hide ((unhide HB3).trans (b4.mono (unhide HB3).size)); have HR4 := hide ((unhide HR3).below b4 (Nat.le_refl _)); clear b4)
        obtain ⟨x2, hx2⟩ : ∃ y, y = w4.heap.size := ⟨_, rfl⟩
        have hr := RBox.new w4 (qv []) (qv []) (qv []) (.slice none 0 0) (qv []) (.bool false)
        have hb3 : Below w4.heap.size w4 (w4.alloc (.cells #[qv [], qv [], qv [], .slice none 0 0, qv [], .bool false] 25)) := (Below.refl _ _).alloc (Nat.le_refl _) _
        generalize hW3 : w4.alloc (.cells #[qv [], qv [], qv [], .slice none 0 0, qv [], .bool false] 25) = w5 at hr hb3 ⊢
        have HB5 := hide ((unhide HB4).trans (hb3.mono (unhide HB4).size))
        have HR5 := hide ((unhide HR4).below hb3 (Nat.le_refl _))
        rw [← hx2] at hr ⊢
        have HS5 := hide hr
        clear hx2 hW3 hb3 hr
        have d0 := (unhide HR5).c0
        have d1 := (unhide HR5).c1
        have d2 := (unhide HR5).c2
        have d3 := (unhide HR5).c3
        have d4 := (unhide HR5).c4
        have d5 := (unhide HR5).c5
        have e0 := (unhide HS5).c0
        have e1 := (unhide HS5).c1
        have e2 := (unhide HS5).c2
        have e3 := (unhide HS5).c3
        have e4 := (unhide HS5).c4
        have e5 := (unhide HS5).c5
        go_wp2_with (go_at_call 12; refine (same_any [] [] [] (.slice none 0 0) [] false [] [] [] [] (.slice none 0 0) [] false [] _ (HdL.empty _) (HdL.empty _) (by simp)).mono ?_; rw [show sameR [] [] [] [] [] false [] [] [] [] [] false = true from rfl]; rintro e w6 ⟨rfl, b6⟩; have HB6 := hide ((unhide HB5).trans (b6.mono (unhide HB5).size)); clear b6)
        go_ret
        exact ⟨rfl, unhide HB6⟩
    | ok r n =>
      have hk := grows_ok (t := t) hq
      have HP1 := hide (fun W => parse_yes (s.take c) W hl1 hq)
      have HP2 := hide (fun W => parse_yes (s ++ t) W hl2 hk)
      have HLh : Hid (r.hs.length ≤ 4398046511104) := hide (by have := (parse_taken hq).heads; omega)
      clear hq hk hl1 hl2
      go_upto_region 5 with (go_at_call 10; rw [unhide HX1]; refine (unhide HP1 _).mono ?_; rintro e w2 ⟨a1, k1, rfl, o1, b2⟩; have HB2 := hide ((unhide HB1).trans (b2.mono (unhide HB1).size)); have HO1 := hide o1.hdl; clear b2 o1)
      obtain ⟨x1, hx1⟩ : ∃ y, y = w2.heap.size := ⟨_, rfl⟩
      have hr := RBox.new w2 (qv r.m) (qv r.p) (qv r.q) (.slice a1 r.hs.length k1) (qv r.b) (.bool r.cl)
      have hb3 : Below w2.heap.size w2 (w2.alloc (.cells #[qv r.m, qv r.p, qv r.q, .slice a1 r.hs.length k1, qv r.b, .bool r.cl] 25)) := (Below.refl _ _).alloc (Nat.le_refl _) _
      generalize hW3 : w2.alloc (.cells #[qv r.m, qv r.p, qv r.q, .slice a1 r.hs.length k1, qv r.b, .bool r.cl] 25) = w3 at hr hb3 ⊢
      have HB3 := hide ((unhide HB2).trans (hb3.mono (unhide HB2).size))
      have HO3 := hide ((unhide HO1).below hb3 (Nat.le_refl _))
      rw [← hx1] at hr ⊢
      have HR3 := hide hr
      clear hx1 hW3 hb3 hr
      go_upto_region 6 with (go_at_call 10; rw [unhide HX2]; refine (unhide HP2 _).mono ?_; rintro e w4 ⟨a2, k2, rfl, o2, b4⟩; have HB4 := hide ((unhide HB3).trans (b4.mono (unhide HB3).size)); have HO2 := hide o2.hdl; have HR4 := hide ((unhide HR3).below b4 (Nat.le_refl _)); have HO4 := hide ((unhide HO3).below b4 (Nat.le_refl _)); clear b4 o2)
      obtain ⟨x2, hx2⟩ : ∃ y, y = w4.heap.size := ⟨_, rfl⟩
      have hr := RBox.new w4 (qv r.m) (qv r.p) (qv r.q) (.slice a2 r.hs.length k2) (qv r.b) (.bool r.cl)
      have hb3 : Below w4.heap.size w4 (w4.alloc (.cells #[qv r.m, qv r.p, qv r.q, .slice a2 r.hs.length k2, qv r.b, .bool r.cl] 25)) := (Below.refl _ _).alloc (Nat.le_refl _) _
      generalize hW3 : w4.alloc (.cells #[qv r.m, qv r.p, qv r.q, .slice a2 r.hs.length k2, qv r.b, .bool r.cl] 25) = w5 at hr hb3 ⊢
      have HB5 := hide ((unhide HB4).trans (hb3.mono (unhide HB4).size))
      have HO5b := hide ((unhide HO2).below hb3 (Nat.le_refl _))
      have HR5 := hide ((unhide HR4).below hb3 (Nat.le_refl _))
      have HO5 := hide ((unhide HO4).below hb3 (Nat.le_refl _))
      rw [← hx2] at hr ⊢
      have HS5 := hide hr
      clear hx2 hW3 hb3 hr
      have d0 := (unhide HR5).c0
      have d1 := (unhide HR5).c1
      have d2 := (unhide HR5).c2
      have d3 := (unhide HR5).c3
      have d4 := (unhide HR5).c4
      have d5 := (unhide HR5).c5
      have e0 := (unhide HS5).c0
      have e1 := (unhide HS5).c1
      have e2 := (unhide HS5).c2
      have e3 := (unhide HS5).c3
      have e4 := (unhide HS5).c4
      have e5 := (unhide HS5).c5
      go_wp2_with (go_at_call 12; refine (same_any r.m r.p r.q _ r.b r.cl r.hs r.m r.p r.q _ r.b r.cl r.hs _ (unhide HO5) (unhide HO5b) (unhide HLh)).mono ?_; rw [sameR_self]; rintro e w6 ⟨rfl, b6⟩; have HB6 := hide ((unhide HB5).trans (b6.mono (unhide HB5).size)); clear b6)
      go_ret
      exact ⟨rfl, unhide HB6⟩
  · by_cases h2 : (s.length : Int) < x
    · have HX1 : Hid ((⟨s.toArray⟩ : ByteArray).extract 0 c = ⟨(s.take c).toArray⟩) := hide (by rw [ext_mid', List.drop_zero])
      have HX2 : Hid (((⟨s.toArray⟩ : ByteArray) ++ ⟨t.toArray⟩) = ⟨(s ++ t).toArray⟩) := hide (cat_bytes s t)
      have hsum : ¬ 9223372036854775807 < s.length + t.length := by omega
      have hl1 : (s.take c).length ≤ 281474976710656 := by rw [List.length_take]; omega
      have hl2 : (s ++ t).length ≤ 281474976710656 := by rw [List.length_append]; omega
      clear hs ht hc hcs
      go_enter Tryz.func5, Tryz.ntmps5
      go_upto_region 4 with (first | (go_at_call 9; refine (unhide HA).mono ?_; rintro e w1 ⟨rfl, b1⟩; have HB1 := hide b1; clear b1))
      have hcc : Hid (c = s.length) := hide (by rw [unhide HC, if_pos (.inr h2)])
      rw [show ((s.length : Nat) : Int) = (c : Int) by rw [unhide hcc]]
      have hcs : (c : Int) ≤ (s.length : Int) := by have := unhide HCs; omega
      clear hcc HC
      cases hq : qParse (s.take c) with
      | no e0 =>
        have HP1 := hide (fun W => parse_no (s.take c) W hl1 hq)
        by_cases he : e0 = 0
        · subst he
          cases hk : qParse (s ++ t) with
          | no e1 =>
            have HP2 := hide (fun W => parse_no (s ++ t) W hl2 hk)
            have hst := parse_stat hk
            clear hq hk hl1 hl2
            by_cases h0 : e1 = 0
            · subst h0
              clear hst
              go_upto_region 5 with (go_at_call 10; rw [unhide HX1]; refine (unhide HP1 _).mono ?_; rintro e w2 ⟨rfl, b2⟩; have HB2 := hide ((unhide HB1).trans (b2.mono (unhide HB1).size)); clear b2)
              obtain ⟨x1, hx1⟩ : ∃ y, y = w2.heap.size := ⟨_, rfl⟩
              have hr := RBox.new w2 (qv []) (qv []) (qv []) (.slice none 0 0) (qv []) (.bool false)
              have hb3 : Below w2.heap.size w2 (w2.alloc (.cells #[qv [], qv [], qv [], .slice none 0 0, qv [], .bool false] 25)) := (Below.refl _ _).alloc (Nat.le_refl _) _
              generalize hW3 : w2.alloc (.cells #[qv [], qv [], qv [], .slice none 0 0, qv [], .bool false] 25) = w3 at hr hb3 ⊢
              have HB3 := hide ((unhide HB2).trans (hb3.mono (unhide HB2).size))
              rw [← hx1] at hr ⊢
              have HR3 := hide hr
              clear hx1 hW3 hb3 hr
              go_upto_region 6 with (go_at_call 10; rw [unhide HX2]; refine (unhide HP2 _).mono ?_; rintro e w4 ⟨rfl, b4⟩; have HB4 := hide ((unhide HB3).trans (b4.mono (unhide HB3).size)); have HR4 := hide ((unhide HR3).below b4 (Nat.le_refl _)); clear b4)
              obtain ⟨x2, hx2⟩ : ∃ y, y = w4.heap.size := ⟨_, rfl⟩
              have hr := RBox.new w4 (qv []) (qv []) (qv []) (.slice none 0 0) (qv []) (.bool false)
              have hb3 : Below w4.heap.size w4 (w4.alloc (.cells #[qv [], qv [], qv [], .slice none 0 0, qv [], .bool false] 25)) := (Below.refl _ _).alloc (Nat.le_refl _) _
              generalize hW3 : w4.alloc (.cells #[qv [], qv [], qv [], .slice none 0 0, qv [], .bool false] 25) = w5 at hr hb3 ⊢
              have HB5 := hide ((unhide HB4).trans (hb3.mono (unhide HB4).size))
              have HR5 := hide ((unhide HR4).below hb3 (Nat.le_refl _))
              rw [← hx2] at hr ⊢
              have HS5 := hide hr
              clear hx2 hW3 hb3 hr
              have d0 := (unhide HR5).c0
              have d1 := (unhide HR5).c1
              have d2 := (unhide HR5).c2
              have d3 := (unhide HR5).c3
              have d4 := (unhide HR5).c4
              have d5 := (unhide HR5).c5
              go_wp2_with (go_at_call 12; refine (same_any [] [] [] (.slice none 0 0) [] false [] [] [] [] (.slice none 0 0) [] false [] _ (HdL.empty _) (HdL.empty _) (by simp)).mono ?_; rw [show sameR [] [] [] [] [] false [] [] [] [] [] false = true from rfl]; rintro e w6 ⟨rfl, b6⟩; have HB6 := hide ((unhide HB5).trans (b6.mono (unhide HB5).size)); clear b6)
              go_ret
              exact ⟨rfl, unhide HB6⟩
            · have f0 : (e1 == 0) = false := beq_eq_false_iff_ne.2 h0
              have f2 : ¬ e1 = 200 := by rcases hst with h | h | h | h | h <;> omega
              have f1 : (e1 == 200) = false := beq_eq_false_iff_ne.2 f2
              have f3 : (e1 != 200) = true := by rw [bne, f1]; rfl
              clear hst
              go_upto_region 5 with (go_at_call 10; rw [unhide HX1]; refine (unhide HP1 _).mono ?_; rintro e w2 ⟨rfl, b2⟩; have HB2 := hide ((unhide HB1).trans (b2.mono (unhide HB1).size)); clear b2)
              obtain ⟨x1, hx1⟩ : ∃ y, y = w2.heap.size := ⟨_, rfl⟩
              have hr := RBox.new w2 (qv []) (qv []) (qv []) (.slice none 0 0) (qv []) (.bool false)
              have hb3 : Below w2.heap.size w2 (w2.alloc (.cells #[qv [], qv [], qv [], .slice none 0 0, qv [], .bool false] 25)) := (Below.refl _ _).alloc (Nat.le_refl _) _
              generalize hW3 : w2.alloc (.cells #[qv [], qv [], qv [], .slice none 0 0, qv [], .bool false] 25) = w3 at hr hb3 ⊢
              have HB3 := hide ((unhide HB2).trans (hb3.mono (unhide HB2).size))
              rw [← hx1] at hr ⊢
              have HR3 := hide hr
              clear hx1 hW3 hb3 hr
              go_upto_region 6 with (go_at_call 10; rw [unhide HX2]; refine (unhide HP2 _).mono ?_; rintro e w4 ⟨rfl, b4⟩; have HB4 := hide ((unhide HB3).trans (b4.mono (unhide HB3).size)); have HR4 := hide ((unhide HR3).below b4 (Nat.le_refl _)); clear b4)
              obtain ⟨x2, hx2⟩ : ∃ y, y = w4.heap.size := ⟨_, rfl⟩
              have hr := RBox.new w4 (qv []) (qv []) (qv []) (.slice none 0 0) (qv []) (.bool false)
              have hb3 : Below w4.heap.size w4 (w4.alloc (.cells #[qv [], qv [], qv [], .slice none 0 0, qv [], .bool false] 25)) := (Below.refl _ _).alloc (Nat.le_refl _) _
              generalize hW3 : w4.alloc (.cells #[qv [], qv [], qv [], .slice none 0 0, qv [], .bool false] 25) = w5 at hr hb3 ⊢
              have HB5 := hide ((unhide HB4).trans (hb3.mono (unhide HB4).size))
              have HR5 := hide ((unhide HR4).below hb3 (Nat.le_refl _))
              rw [← hx2] at hr ⊢
              have HS5 := hide hr
              clear hx2 hW3 hb3 hr
              have d0 := (unhide HR5).c0
              have d1 := (unhide HR5).c1
              have d2 := (unhide HR5).c2
              have d3 := (unhide HR5).c3
              have d4 := (unhide HR5).c4
              have d5 := (unhide HR5).c5
              go_wp2_with (go_at_call 12; refine (same_any [] [] [] (.slice none 0 0) [] false [] [] [] [] (.slice none 0 0) [] false [] _ (HdL.empty _) (HdL.empty _) (by simp)).mono ?_; rw [show sameR [] [] [] [] [] false [] [] [] [] [] false = true from rfl]; rintro e w6 ⟨rfl, b6⟩; have HB6 := hide ((unhide HB5).trans (b6.mono (unhide HB5).size)); clear b6)
              go_ret
              exact ⟨rfl, unhide HB6⟩
          | ok r n =>
            have HP2 := hide (fun W => parse_yes (s ++ t) W hl2 hk)
            have hgt : (c : Int) < (n : Int) := by have := grows_more hq hk; omega
            clear hq hk hl1 hl2
            go_upto_region 5 with (go_at_call 10; rw [unhide HX1]; refine (unhide HP1 _).mono ?_; rintro e w2 ⟨rfl, b2⟩; have HB2 := hide ((unhide HB1).trans (b2.mono (unhide HB1).size)); clear b2)
            obtain ⟨x1, hx1⟩ : ∃ y, y = w2.heap.size := ⟨_, rfl⟩
            have hr := RBox.new w2 (qv []) (qv []) (qv []) (.slice none 0 0) (qv []) (.bool false)
            have hb3 : Below w2.heap.size w2 (w2.alloc (.cells #[qv [], qv [], qv [], .slice none 0 0, qv [], .bool false] 25)) := (Below.refl _ _).alloc (Nat.le_refl _) _
            generalize hW3 : w2.alloc (.cells #[qv [], qv [], qv [], .slice none 0 0, qv [], .bool false] 25) = w3 at hr hb3 ⊢
            have HB3 := hide ((unhide HB2).trans (hb3.mono (unhide HB2).size))
            rw [← hx1] at hr ⊢
            have HR3 := hide hr
            clear hx1 hW3 hb3 hr
            go_upto_region 6 with (go_at_call 10; rw [unhide HX2]; refine (unhide HP2 _).mono ?_; rintro e w4 ⟨a2, k2, rfl, o2, b4⟩; have HB4 := hide ((unhide HB3).trans (b4.mono (unhide HB3).size)); have HO2 := hide o2.hdl; have HR4 := hide ((unhide HR3).below b4 (Nat.le_refl _)); clear b4 o2)
            obtain ⟨x2, hx2⟩ : ∃ y, y = w4.heap.size := ⟨_, rfl⟩
            have hr := RBox.new w4 (qv r.m) (qv r.p) (qv r.q) (.slice a2 r.hs.length k2) (qv r.b) (.bool r.cl)
            have hb3 : Below w4.heap.size w4 (w4.alloc (.cells #[qv r.m, qv r.p, qv r.q, .slice a2 r.hs.length k2, qv r.b, .bool r.cl] 25)) := (Below.refl _ _).alloc (Nat.le_refl _) _
            generalize hW3 : w4.alloc (.cells #[qv r.m, qv r.p, qv r.q, .slice a2 r.hs.length k2, qv r.b, .bool r.cl] 25) = w5 at hr hb3 ⊢
            have HB5 := hide ((unhide HB4).trans (hb3.mono (unhide HB4).size))
            have HO5b := hide ((unhide HO2).below hb3 (Nat.le_refl _))
            have HR5 := hide ((unhide HR4).below hb3 (Nat.le_refl _))
            rw [← hx2] at hr ⊢
            have HS5 := hide hr
            clear hx2 hW3 hb3 hr
            have d0 := (unhide HR5).c0
            have d1 := (unhide HR5).c1
            have d2 := (unhide HR5).c2
            have d3 := (unhide HR5).c3
            have d4 := (unhide HR5).c4
            have d5 := (unhide HR5).c5
            go_wp2_with (go_at_call 12; refine (same_any [] [] [] (.slice none 0 0) [] false [] [] [] [] (.slice none 0 0) [] false [] _ (HdL.empty _) (HdL.empty _) (by simp)).mono ?_; rw [show sameR [] [] [] [] [] false [] [] [] [] [] false = true from rfl]; rintro e w6 ⟨rfl, b6⟩; have HB6 := hide ((unhide HB5).trans (b6.mono (unhide HB5).size)); clear b6)
            go_ret
            exact ⟨rfl, unhide HB6⟩
        · have hk := grows_no (t := t) hq he
          have HP2 := hide (fun W => parse_no (s ++ t) W hl2 hk)
          have f0 : (e0 == 0) = false := beq_eq_false_iff_ne.2 he
          clear hq hk hl1 hl2 he
          go_upto_region 5 with (go_at_call 10; rw [unhide HX1]; refine (unhide HP1 _).mono ?_; rintro e w2 ⟨rfl, b2⟩; have HB2 := hide ((unhide HB1).trans (b2.mono (unhide HB1).size)); clear b2)
          obtain ⟨x1, hx1⟩ : ∃ y, y = w2.heap.size := ⟨_, rfl⟩
          have hr := RBox.new w2 (qv []) (qv []) (qv []) (.slice none 0 0) (qv []) (.bool false)
          have hb3 : Below w2.heap.size w2 (w2.alloc (.cells #[qv [], qv [], qv [], .slice none 0 0, qv [], .bool false] 25)) := (Below.refl _ _).alloc (Nat.le_refl _) _
          generalize hW3 : w2.alloc (.cells #[qv [], qv [], qv [], .slice none 0 0, qv [], .bool false] 25) = w3 at hr hb3 ⊢
          have HB3 := hide ((unhide HB2).trans (hb3.mono (unhide HB2).size))
          rw [← hx1] at hr ⊢
          have HR3 := hide hr
          clear hx1 hW3 hb3 hr
          go_upto_region 6 with (go_at_call 10; rw [unhide HX2]; refine (unhide HP2 _).mono ?_; rintro e w4 ⟨rfl, b4⟩; have HB4 := hide ((unhide HB3).trans (b4.mono (unhide HB3).size)); have HR4 := hide ((unhide HR3).below b4 (Nat.le_refl _)); clear b4)
          obtain ⟨x2, hx2⟩ : ∃ y, y = w4.heap.size := ⟨_, rfl⟩
          have hr := RBox.new w4 (qv []) (qv []) (qv []) (.slice none 0 0) (qv []) (.bool false)
          have hb3 : Below w4.heap.size w4 (w4.alloc (.cells #[qv [], qv [], qv [], .slice none 0 0, qv [], .bool false] 25)) := (Below.refl _ _).alloc (Nat.le_refl _) _
          generalize hW3 : w4.alloc (.cells #[qv [], qv [], qv [], .slice none 0 0, qv [], .bool false] 25) = w5 at hr hb3 ⊢
          have HB5 := hide ((unhide HB4).trans (hb3.mono (unhide HB4).size))
          have HR5 := hide ((unhide HR4).below hb3 (Nat.le_refl _))
          rw [← hx2] at hr ⊢
          have HS5 := hide hr
          clear hx2 hW3 hb3 hr
          have d0 := (unhide HR5).c0
          have d1 := (unhide HR5).c1
          have d2 := (unhide HR5).c2
          have d3 := (unhide HR5).c3
          have d4 := (unhide HR5).c4
          have d5 := (unhide HR5).c5
          have e0 := (unhide HS5).c0
          have e1 := (unhide HS5).c1
          have e2 := (unhide HS5).c2
          have e3 := (unhide HS5).c3
          have e4 := (unhide HS5).c4
          have e5 := (unhide HS5).c5
          go_wp2_with (go_at_call 12; refine (same_any [] [] [] (.slice none 0 0) [] false [] [] [] [] (.slice none 0 0) [] false [] _ (HdL.empty _) (HdL.empty _) (by simp)).mono ?_; rw [show sameR [] [] [] [] [] false [] [] [] [] [] false = true from rfl]; rintro e w6 ⟨rfl, b6⟩; have HB6 := hide ((unhide HB5).trans (b6.mono (unhide HB5).size)); clear b6)
          go_ret
          exact ⟨rfl, unhide HB6⟩
      | ok r n =>
        have hk := grows_ok (t := t) hq
        have HP1 := hide (fun W => parse_yes (s.take c) W hl1 hq)
        have HP2 := hide (fun W => parse_yes (s ++ t) W hl2 hk)
        have HLh : Hid (r.hs.length ≤ 4398046511104) := hide (by have := (parse_taken hq).heads; omega)
        clear hq hk hl1 hl2
        go_upto_region 5 with (go_at_call 10; rw [unhide HX1]; refine (unhide HP1 _).mono ?_; rintro e w2 ⟨a1, k1, rfl, o1, b2⟩; have HB2 := hide ((unhide HB1).trans (b2.mono (unhide HB1).size)); have HO1 := hide o1.hdl; clear b2 o1)
        obtain ⟨x1, hx1⟩ : ∃ y, y = w2.heap.size := ⟨_, rfl⟩
        have hr := RBox.new w2 (qv r.m) (qv r.p) (qv r.q) (.slice a1 r.hs.length k1) (qv r.b) (.bool r.cl)
        have hb3 : Below w2.heap.size w2 (w2.alloc (.cells #[qv r.m, qv r.p, qv r.q, .slice a1 r.hs.length k1, qv r.b, .bool r.cl] 25)) := (Below.refl _ _).alloc (Nat.le_refl _) _
        generalize hW3 : w2.alloc (.cells #[qv r.m, qv r.p, qv r.q, .slice a1 r.hs.length k1, qv r.b, .bool r.cl] 25) = w3 at hr hb3 ⊢
        have HB3 := hide ((unhide HB2).trans (hb3.mono (unhide HB2).size))
        have HO3 := hide ((unhide HO1).below hb3 (Nat.le_refl _))
        rw [← hx1] at hr ⊢
        have HR3 := hide hr
        clear hx1 hW3 hb3 hr
        go_upto_region 6 with (go_at_call 10; rw [unhide HX2]; refine (unhide HP2 _).mono ?_; rintro e w4 ⟨a2, k2, rfl, o2, b4⟩; have HB4 := hide ((unhide HB3).trans (b4.mono (unhide HB3).size)); have HO2 := hide o2.hdl; have HR4 := hide ((unhide HR3).below b4 (Nat.le_refl _)); have HO4 := hide ((unhide HO3).below b4 (Nat.le_refl _)); clear b4 o2)
        obtain ⟨x2, hx2⟩ : ∃ y, y = w4.heap.size := ⟨_, rfl⟩
        have hr := RBox.new w4 (qv r.m) (qv r.p) (qv r.q) (.slice a2 r.hs.length k2) (qv r.b) (.bool r.cl)
        have hb3 : Below w4.heap.size w4 (w4.alloc (.cells #[qv r.m, qv r.p, qv r.q, .slice a2 r.hs.length k2, qv r.b, .bool r.cl] 25)) := (Below.refl _ _).alloc (Nat.le_refl _) _
        generalize hW3 : w4.alloc (.cells #[qv r.m, qv r.p, qv r.q, .slice a2 r.hs.length k2, qv r.b, .bool r.cl] 25) = w5 at hr hb3 ⊢
        have HB5 := hide ((unhide HB4).trans (hb3.mono (unhide HB4).size))
        have HO5b := hide ((unhide HO2).below hb3 (Nat.le_refl _))
        have HR5 := hide ((unhide HR4).below hb3 (Nat.le_refl _))
        have HO5 := hide ((unhide HO4).below hb3 (Nat.le_refl _))
        rw [← hx2] at hr ⊢
        have HS5 := hide hr
        clear hx2 hW3 hb3 hr
        have d0 := (unhide HR5).c0
        have d1 := (unhide HR5).c1
        have d2 := (unhide HR5).c2
        have d3 := (unhide HR5).c3
        have d4 := (unhide HR5).c4
        have d5 := (unhide HR5).c5
        have e0 := (unhide HS5).c0
        have e1 := (unhide HS5).c1
        have e2 := (unhide HS5).c2
        have e3 := (unhide HS5).c3
        have e4 := (unhide HS5).c4
        have e5 := (unhide HS5).c5
        go_wp2_with (go_at_call 12; refine (same_any r.m r.p r.q _ r.b r.cl r.hs r.m r.p r.q _ r.b r.cl r.hs _ (unhide HO5) (unhide HO5b) (unhide HLh)).mono ?_; rw [sameR_self]; rintro e w6 ⟨rfl, b6⟩; have HB6 := hide ((unhide HB5).trans (b6.mono (unhide HB5).size)); clear b6)
        go_ret
        exact ⟨rfl, unhide HB6⟩
    · have HX1 : Hid ((⟨s.toArray⟩ : ByteArray).extract 0 c = ⟨(s.take c).toArray⟩) := hide (by rw [ext_mid', List.drop_zero])
      have HX2 : Hid (((⟨s.toArray⟩ : ByteArray) ++ ⟨t.toArray⟩) = ⟨(s ++ t).toArray⟩) := hide (cat_bytes s t)
      have hsum : ¬ 9223372036854775807 < s.length + t.length := by omega
      have hl1 : (s.take c).length ≤ 281474976710656 := by rw [List.length_take]; omega
      have hl2 : (s ++ t).length ≤ 281474976710656 := by rw [List.length_append]; omega
      have hxc : x = (c : Int) := by rw [hc, if_neg (by omega)]; omega
      subst hxc
      clear hs ht hc hcs
      go_enter Tryz.func5, Tryz.ntmps5
      go_upto_region 4 with (first | (go_at_call 9; refine (unhide HA).mono ?_; rintro e w1 ⟨rfl, b1⟩; have HB1 := hide b1; clear b1))
      have hcs : (c : Int) ≤ (s.length : Int) := by have := unhide HCs; omega
      clear HC
      cases hq : qParse (s.take c) with
      | no e0 =>
        have HP1 := hide (fun W => parse_no (s.take c) W hl1 hq)
        by_cases he : e0 = 0
        · subst he
          cases hk : qParse (s ++ t) with
          | no e1 =>
            have HP2 := hide (fun W => parse_no (s ++ t) W hl2 hk)
            have hst := parse_stat hk
            clear hq hk hl1 hl2
            by_cases h0 : e1 = 0
            · subst h0
              clear hst
              go_upto_region 5 with (go_at_call 10; rw [unhide HX1]; refine (unhide HP1 _).mono ?_; rintro e w2 ⟨rfl, b2⟩; have HB2 := hide ((unhide HB1).trans (b2.mono (unhide HB1).size)); clear b2)
              obtain ⟨x1, hx1⟩ : ∃ y, y = w2.heap.size := ⟨_, rfl⟩
              have hr := RBox.new w2 (qv []) (qv []) (qv []) (.slice none 0 0) (qv []) (.bool false)
              have hb3 : Below w2.heap.size w2 (w2.alloc (.cells #[qv [], qv [], qv [], .slice none 0 0, qv [], .bool false] 25)) := (Below.refl _ _).alloc (Nat.le_refl _) _
              generalize hW3 : w2.alloc (.cells #[qv [], qv [], qv [], .slice none 0 0, qv [], .bool false] 25) = w3 at hr hb3 ⊢
              have HB3 := hide ((unhide HB2).trans (hb3.mono (unhide HB2).size))
              rw [← hx1] at hr ⊢
              have HR3 := hide hr
              clear hx1 hW3 hb3 hr
              go_upto_region 6 with (go_at_call 10; rw [unhide HX2]; refine (unhide HP2 _).mono ?_; rintro e w4 ⟨rfl, b4⟩; have HB4 := hide ((unhide HB3).trans (b4.mono (unhide HB3).size)); have HR4 := hide ((unhide HR3).below b4 (Nat.le_refl _)); clear b4)
              obtain ⟨x2, hx2⟩ : ∃ y, y = w4.heap.size := ⟨_, rfl⟩
              have hr := RBox.new w4 (qv []) (qv []) (qv []) (.slice none 0 0) (qv []) (.bool false)
              have hb3 : Below w4.heap.size w4 (w4.alloc (.cells #[qv [], qv [], qv [], .slice none 0 0, qv [], .bool false] 25)) := (Below.refl _ _).alloc (Nat.le_refl _) _
              generalize hW3 : w4.alloc (.cells #[qv [], qv [], qv [], .slice none 0 0, qv [], .bool false] 25) = w5 at hr hb3 ⊢
              have HB5 := hide ((unhide HB4).trans (hb3.mono (unhide HB4).size))
              have HR5 := hide ((unhide HR4).below hb3 (Nat.le_refl _))
              rw [← hx2] at hr ⊢
              have HS5 := hide hr
              clear hx2 hW3 hb3 hr
              have d0 := (unhide HR5).c0
              have d1 := (unhide HR5).c1
              have d2 := (unhide HR5).c2
              have d3 := (unhide HR5).c3
              have d4 := (unhide HR5).c4
              have d5 := (unhide HR5).c5
              go_wp2_with (go_at_call 12; refine (same_any [] [] [] (.slice none 0 0) [] false [] [] [] [] (.slice none 0 0) [] false [] _ (HdL.empty _) (HdL.empty _) (by simp)).mono ?_; rw [show sameR [] [] [] [] [] false [] [] [] [] [] false = true from rfl]; rintro e w6 ⟨rfl, b6⟩; have HB6 := hide ((unhide HB5).trans (b6.mono (unhide HB5).size)); clear b6)
              go_ret
              exact ⟨rfl, unhide HB6⟩
            · have f0 : (e1 == 0) = false := beq_eq_false_iff_ne.2 h0
              have f2 : ¬ e1 = 200 := by rcases hst with h | h | h | h | h <;> omega
              have f1 : (e1 == 200) = false := beq_eq_false_iff_ne.2 f2
              have f3 : (e1 != 200) = true := by rw [bne, f1]; rfl
              clear hst
              go_upto_region 5 with (go_at_call 10; rw [unhide HX1]; refine (unhide HP1 _).mono ?_; rintro e w2 ⟨rfl, b2⟩; have HB2 := hide ((unhide HB1).trans (b2.mono (unhide HB1).size)); clear b2)
              obtain ⟨x1, hx1⟩ : ∃ y, y = w2.heap.size := ⟨_, rfl⟩
              have hr := RBox.new w2 (qv []) (qv []) (qv []) (.slice none 0 0) (qv []) (.bool false)
              have hb3 : Below w2.heap.size w2 (w2.alloc (.cells #[qv [], qv [], qv [], .slice none 0 0, qv [], .bool false] 25)) := (Below.refl _ _).alloc (Nat.le_refl _) _
              generalize hW3 : w2.alloc (.cells #[qv [], qv [], qv [], .slice none 0 0, qv [], .bool false] 25) = w3 at hr hb3 ⊢
              have HB3 := hide ((unhide HB2).trans (hb3.mono (unhide HB2).size))
              rw [← hx1] at hr ⊢
              have HR3 := hide hr
              clear hx1 hW3 hb3 hr
              go_upto_region 6 with (go_at_call 10; rw [unhide HX2]; refine (unhide HP2 _).mono ?_; rintro e w4 ⟨rfl, b4⟩; have HB4 := hide ((unhide HB3).trans (b4.mono (unhide HB3).size)); have HR4 := hide ((unhide HR3).below b4 (Nat.le_refl _)); clear b4)
              obtain ⟨x2, hx2⟩ : ∃ y, y = w4.heap.size := ⟨_, rfl⟩
              have hr := RBox.new w4 (qv []) (qv []) (qv []) (.slice none 0 0) (qv []) (.bool false)
              have hb3 : Below w4.heap.size w4 (w4.alloc (.cells #[qv [], qv [], qv [], .slice none 0 0, qv [], .bool false] 25)) := (Below.refl _ _).alloc (Nat.le_refl _) _
              generalize hW3 : w4.alloc (.cells #[qv [], qv [], qv [], .slice none 0 0, qv [], .bool false] 25) = w5 at hr hb3 ⊢
              have HB5 := hide ((unhide HB4).trans (hb3.mono (unhide HB4).size))
              have HR5 := hide ((unhide HR4).below hb3 (Nat.le_refl _))
              rw [← hx2] at hr ⊢
              have HS5 := hide hr
              clear hx2 hW3 hb3 hr
              have d0 := (unhide HR5).c0
              have d1 := (unhide HR5).c1
              have d2 := (unhide HR5).c2
              have d3 := (unhide HR5).c3
              have d4 := (unhide HR5).c4
              have d5 := (unhide HR5).c5
              go_wp2_with (go_at_call 12; refine (same_any [] [] [] (.slice none 0 0) [] false [] [] [] [] (.slice none 0 0) [] false [] _ (HdL.empty _) (HdL.empty _) (by simp)).mono ?_; rw [show sameR [] [] [] [] [] false [] [] [] [] [] false = true from rfl]; rintro e w6 ⟨rfl, b6⟩; have HB6 := hide ((unhide HB5).trans (b6.mono (unhide HB5).size)); clear b6)
              go_ret
              exact ⟨rfl, unhide HB6⟩
          | ok r n =>
            have HP2 := hide (fun W => parse_yes (s ++ t) W hl2 hk)
            have hgt : (c : Int) < (n : Int) := by have := grows_more hq hk; omega
            clear hq hk hl1 hl2
            go_upto_region 5 with (go_at_call 10; rw [unhide HX1]; refine (unhide HP1 _).mono ?_; rintro e w2 ⟨rfl, b2⟩; have HB2 := hide ((unhide HB1).trans (b2.mono (unhide HB1).size)); clear b2)
            obtain ⟨x1, hx1⟩ : ∃ y, y = w2.heap.size := ⟨_, rfl⟩
            have hr := RBox.new w2 (qv []) (qv []) (qv []) (.slice none 0 0) (qv []) (.bool false)
            have hb3 : Below w2.heap.size w2 (w2.alloc (.cells #[qv [], qv [], qv [], .slice none 0 0, qv [], .bool false] 25)) := (Below.refl _ _).alloc (Nat.le_refl _) _
            generalize hW3 : w2.alloc (.cells #[qv [], qv [], qv [], .slice none 0 0, qv [], .bool false] 25) = w3 at hr hb3 ⊢
            have HB3 := hide ((unhide HB2).trans (hb3.mono (unhide HB2).size))
            rw [← hx1] at hr ⊢
            have HR3 := hide hr
            clear hx1 hW3 hb3 hr
            go_upto_region 6 with (go_at_call 10; rw [unhide HX2]; refine (unhide HP2 _).mono ?_; rintro e w4 ⟨a2, k2, rfl, o2, b4⟩; have HB4 := hide ((unhide HB3).trans (b4.mono (unhide HB3).size)); have HO2 := hide o2.hdl; have HR4 := hide ((unhide HR3).below b4 (Nat.le_refl _)); clear b4 o2)
            obtain ⟨x2, hx2⟩ : ∃ y, y = w4.heap.size := ⟨_, rfl⟩
            have hr := RBox.new w4 (qv r.m) (qv r.p) (qv r.q) (.slice a2 r.hs.length k2) (qv r.b) (.bool r.cl)
            have hb3 : Below w4.heap.size w4 (w4.alloc (.cells #[qv r.m, qv r.p, qv r.q, .slice a2 r.hs.length k2, qv r.b, .bool r.cl] 25)) := (Below.refl _ _).alloc (Nat.le_refl _) _
            generalize hW3 : w4.alloc (.cells #[qv r.m, qv r.p, qv r.q, .slice a2 r.hs.length k2, qv r.b, .bool r.cl] 25) = w5 at hr hb3 ⊢
            have HB5 := hide ((unhide HB4).trans (hb3.mono (unhide HB4).size))
            have HO5b := hide ((unhide HO2).below hb3 (Nat.le_refl _))
            have HR5 := hide ((unhide HR4).below hb3 (Nat.le_refl _))
            rw [← hx2] at hr ⊢
            have HS5 := hide hr
            clear hx2 hW3 hb3 hr
            have d0 := (unhide HR5).c0
            have d1 := (unhide HR5).c1
            have d2 := (unhide HR5).c2
            have d3 := (unhide HR5).c3
            have d4 := (unhide HR5).c4
            have d5 := (unhide HR5).c5
            go_wp2_with (go_at_call 12; refine (same_any [] [] [] (.slice none 0 0) [] false [] [] [] [] (.slice none 0 0) [] false [] _ (HdL.empty _) (HdL.empty _) (by simp)).mono ?_; rw [show sameR [] [] [] [] [] false [] [] [] [] [] false = true from rfl]; rintro e w6 ⟨rfl, b6⟩; have HB6 := hide ((unhide HB5).trans (b6.mono (unhide HB5).size)); clear b6)
            go_ret
            exact ⟨rfl, unhide HB6⟩
        · have hk := grows_no (t := t) hq he
          have HP2 := hide (fun W => parse_no (s ++ t) W hl2 hk)
          have f0 : (e0 == 0) = false := beq_eq_false_iff_ne.2 he
          clear hq hk hl1 hl2 he
          go_upto_region 5 with (go_at_call 10; rw [unhide HX1]; refine (unhide HP1 _).mono ?_; rintro e w2 ⟨rfl, b2⟩; have HB2 := hide ((unhide HB1).trans (b2.mono (unhide HB1).size)); clear b2)
          obtain ⟨x1, hx1⟩ : ∃ y, y = w2.heap.size := ⟨_, rfl⟩
          have hr := RBox.new w2 (qv []) (qv []) (qv []) (.slice none 0 0) (qv []) (.bool false)
          have hb3 : Below w2.heap.size w2 (w2.alloc (.cells #[qv [], qv [], qv [], .slice none 0 0, qv [], .bool false] 25)) := (Below.refl _ _).alloc (Nat.le_refl _) _
          generalize hW3 : w2.alloc (.cells #[qv [], qv [], qv [], .slice none 0 0, qv [], .bool false] 25) = w3 at hr hb3 ⊢
          have HB3 := hide ((unhide HB2).trans (hb3.mono (unhide HB2).size))
          rw [← hx1] at hr ⊢
          have HR3 := hide hr
          clear hx1 hW3 hb3 hr
          go_upto_region 6 with (go_at_call 10; rw [unhide HX2]; refine (unhide HP2 _).mono ?_; rintro e w4 ⟨rfl, b4⟩; have HB4 := hide ((unhide HB3).trans (b4.mono (unhide HB3).size)); have HR4 := hide ((unhide HR3).below b4 (Nat.le_refl _)); clear b4)
          obtain ⟨x2, hx2⟩ : ∃ y, y = w4.heap.size := ⟨_, rfl⟩
          have hr := RBox.new w4 (qv []) (qv []) (qv []) (.slice none 0 0) (qv []) (.bool false)
          have hb3 : Below w4.heap.size w4 (w4.alloc (.cells #[qv [], qv [], qv [], .slice none 0 0, qv [], .bool false] 25)) := (Below.refl _ _).alloc (Nat.le_refl _) _
          generalize hW3 : w4.alloc (.cells #[qv [], qv [], qv [], .slice none 0 0, qv [], .bool false] 25) = w5 at hr hb3 ⊢
          have HB5 := hide ((unhide HB4).trans (hb3.mono (unhide HB4).size))
          have HR5 := hide ((unhide HR4).below hb3 (Nat.le_refl _))
          rw [← hx2] at hr ⊢
          have HS5 := hide hr
          clear hx2 hW3 hb3 hr
          have d0 := (unhide HR5).c0
          have d1 := (unhide HR5).c1
          have d2 := (unhide HR5).c2
          have d3 := (unhide HR5).c3
          have d4 := (unhide HR5).c4
          have d5 := (unhide HR5).c5
          have e0 := (unhide HS5).c0
          have e1 := (unhide HS5).c1
          have e2 := (unhide HS5).c2
          have e3 := (unhide HS5).c3
          have e4 := (unhide HS5).c4
          have e5 := (unhide HS5).c5
          go_wp2_with (go_at_call 12; refine (same_any [] [] [] (.slice none 0 0) [] false [] [] [] [] (.slice none 0 0) [] false [] _ (HdL.empty _) (HdL.empty _) (by simp)).mono ?_; rw [show sameR [] [] [] [] [] false [] [] [] [] [] false = true from rfl]; rintro e w6 ⟨rfl, b6⟩; have HB6 := hide ((unhide HB5).trans (b6.mono (unhide HB5).size)); clear b6)
          go_ret
          exact ⟨rfl, unhide HB6⟩
      | ok r n =>
        have hk := grows_ok (t := t) hq
        have HP1 := hide (fun W => parse_yes (s.take c) W hl1 hq)
        have HP2 := hide (fun W => parse_yes (s ++ t) W hl2 hk)
        have HLh : Hid (r.hs.length ≤ 4398046511104) := hide (by have := (parse_taken hq).heads; omega)
        clear hq hk hl1 hl2
        go_upto_region 5 with (go_at_call 10; rw [unhide HX1]; refine (unhide HP1 _).mono ?_; rintro e w2 ⟨a1, k1, rfl, o1, b2⟩; have HB2 := hide ((unhide HB1).trans (b2.mono (unhide HB1).size)); have HO1 := hide o1.hdl; clear b2 o1)
        obtain ⟨x1, hx1⟩ : ∃ y, y = w2.heap.size := ⟨_, rfl⟩
        have hr := RBox.new w2 (qv r.m) (qv r.p) (qv r.q) (.slice a1 r.hs.length k1) (qv r.b) (.bool r.cl)
        have hb3 : Below w2.heap.size w2 (w2.alloc (.cells #[qv r.m, qv r.p, qv r.q, .slice a1 r.hs.length k1, qv r.b, .bool r.cl] 25)) := (Below.refl _ _).alloc (Nat.le_refl _) _
        generalize hW3 : w2.alloc (.cells #[qv r.m, qv r.p, qv r.q, .slice a1 r.hs.length k1, qv r.b, .bool r.cl] 25) = w3 at hr hb3 ⊢
        have HB3 := hide ((unhide HB2).trans (hb3.mono (unhide HB2).size))
        have HO3 := hide ((unhide HO1).below hb3 (Nat.le_refl _))
        rw [← hx1] at hr ⊢
        have HR3 := hide hr
        clear hx1 hW3 hb3 hr
        go_upto_region 6 with (go_at_call 10; rw [unhide HX2]; refine (unhide HP2 _).mono ?_; rintro e w4 ⟨a2, k2, rfl, o2, b4⟩; have HB4 := hide ((unhide HB3).trans (b4.mono (unhide HB3).size)); have HO2 := hide o2.hdl; have HR4 := hide ((unhide HR3).below b4 (Nat.le_refl _)); have HO4 := hide ((unhide HO3).below b4 (Nat.le_refl _)); clear b4 o2)
        obtain ⟨x2, hx2⟩ : ∃ y, y = w4.heap.size := ⟨_, rfl⟩
        have hr := RBox.new w4 (qv r.m) (qv r.p) (qv r.q) (.slice a2 r.hs.length k2) (qv r.b) (.bool r.cl)
        have hb3 : Below w4.heap.size w4 (w4.alloc (.cells #[qv r.m, qv r.p, qv r.q, .slice a2 r.hs.length k2, qv r.b, .bool r.cl] 25)) := (Below.refl _ _).alloc (Nat.le_refl _) _
        generalize hW3 : w4.alloc (.cells #[qv r.m, qv r.p, qv r.q, .slice a2 r.hs.length k2, qv r.b, .bool r.cl] 25) = w5 at hr hb3 ⊢
        have HB5 := hide ((unhide HB4).trans (hb3.mono (unhide HB4).size))
        have HO5b := hide ((unhide HO2).below hb3 (Nat.le_refl _))
        have HR5 := hide ((unhide HR4).below hb3 (Nat.le_refl _))
        have HO5 := hide ((unhide HO4).below hb3 (Nat.le_refl _))
        rw [← hx2] at hr ⊢
        have HS5 := hide hr
        clear hx2 hW3 hb3 hr
        have d0 := (unhide HR5).c0
        have d1 := (unhide HR5).c1
        have d2 := (unhide HR5).c2
        have d3 := (unhide HR5).c3
        have d4 := (unhide HR5).c4
        have d5 := (unhide HR5).c5
        have e0 := (unhide HS5).c0
        have e1 := (unhide HS5).c1
        have e2 := (unhide HS5).c2
        have e3 := (unhide HS5).c3
        have e4 := (unhide HS5).c4
        have e5 := (unhide HS5).c5
        go_wp2_with (go_at_call 12; refine (same_any r.m r.p r.q _ r.b r.cl r.hs r.m r.p r.q _ r.b r.cl r.hs _ (unhide HO5) (unhide HO5b) (unhide HLh)).mono ?_; rw [sameR_self]; rintro e w6 ⟨rfl, b6⟩; have HB6 := hide ((unhide HB5).trans (b6.mono (unhide HB5).size)); clear b6)
        go_ret
        exact ⟨rfl, unhide HB6⟩

set_option maxRecDepth 100000 in
theorem RqGrows.lifted (os : Os) (started : os.Started) (H : Type) (enc : TypeId × Value → H) :
    ReturnsInHanded {} Tryz.checked os 5 .any (fun w args => (Rows.requestGrowsSpec.pre enc Tryz.prog Tryz.f5 [] false w args ∧ laidMetH Tryz.prog seatLaid w) ∧ sizedMet enc Tryz.prog Tryz.f5 (OpenSpec.ofChange Rows.requestGrowsSpec) false w args)
      (Rows.requestGrowsSpec.post enc Tryz.prog Tryz.f5 false true false false) := by
  refine returnsInHanded_of_change_and (C := Tryz.checked) (X := fun w _ => laidMetH Tryz.prog seatLaid w) (fun _ _ _ hh h => h.of_heap hh) own_knob started (by kernel_rfl) Tryz.func5
    (ChangeSpec.witness_at (enc := enc) (C := Tryz.checked) (os := os) (X := fun w _ => laidMetH Tryz.prog seatLaid w) false (laidWorld os) #[.string ⟨#[]⟩, .int .i64 0, .string ⟨#[]⟩] 8 rfl (by kernel_rfl) (by kernel_rfl) (by kernel_rfl) (by kernel_rfl) (by kernel_rfl) (laidWorld_met os _)) ?_
  intro W base args ds gs before hval0 hW _ hsz0 hL _
  have hval : ∀ (j : Nat) t v, Tryz.f5.params[j]? = some t → args[j]? = some v → Value.okWide Tryz.prog W .any base t v := hval0
  have hsz : (DataW.weightsEach Tryz.prog (Tryz.f5.params.toList ++ Rows.requestGrowsSpec.plain.varTypes Tryz.prog) (ds ++ gs)).all (· ≤ reachBytes) = true := hsz0
  have hW' := hW
  obtain ⟨p, q, hA0, hV, rfl, hfz, hnd⟩ := hW
  have hA : DataW.TrodAll enc Tryz.prog W 0 (fun _ => true) true Tryz.f5.params.toList args.toList ds p := hA0
  rw [Tryz.params5] at hA hval hsz
  obtain ⟨v0, vs0, d0, ds0, p0, q0, e0, rfl, rfl, h0, hA⟩ := trodAll_cons hA
  obtain ⟨v1, vs1, d1, ds1, p1, q1, rfl, rfl, rfl, h1, hA⟩ := trodAll_cons hA
  obtain ⟨v2, vs2, d2, ds2, p2, q2, rfl, rfl, rfl, h2, hA⟩ := trodAll_cons hA
  obtain ⟨rfl, rfl, rfl⟩ := trodAll_nil hA
  obtain rfl : args = #[v0, v1, v2] := by cases args; simp_all
  obtain ⟨rfl, rfl⟩ := trodVars_none hV
  obtain ⟨s0, rfl, rfl, rfl, hs0⟩ := open_string Tryz.underlying9 (hval 0 9 v0 rfl rfl) h0
  have ls0 : s0.data.toList.length ≤ 140737488351232 := by
    have := sized_string hsz (j := 0) (t := 9) rfl rfl
    simp only [reachBytes] at this
    omega
  obtain ⟨x1, rfl, rfl, rfl, w1⟩ := open_int Tryz.underlying3 (hval 1 3 v1 rfl rfl) h1
  have bx1 := bounds_i64 w1
  obtain ⟨s2, rfl, rfl, rfl, hs2⟩ := open_string Tryz.underlying9 (hval 2 9 v2 rfl rfl) h2
  have ls2 : s2.data.toList.length ≤ 140737488351232 := by
    have := sized_string hsz (j := 2) (t := 9) rfl rfl
    simp only [reachBytes] at this
    omega
  clear hA0 hval0 hsz0
  refine (RqGrows.walk s0.data.toList x1 s2.data.toList W (by omega) (by omega)).mono fun e W' ⟨he, bel⟩ => ?_
  subst he
  exact ⟨_, rfl, _, _, _, [], _, [], hW', trodAll_mk1 (shut_bool Tryz.underlying4 _), (trodAll_cons_mk (shut_string Tryz.underlying9 hs0) (trodAll_cons_mk (shut_int Tryz.underlying3 w1) (trodAll_cons_mk (shut_string Tryz.underlying9 hs2) trodAll_mk0))), rfl, bel.frame _, fun h => by cases h⟩

theorem requestGrows_holds : Rows.RequestGrowsSaid :=
  OpenClaim.holds_of_wide 5 Tryz.f5 rfl rfl rfl rfl rfl rfl rfl ⟨rfl, rfl, rfl, rfl, rfl⟩ rfl rfl rfl rfl rfl (by kernel_rfl) Tryz.func5 (by kernel_rfl)
    (of_decide_eq_true (by kernel_rfl)) (by unfold Func.isWrapper; first | (rw [if_pos (by decide +kernel)]; kernel_rfl) | (rw [if_neg (by decide +kernel)]; exact ⟨rfl, rfl⟩))
    (fun os started H enc _ => RqGrows.lifted os started H enc)

theorem requestGrowsCard_holds : Rows.RequestGrowsCardSaid :=
  Claim7.holds_tied_plain_at .later [] _ _ _ _
    requestGrows_holds (fun _ h => by cases h) (by kernel_rfl) (fun _ h => by cases h) requestGrows_row_tie rfl ⟨rfl, rfl⟩ (by kernel_rfl) rfl
    (fun f fn hf hfn => by
      obtain rfl : f = 5 := Option.some.inj ((show Tryz.prog.funcNamed "cartulary/cartularylaw18.RequestGrows" = some 5 by kernel_rfl).symm.trans hf) |>.symm
      obtain rfl : fn = Tryz.f5 := (Option.some.inj (Tryz.func5.symm.trans hfn)).symm
      exact ⟨by kernel_rfl, fun j t ht => by
        rw [Tryz.params5] at ht
        have h0 : ∀ (t : TypeId), t ∈ ([9, 3, 9] : List TypeId) → Tryz.prog.wantsStandIn t = false := by
          intro t ht
          simp only [List.mem_cons, List.not_mem_nil, or_false] at ht
          rcases ht with rfl | rfl | rfl <;> kernel_rfl
        exact h0 t (List.mem_of_getElem? (by simpa using ht))⟩)
    (by kernel_rfl)
#print axioms requestGrowsCard_holds
end Go.Proofs.YtankbanonbmffaaGreatDoor
