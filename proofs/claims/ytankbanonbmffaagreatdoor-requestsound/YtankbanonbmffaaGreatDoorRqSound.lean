/-
  DERIVED. RequestSound: whatever is taken is within its limits.
-/
import Derived.Test.YtankbanonbmffaaGreatDoorRqZ
import Derived.Test.YtankbanonbmffaaGreatDoorRqLaid
import Derived.Test.YtankbanonbmffaaGreatDoorCards
import Derived.Test.YtankbanonbmffaaGreatDoorTie
import Derived.SevenTiedAt
import Derived.ChangeMaps5
import Derived.SizedLaws
import Derived.OpenShut
namespace Go.Proofs.YtankbanonbmffaaGreatDoor
open Go.ChangeShapes Go.WideShapes Go.ChangeMaps Go.RowKit
set_option linter.unusedVariables false

set_option maxRecDepth 20000 in
set_option maxHeartbeats 4000000 in
theorem RqSound.walk (s : List UInt8) (w : World) (hs : s.length ≤ 281474976710656) : Calls Tryz.prog 6 #[qv s] w fun e w' => e = .returned (.bool true) ∧ Below w.heap.size w w' := by
  have HA := hide (awake_go w)
  have HSl := hide hs
  cases hq : qParse s with
  | no e0 =>
    have HP := hide (fun W => parse_no s W hs hq)
    have hst := parse_stat hq
    have HSa := hide (fun W => same_any [] [] [] (.slice none 0 0) [] false [] [] [] [] (.slice none 0 0) [] false [] W (HdL.empty W) (HdL.empty W) (by simp))
    simp only [rqV, show sameR [] [] [] [] [] false [] [] [] [] [] false = true from rfl] at HSa
    clear hq hs
    rcases hst with rfl | rfl | rfl | rfl | rfl
    all_goals
      go_enter Tryz.func6, Tryz.ntmps6
      go_upto_region 3 with (first | (go_at_call 9; refine (unhide HA).mono ?_; rintro e w1 ⟨rfl, b1⟩; have HB1 := hide b1; clear b1) | (go_at_call 10; refine (unhide HP _).mono ?_; rintro e w2 ⟨rfl, b2⟩; have HB2 := hide ((unhide HB1).trans (b2.mono (unhide HB1).size)); clear b2))
      have HB3 := hide ((unhide HB2).alloc (unhide HB2).size (.cells #[qv [], qv [], qv [], .slice none 0 0, qv [], .bool false] 25))
      have hr := heap_alloc_new w2 (.cells #[qv [], qv [], qv [], .slice none 0 0, qv [], .bool false] 25)
      go_wp2_with (first | (go_at_call 12; refine (unhide HSa _).mono ?_; rintro e w3 ⟨rfl, b3⟩; have HB4 := hide ((unhide HB3).trans (b3.mono (unhide HB3).size)); clear b3))
      go_ret
      exact ⟨rfl, unhide HB4⟩
  | ok r n =>
    have HP := hide (fun W => parse_yes s W hs hq)
    have hT := parse_taken hq
    have hn1 : (0 : Int) < (n : Int) := by have := hT.pos; omega
    have hn2 : (n : Int) ≤ (s.length : Int) := by have := hT.le; omega
    have hn3 : ((r.b.length : Nat) : Int) ≤ 1000 := by have := hT.body; omega
    have hn4 : ((r.hs.length : Nat) : Int) ≤ 16 := by have := hT.heads; omega
    have HG : Hid (∀ a c W, HdL W (.slice a r.hs.length c) r.hs → Calls Tryz.prog 13 #[.agg #[qv r.m, qv r.p, qv r.q, .slice a r.hs.length c, qv r.b, .bool r.cl], qv [104, 111, 115, 116]] W fun e w' => e = .returned (.tuple #[qv (qGet r.hs qhost).1, .int .i64 1]) ∧ Below W.heap.size W w') := hide (fun a c W hW => (qGet_any r.m r.p r.q _ r.b r.cl r.hs qhost W hW (fun x hx => by have := (hT.small x hx).2; omega) (by have := hT.heads; omega)).mono fun e w' h => by rw [hT.host] at h; exact h)
    have hm := hT.method
    obtain ⟨rm, rp, rq, rh, rb, rc⟩ := r
    simp only at HP hn3 hn4 HG hm
    obtain ⟨gv, hgv⟩ : ∃ v, v = (qGet rh qhost).1 := ⟨_, rfl⟩
    rw [← hgv] at HG
    clear hq hs hT hgv
    rcases hm with rfl | rfl
    · simp only [show qGET = [71, 69, 84] from rfl] at HP HG
      go_enter Tryz.func6, Tryz.ntmps6
      go_upto_region 3 with (first | (go_at_call 9; refine (unhide HA).mono ?_; rintro e w1 ⟨rfl, b1⟩; have HB1 := hide b1; clear b1) | (go_at_call 10; refine (unhide HP _).mono ?_; rintro e w2 ⟨a, c, rfl, o2, b2⟩; have HB2 := hide ((unhide HB1).trans (b2.mono (unhide HB1).size)); have HO2 := hide o2.hdl; clear b2 o2))
      obtain ⟨x, hx⟩ : ∃ x, x = w2.heap.size := ⟨_, rfl⟩
      have hr := RBox.new w2 (qv [71, 69, 84]) (qv rp) (qv rq) (.slice a rh.length c) (qv rb) (.bool rc)
      have hb3 : Below w2.heap.size w2 (w2.alloc (.cells #[qv [71, 69, 84], qv rp, qv rq, .slice a rh.length c, qv rb, .bool rc] 25)) := (Below.refl _ _).alloc (Nat.le_refl _) _
      generalize hW3 : w2.alloc (.cells #[qv [71, 69, 84], qv rp, qv rq, .slice a rh.length c, qv rb, .bool rc] 25) = W3 at hr hb3 ⊢
      have HB3 := hide ((unhide HB2).trans (hb3.mono (unhide HB2).size))
      have HO3 := hide ((unhide HO2).below hb3 (Nat.le_refl _))
      rw [← hx] at hr ⊢
      have HR3 := hide hr
      have c0 := hr.c0
      have c1 := hr.c1
      have c2 := hr.c2
      have c3 := hr.c3
      have c4 := hr.c4
      have c5 := hr.c5
      clear hx hW3 hb3 hr
      go_wp2_with (go_at_call 13; refine (unhide HG _ _ _ (unhide HO3)).mono ?_; rintro e w4 ⟨rfl, b4⟩; have HB4 := hide ((unhide HB3).trans (b4.mono (unhide HB3).size)); have hr4 := (unhide HR3).below b4 (Nat.le_refl _); have e0 := hr4.c0; have e3 := hr4.c3; have e4 := hr4.c4; clear b4 hr4 c0 c1 c2 c3 c4 c5)
      go_ret
      exact ⟨rfl, unhide HB4⟩
    · simp only [show qPOST = [80, 79, 83, 84] from rfl] at HP HG
      go_enter Tryz.func6, Tryz.ntmps6
      go_upto_region 3 with (first | (go_at_call 9; refine (unhide HA).mono ?_; rintro e w1 ⟨rfl, b1⟩; have HB1 := hide b1; clear b1) | (go_at_call 10; refine (unhide HP _).mono ?_; rintro e w2 ⟨a, c, rfl, o2, b2⟩; have HB2 := hide ((unhide HB1).trans (b2.mono (unhide HB1).size)); have HO2 := hide o2.hdl; clear b2 o2))
      obtain ⟨x, hx⟩ : ∃ x, x = w2.heap.size := ⟨_, rfl⟩
      have hr := RBox.new w2 (qv [80, 79, 83, 84]) (qv rp) (qv rq) (.slice a rh.length c) (qv rb) (.bool rc)
      have hb3 : Below w2.heap.size w2 (w2.alloc (.cells #[qv [80, 79, 83, 84], qv rp, qv rq, .slice a rh.length c, qv rb, .bool rc] 25)) := (Below.refl _ _).alloc (Nat.le_refl _) _
      generalize hW3 : w2.alloc (.cells #[qv [80, 79, 83, 84], qv rp, qv rq, .slice a rh.length c, qv rb, .bool rc] 25) = W3 at hr hb3 ⊢
      have HB3 := hide ((unhide HB2).trans (hb3.mono (unhide HB2).size))
      have HO3 := hide ((unhide HO2).below hb3 (Nat.le_refl _))
      rw [← hx] at hr ⊢
      have HR3 := hide hr
      have c0 := hr.c0
      have c1 := hr.c1
      have c2 := hr.c2
      have c3 := hr.c3
      have c4 := hr.c4
      have c5 := hr.c5
      clear hx hW3 hb3 hr
      go_wp2_with (go_at_call 13; refine (unhide HG _ _ _ (unhide HO3)).mono ?_; rintro e w4 ⟨rfl, b4⟩; have HB4 := hide ((unhide HB3).trans (b4.mono (unhide HB3).size)); have hr4 := (unhide HR3).below b4 (Nat.le_refl _); have e0 := hr4.c0; have e3 := hr4.c3; have e4 := hr4.c4; clear b4 hr4 c0 c1 c2 c3 c4 c5)
      go_ret
      exact ⟨rfl, unhide HB4⟩

set_option maxRecDepth 100000 in
theorem RqSound.lifted (os : Os) (started : os.Started) (H : Type) (enc : TypeId × Value → H) :
    ReturnsInHanded {} Tryz.checked os 6 .any (fun w args => (Rows.requestSoundSpec.pre enc Tryz.prog Tryz.f6 [] false w args ∧ laidMetH Tryz.prog seatLaid w) ∧ sizedMet enc Tryz.prog Tryz.f6 (OpenSpec.ofChange Rows.requestSoundSpec) false w args)
      (Rows.requestSoundSpec.post enc Tryz.prog Tryz.f6 false true false false) := by
  refine returnsInHanded_of_change_and (C := Tryz.checked) (X := fun w _ => laidMetH Tryz.prog seatLaid w) (fun _ _ _ hh h => h.of_heap hh) own_knob started (by kernel_rfl) Tryz.func6
    (ChangeSpec.witness_at (enc := enc) (C := Tryz.checked) (os := os) (X := fun w _ => laidMetH Tryz.prog seatLaid w) false (laidWorld os) #[.string ⟨#[]⟩] 8 rfl (by kernel_rfl) (by kernel_rfl) (by kernel_rfl) (by kernel_rfl) (by kernel_rfl) (laidWorld_met os _)) ?_
  intro W base args ds gs before hval0 hW _ hsz0 hL _
  have hval : ∀ (j : Nat) t v, Tryz.f6.params[j]? = some t → args[j]? = some v → Value.okWide Tryz.prog W .any base t v := hval0
  have hsz : (DataW.weightsEach Tryz.prog (Tryz.f6.params.toList ++ Rows.requestSoundSpec.plain.varTypes Tryz.prog) (ds ++ gs)).all (· ≤ reachBytes) = true := hsz0
  have hW' := hW
  obtain ⟨p, q, hA0, hV, rfl, hfz, hnd⟩ := hW
  have hA : DataW.TrodAll enc Tryz.prog W 0 (fun _ => true) true Tryz.f6.params.toList args.toList ds p := hA0
  rw [Tryz.params6] at hA hval hsz
  obtain ⟨v0, vs0, d0, ds0, p0, q0, e0, rfl, rfl, h0, hA⟩ := trodAll_cons hA
  obtain ⟨rfl, rfl, rfl⟩ := trodAll_nil hA
  obtain rfl : args = #[v0] := by cases args; simp_all
  obtain ⟨rfl, rfl⟩ := trodVars_none hV
  obtain ⟨s0, rfl, rfl, rfl, hs0⟩ := open_string Tryz.underlying9 (hval 0 9 v0 rfl rfl) h0
  have ls0 : s0.data.toList.length ≤ 140737488351232 := by
    have := sized_string hsz (j := 0) (t := 9) rfl rfl
    simp only [reachBytes] at this
    omega
  clear hA0 hval0 hsz0
  refine (RqSound.walk s0.data.toList W (by omega)).mono fun e W' ⟨he, bel⟩ => ?_
  subst he
  exact ⟨_, rfl, _, _, _, [], _, [], hW', trodAll_mk1 (shut_bool Tryz.underlying4 _), (trodAll_cons_mk (shut_string Tryz.underlying9 hs0) trodAll_mk0), rfl, bel.frame _, fun h => by cases h⟩

theorem requestSound_holds : Rows.RequestSoundSaid :=
  OpenClaim.holds_of_wide 6 Tryz.f6 rfl rfl rfl rfl rfl rfl rfl ⟨rfl, rfl, rfl, rfl, rfl⟩ rfl rfl rfl rfl rfl (by kernel_rfl) Tryz.func6 (by kernel_rfl)
    (of_decide_eq_true (by kernel_rfl)) (by unfold Func.isWrapper; first | (rw [if_pos (by decide +kernel)]; kernel_rfl) | (rw [if_neg (by decide +kernel)]; exact ⟨rfl, rfl⟩))
    (fun os started H enc _ => RqSound.lifted os started H enc)

theorem requestSoundCard_holds : Rows.RequestSoundCardSaid :=
  Claim7.holds_tied_plain_at .later [] _ _ _ _
    requestSound_holds (fun _ h => by cases h) (by kernel_rfl) (fun _ h => by cases h) requestSound_row_tie rfl ⟨rfl, rfl⟩ (by kernel_rfl) rfl
    (fun f fn hf hfn => by
      obtain rfl : f = 6 := Option.some.inj ((show Tryz.prog.funcNamed "cartulary/cartularylaw18.RequestSound" = some 6 by kernel_rfl).symm.trans hf) |>.symm
      obtain rfl : fn = Tryz.f6 := (Option.some.inj (Tryz.func6.symm.trans hfn)).symm
      exact ⟨by kernel_rfl, fun j t ht => by
        rw [Tryz.params6] at ht
        have h0 : ∀ (t : TypeId), t ∈ ([9] : List TypeId) → Tryz.prog.wantsStandIn t = false := by
          intro t ht
          simp only [List.mem_cons, List.not_mem_nil, or_false] at ht
          rcases ht with rfl <;> kernel_rfl
        exact h0 t (List.mem_of_getElem? (by simpa using ht))⟩)
    (by kernel_rfl)
#print axioms requestSoundCard_holds
end Go.Proofs.YtankbanonbmffaaGreatDoor
