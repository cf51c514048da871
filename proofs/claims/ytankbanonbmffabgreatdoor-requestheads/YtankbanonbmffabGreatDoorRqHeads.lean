/-
  DERIVED. RequestHeads: a header's name is found in small letters, its value without layout at its ends.
-/
import Derived.Test.YtankbanonbmffabGreatDoorRqHm
import Derived.Test.YtankbanonbmffabGreatDoorRqHo
import Derived.Test.YtankbanonbmffabGreatDoorCards
import Derived.Test.YtankbanonbmffabGreatDoorTie
import Derived.SevenTiedAt
import Derived.ChangeMaps5
import Derived.SizedLaws
import Derived.OpenShut
namespace Go.Proofs.YtankbanonbmffabGreatDoor
open Go.ChangeShapes Go.WideShapes Go.ChangeMaps Go.RowKit
set_option linter.unusedVariables false

def visB (c : UInt8) : Bool := decide (33 ≤ c.toNat) && !decide (c.toNat = 127)

set_option maxRecDepth 20000 in
set_option maxHeartbeats 8000000 in
theorem RqHeads.walk (name value : List UInt8) (gv : Value) (gl : List Bool) (w : World) (hg : Bls w gv gl) : Calls Tryz.prog 3 #[qv name, qv value, gv] w fun e w' => e = .returned (.bool true) ∧ Below w.heap.size w w' := by
  have HA := hide (awake_go w)
  obtain ⟨ga, gc, rfl, g1, g2, g3⟩ := hg
  have HG := hide g3
  clear g3
  go_enter Tryz.func3, Tryz.ntmps3
  go_upto_region 2 with (go_at_call 4; refine (unhide HA).mono ?_; rintro e w1 ⟨rfl, b1⟩; have HB1 := hide b1; clear b1)
  by_cases hn0 : name = []
  · subst hn0
    go_wp2_with fail
    go_ret
    exact ⟨rfl, unhide HB1⟩
  have hp0 : ((name.length : Nat) : Int) ≠ 0 := by have := List.length_pos_iff.2 hn0; omega
  have hp1 : (((name.length : Nat) : Int) == 0) = false := beq_eq_false_iff_ne.2 hp0
  by_cases hn40 : 40 < name.length
  · have hn : (40 : Int) < (name.length : Int) := by omega
    go_wp2_with fail
    go_ret
    exact ⟨rfl, unhide HB1⟩
  have hn : ¬ (40 : Int) < (name.length : Int) := by omega
  by_cases hv150 : 150 < value.length
  · have hv : (150 : Int) < (value.length : Int) := by omega
    go_wp2_with fail
    go_ret
    exact ⟨rfl, unhide HB1⟩
  have hv : ¬ (150 : Int) < (value.length : Int) := by omega
  obtain ⟨cap, w2, hcv, sm, b2, hc1, hc2⟩ := conv_small w1 name (by omega)
  obtain ⟨g, hg⟩ : ∃ g, g = w1.heap.size := ⟨_, rfl⟩
  have hwg : w.heap.size ≤ g := by rw [hg]; exact (unhide HB1).size
  have HS2 := hide sm
  have HB2 := hide ((unhide HB1).trans (b2.mono (unhide HB1).size))
  have HWG := hide hwg
  have H0 := hide hn0
  have H40 : Hid (name.length ≤ 40) := hide (by omega)
  have H150 : Hid (value.length ≤ 150) := hide (by omega)
  rw [← hg] at hcv HS2
  clear sm b2 hg hwg hn0 hn40 hv150
  go_upto_region 6 with fail
  clear hcv
  go_loopw [9] (fun i wr => ∃ (k : Nat) (R : List UInt8), k ≤ name.length ∧ i = .int .i64 (k : Int) ∧ Hid (HdInv name R k) ∧ Hid (SmAt wr g R) ∧ Hid (Below w.heap.size w wr)) (fun i _ => name.length - (intOf i).toNat)
  case atStart => exact ⟨0, name, by omega, rfl, hide (HdInv.start name), HS2, HB2⟩
  case round =>
    clear HS2 HB2 HB1
    obtain ⟨k, R, hk, rfl, HI, HS, HB⟩ := hrel
    by_cases hlt : k < name.length
    · obtain ⟨c, hc⟩ : ∃ c, name[k]? = some c := ⟨_, List.getElem?_eq_getElem hlt⟩
      have HC := hide hc
      obtain ⟨c0, f0⟩ := (unhide HS).at (((unhide HI).new k (Nat.le_refl _)).trans hc)
      clear hc
      by_cases h97 : (c.toNat : Int) < 97
      · go_wp2_with fail
        go_ret
        exact ⟨rfl, unhide HB⟩
      by_cases h122 : (122 : Int) < (c.toNat : Int)
      · go_wp2_with fail
        go_ret
        exact ⟨rfl, unhide HB⟩
      have HSame := hide ((unhide HI).same (unhide HC) (by omega) (by omega))
      by_cases hgl : k < gl.length
      · obtain ⟨gb, goff, rfl, hgb, hgc⟩ := unhide HG (by intro e; rw [e] at hgl; simp at hgl)
        have d0 := ((unhide HB).cell (p := ⟨gb, goff + k, none⟩) hgb).trans (hgc k hgl)
        obtain ⟨bo, hbo⟩ : ∃ bo, bo = gl[k] := ⟨_, rfl⟩
        rw [← hbo] at d0
        clear hgc hbo
        cases bo with
        | false =>
          go_wp2_with fail
          go_roundw
          case rel => exact ⟨k + 1, R, by omega, by go_num, HSame, HS, HB⟩
          case measure => simp [intOf]; omega
        | true =>
          have hR : k < R.length := by rw [(unhide HI).len]; exact hlt
          have HPut := hide ((unhide HI).put (unhide HC) (by omega) (by omega))
          have HS3 := hide ((unhide HS).set hR (c - 32))
          have HB3 := hide ((unhide HB).setCell (p := ⟨g, k, none⟩) (unhide HWG) (bv (c - 32)))
          have hs32 := sub32 (c := c) (by omega)
          have hw1 : IntKind.u8.wrap ((c.toNat : Int) - 32) = ((c - 32).toNat : Int) := by rw [hs32]; simp [IntKind.wrap, IntKind.signed, IntKind.bits]; omega
          clear hs32
          go_wp2_with fail
          go_roundw
          case rel => exact ⟨k + 1, R.set k (c - 32), by omega, by go_num, HPut, HS3, HB3⟩
          case measure => simp [intOf]; omega
      · go_wp2_with fail
        go_roundw
        case rel => exact ⟨k + 1, R, by omega, by go_num, HSame, HS, HB⟩
        case measure => simp [intOf]; omega
    · have hkn : k = name.length := by omega
      subst hkn
      go_upto_region 13 with fail
      go_loopw [10] (fun i wr' => ∃ (k : Nat), k ≤ value.length ∧ i = .int .i64 (k : Int) ∧ Hid ((value.take k).all visB = true) ∧ Hid (wr' = wr)) (fun i _ => value.length - (intOf i).toNat)
      case atStart => exact ⟨0, by omega, rfl, hide rfl, hide rfl⟩
      case round =>
        obtain ⟨j, hj, rfl, HV, HW⟩ := hrel
        by_cases hjl : j < value.length
        · obtain ⟨d, hd⟩ : ∃ d, value[j]? = some d := ⟨_, List.getElem?_eq_getElem hjl⟩
          have HD := hide hd
          have hB := qbyte_at hd
          clear hd
          by_cases h33 : (d.toNat : Int) < 33
          · go_wp2_with fail
            go_ret
            rw [unhide HW]
            exact ⟨rfl, unhide HB⟩
          by_cases h127 : (d.toNat : Int) = 127
          · go_wp2_with fail
            go_ret
            rw [unhide HW]
            exact ⟨rfl, unhide HB⟩
          have hb1 : ((d.toNat : Int) == 127) = false := beq_eq_false_iff_ne.2 h127
          have HV2 := hide (qall_take_succ (unhide HD) (p := visB) (by unfold visB; simp; omega) (unhide HV))
          go_wp2_with fail
          go_roundw
          case rel => exact ⟨j + 1, by omega, by go_num, HV2, HW⟩
          case measure => simp [intOf]; omega
        · have HVi : Hid (∀ c ∈ value, vis c) := hide (fun c hc => by
            have := unhide HV
            rw [List.take_of_length_le (by omega)] at this
            have := List.all_eq_true.1 this c hc
            unfold visB at this
            simp at this
            exact this)
          have hWe := unhide HW
          obtain ⟨hs1, hs2⟩ : R.length = name.length ∧ True := ⟨(unhide HI).len, trivial⟩
          have hst := (unhide HS).str (cap := cap)
          rw [hs1] at hst
          have HBw := HB
          rw [← hWe] at hst HBw
          clear hWe HW HV
          cases e1 : (name == [104, 111, 115, 116]) with
          | true =>
            go_wp2_with fail
            go_ret
            exact ⟨rfl, unhide HBw⟩
          | false =>
            cases e2 : (name == [99, 111, 110, 110, 101, 99, 116, 105, 111, 110]) with
            | true =>
              go_wp2_with fail
              go_ret
              exact ⟨rfl, unhide HBw⟩
            | false =>
              cases e3 : (name == [99, 111, 110, 116, 101, 110, 116, 45, 108, 101, 110, 103, 116, 104]) with
              | true =>
                go_wp2_with fail
                go_ret
                exact ⟨rfl, unhide HBw⟩
              | false =>
                obtain ⟨n, hP⟩ := heads_parse (unhide HI) (unhide H0) (unhide H40) (unhide H150) (unhide HVi) (beq_eq_false_iff_ne.1 e1) (beq_eq_false_iff_ne.1 e2)
                have hlt2 : (hdText R value).length ≤ 281474976710656 := by have := unhide H40; have := unhide H150; simp [hdText, hdOne, hdTwo]; omega
                have HP : Hid (∀ W, Calls Tryz.prog 5 #[qv (hdText R value)] W fun e w' => ∃ a c, e = .returned (.tuple #[.agg #[qv [71, 69, 84], qv [47], qv [], .slice a 2 c, qv [], .bool false], .int .i64 (n : Int), .int .i64 200]) ∧ HOwn w' W.heap.size (.slice a 2 c) [(qhost, [104]), (name, value)] ∧ Below W.heap.size W w') := hide (fun W => parse_yes _ W hlt2 hP)
                have HX : Hid (((⟨#[71, 69, 84, 32, 47, 32, 72, 84, 84, 80, 47, 49, 46, 49, 13, 10, 72, 111, 115, 116, 58, 32, 104, 13, 10]⟩ : ByteArray) ++ ⟨R.toArray⟩ ++ ⟨#[58, 32, 9, 32]⟩ ++ ⟨value.toArray⟩ ++ ⟨#[32, 9, 13, 10, 13, 10]⟩) = ⟨(hdText R value).toArray⟩) := hide (by
                  apply ByteArray.ext
                  simp [hdText, hdOne, hdTwo])
                have HGt : Hid (∀ a c W, HdL W (.slice a 2 c) [(qhost, [104]), (name, value)] → Calls Tryz.prog 6 #[.agg #[qv [71, 69, 84], qv [47], qv [], .slice a 2 c, qv [], .bool false], qv name] W fun e w' => e = .returned (.tuple #[qv value, .int .i64 1]) ∧ Below W.heap.size W w') := hide (fun a c W hW => (qGet_any [71, 69, 84] [47] [] _ [] false [(qhost, [104]), (name, value)] name W hW (fun x hx => by
                    have := unhide H150
                    simp only [List.mem_cons, List.not_mem_nil, or_false] at hx
                    rcases hx with rfl | rfl
                    · decide
                    · simp only; omega) (by simp)).mono fun e w' h => by rw [heads_get (beq_eq_false_iff_ne.1 e1)] at h; exact h)
                clear hP hlt2
                go_upto_region 20 with (go_at_call 5; rw [unhide HX]; refine (unhide HP _).mono ?_; rintro e w3 ⟨a, c, rfl, o3, b3⟩; have HB3 := hide ((unhide HBw).trans (b3.mono (unhide HBw).size)); have HO3 := hide o3.hdl; clear b3 o3)
                obtain ⟨x, hx⟩ : ∃ y, y = w3.heap.size := ⟨_, rfl⟩
                have hr := RBox.new w3 (qv [71, 69, 84]) (qv [47]) (qv []) (.slice a 2 c) (qv []) (.bool false)
                have hb3 : Below w3.heap.size w3 (w3.alloc (.cells #[qv [71, 69, 84], qv [47], qv [], .slice a 2 c, qv [], .bool false] 27)) := (Below.refl _ _).alloc (Nat.le_refl _) _
                generalize hW3 : w3.alloc (.cells #[qv [71, 69, 84], qv [47], qv [], .slice a 2 c, qv [], .bool false] 27) = w4 at hr hb3 ⊢
                have HB4 := hide ((unhide HB3).trans (hb3.mono (unhide HB3).size))
                have HO4 := hide ((unhide HO3).below hb3 (Nat.le_refl _))
                rw [← hx] at hr ⊢
                have HR4 := hide hr
                have c0 := hr.c0
                have c1 := hr.c1
                have c2 := hr.c2
                have c3 := hr.c3
                have c4 := hr.c4
                have c5 := hr.c5
                clear hx hW3 hb3 hr
                go_wp2_with (go_at_call 6; refine (unhide HGt _ _ _ (unhide HO4)).mono ?_; rintro e w5 ⟨rfl, b5⟩; have HB5 := hide ((unhide HB4).trans (b5.mono (unhide HB4).size)); have hr5 := (unhide HR4).below b5 (Nat.le_refl _); have d5 := hr5.c5; clear b5 hr5 c0 c1 c2 c3 c4 c5)
                go_ret
                exact ⟨rfl, unhide HB5⟩

set_option maxRecDepth 100000 in
theorem RqHeads.lifted (os : Os) (started : os.Started) (H : Type) (enc : TypeId × Value → H) :
    ReturnsInHanded {} Tryz.checked os 3 .any (fun w args => (Rows.requestHeadsSpec.pre enc Tryz.prog Tryz.f3 [] false w args ∧ laidMetH Tryz.prog seatLaid w) ∧ sizedMet enc Tryz.prog Tryz.f3 (OpenSpec.ofChange Rows.requestHeadsSpec) false w args)
      (Rows.requestHeadsSpec.post enc Tryz.prog Tryz.f3 false true false false) := by
  refine returnsInHanded_of_change_and (C := Tryz.checked) (X := fun w _ => laidMetH Tryz.prog seatLaid w) (fun _ _ _ hh h => h.of_heap hh) own_knob started (by kernel_rfl) Tryz.func3
    (ChangeSpec.witness_at (enc := enc) (C := Tryz.checked) (os := os) (X := fun w _ => laidMetH Tryz.prog seatLaid w) false (laidWorld os) #[.string ⟨#[]⟩, .string ⟨#[]⟩, .slice none 0 0] 8 rfl (by kernel_rfl) (by kernel_rfl) (by kernel_rfl) (by kernel_rfl) (by kernel_rfl) (laidWorld_met os _)) ?_
  intro W base args ds gs before hval0 hW _ hsz0 hL _
  have hval : ∀ (j : Nat) t v, Tryz.f3.params[j]? = some t → args[j]? = some v → Value.okWide Tryz.prog W .any base t v := hval0
  have hsz : (DataW.weightsEach Tryz.prog (Tryz.f3.params.toList ++ Rows.requestHeadsSpec.plain.varTypes Tryz.prog) (ds ++ gs)).all (· ≤ reachBytes) = true := hsz0
  have hW' := hW
  obtain ⟨p, q, hA0, hV, rfl, hfz, hnd⟩ := hW
  have hA : DataW.TrodAll enc Tryz.prog W 0 (fun _ => true) true Tryz.f3.params.toList args.toList ds p := hA0
  rw [Tryz.params3] at hA hval hsz
  obtain ⟨v0, vs0, d0, ds0, p0, q0, e0, rfl, rfl, h0, hA⟩ := trodAll_cons hA
  obtain ⟨v1, vs1, d1, ds1, p1, q1, rfl, rfl, rfl, h1, hA⟩ := trodAll_cons hA
  obtain ⟨v2, vs2, d2, ds2, p2, q2, rfl, rfl, rfl, h2, hA⟩ := trodAll_cons hA
  obtain ⟨rfl, rfl, rfl⟩ := trodAll_nil hA
  obtain rfl : args = #[v0, v1, v2] := by cases args; simp_all
  obtain ⟨rfl, rfl⟩ := trodVars_none hV
  obtain ⟨s0, rfl, rfl, rfl, hs0⟩ := open_string Tryz.underlying9 (hval 0 9 v0 rfl rfl) h0
  have ls0 : s0.data.toList.length ≤ 140737488351232 := by
    have := sized_string hsz (j := 0) (t := 9) rfl rfl
    simp only [reachBytes] at this
    omega
  obtain ⟨s1, rfl, rfl, rfl, hs1⟩ := open_string Tryz.underlying9 (hval 1 9 v1 rfl rfl) h1
  have ls1 : s1.data.toList.length ≤ 140737488351232 := by
    have := sized_string hsz (j := 1) (t := 9) rfl rfl
    simp only [reachBytes] at this
    omega
  obtain ⟨a2, n2, c2, rfl⟩ := okWide_slice Tryz.underlying22 (hval 2 22 v2 rfl rfl)
  have k2 := h2
  have lt2 : ∀ x ∈ p2, x.block < W.heap.size := by obtain ⟨m, hm⟩ := k2; exact DataW.trod_lt m _ _ _ hm
  obtain ⟨l2, g2⟩ := open_bls h2
  clear hA0 hval0 hsz0
  refine (RqHeads.walk s0.data.toList s1.data.toList _ l2 W g2).mono fun e W' ⟨he, bel⟩ => ?_
  subst he
  exact ⟨_, rfl, _, _, _, [], _, [], hW', trodAll_mk1 (shut_bool Tryz.underlying4 _), (trodAll_cons_mk (shut_string Tryz.underlying9 hs0) (trodAll_cons_mk (shut_string Tryz.underlying9 hs1) (trodAll_cons_mk (Below.trod laid_out (by kernel_rfl) (of_decide_eq_true (by kernel_rfl)) k2 bel lt2) trodAll_mk0))), rfl, bel.frame _, fun h => by cases h⟩

theorem requestHeads_holds : Rows.RequestHeadsSaid :=
  OpenClaim.holds_of_wide 3 Tryz.f3 rfl rfl rfl rfl rfl rfl rfl ⟨rfl, rfl, rfl, rfl, rfl⟩ rfl rfl rfl rfl rfl (by kernel_rfl) Tryz.func3 (by kernel_rfl)
    (of_decide_eq_true (by kernel_rfl)) (by unfold Func.isWrapper; first | (rw [if_pos (by decide +kernel)]; kernel_rfl) | (rw [if_neg (by decide +kernel)]; exact ⟨rfl, rfl⟩))
    (fun os started H enc _ => RqHeads.lifted os started H enc)

theorem requestHeadsCard_holds : Rows.RequestHeadsCardSaid :=
  Claim7.holds_tied_plain_at .later [] _ _ _ _
    requestHeads_holds (fun _ h => by cases h) (by kernel_rfl) (fun _ h => by cases h) requestHeads_row_tie rfl ⟨rfl, rfl⟩ (by kernel_rfl) rfl
    (fun f fn hf hfn => by
      obtain rfl : f = 3 := Option.some.inj ((show Tryz.prog.funcNamed "cartulary/cartularylaw18.RequestHeads" = some 3 by kernel_rfl).symm.trans hf) |>.symm
      obtain rfl : fn = Tryz.f3 := (Option.some.inj (Tryz.func3.symm.trans hfn)).symm
      exact ⟨by kernel_rfl, fun j t ht => by
        rw [Tryz.params3] at ht
        have h0 : ∀ (t : TypeId), t ∈ ([9, 9, 22] : List TypeId) → Tryz.prog.wantsStandIn t = false := by
          intro t ht
          simp only [List.mem_cons, List.not_mem_nil, or_false] at ht
          rcases ht with rfl | rfl | rfl <;> kernel_rfl
        exact h0 t (List.mem_of_getElem? (by simpa using ht))⟩)
    (by kernel_rfl)
#print axioms requestHeadsCard_holds
end Go.Proofs.YtankbanonbmffabGreatDoor
