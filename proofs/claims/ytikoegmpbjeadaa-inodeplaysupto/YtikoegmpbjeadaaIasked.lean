/-
  DERIVED. The law's 'asked': all that there is to ask of a node is the document's.
-/
import Derived.Test.YtikoegmpbjeadaaIref3
import Derived.Test.YtikoegmpbjeadaaIref4
import Derived.Test.YtikoegmpbjeadaaIawake
namespace Go.Proofs.Ytikoegmpbjeadaa
open Go.RowKit
set_option linter.unusedVariables false

theorem Own.set {w : World} {base g n cap : Nat} {l : List UInt8} (h : Own w base (.slice (some ⟨g, 0, none⟩) n cap) l) (i : Nat) (c : UInt8) (hi : i < l.length) : Own (w.setCell ⟨g, i, none⟩ (bv c)) base (.slice (some ⟨g, 0, none⟩) n cap) (l.set i c) := by
  obtain ⟨h1, h2⟩ := h
  refine ⟨by simp, ?_⟩
  rcases h2 with ⟨e, _⟩ | ⟨g', cap', cur, e, hb, hg, hn, hm, hs, ht⟩
  · cases e
  · cases e
    refine .inr ⟨g, cap, _, by rw [List.length_set], hb, heap_setCell_same w g i cur _ _ hg, by rw [List.length_set]; exact hn, hm, by simpa using hs, ?_⟩
    rw [List.length_set, Array.toList_setIfInBounds, List.take_set, ht, List.map_set]
theorem Own.row {W : World} {base : Nat} {v : Value} {xs : List UInt8} (h : Own W base v xs) {q : Nat} (hq : v.ownBlock = some q) : base ≤ q ∧ ∃ cur, W.heap[q]? = some (.cells cur 5 (0, 0)) := by
  rcases h.2 with ⟨rfl, _⟩ | ⟨g, cap, cur, rfl, hb, hg, r⟩
  · cases hq
  · cases hq; exact ⟨hb, cur, hg⟩
theorem Own.form {w : World} {base : Nat} {v : Value} {xs : List UInt8} (h : Own w base v xs) : ∃ ao cap, v = .slice ao xs.length cap ∧ xs.length ≤ cap ∧ cap ≤ 9223372036854775807 ∧ (xs.length ≠ 0 → ∃ g, ao = some ⟨g, 0, none⟩ ∧ base ≤ g ∧ g < w.heap.size ∧ (∀ i, w.frozen? ⟨g, i, none⟩ = false) ∧ ∀ i, (h : i < xs.length) → w.cell? ⟨g, i, none⟩ = some (bv xs[i])) := by
  have hsl := h.sl
  rcases h.2 with ⟨rfl, h0⟩ | ⟨g, cap, cur, rfl, hb, hg, hn, hm, hs, ht⟩
  · exact ⟨none, 0, by rw [h0], by omega, by omega, fun h => absurd h0 h⟩
  · refine ⟨some ⟨g, 0, none⟩, cap, rfl, hn, by unfold maxLen at hm; omega, fun _ => ⟨g, rfl, hb, lt_of_block hg, fun i => by simp [World.frozen?, hg], fun i hi => ?_⟩⟩
    obtain ⟨ao, cap', e, _, _, h4⟩ := hsl
    cases e
    obtain ⟨b, off, e2, _, hc⟩ := h4 (by omega)
    cases e2
    have := hc i hi
    rw [Nat.zero_add] at this
    exact this

set_option maxRecDepth 20000 in
set_option maxHeartbeats 8000000 in
theorem asked_ok (w : World) (b c n : Nat) (v u : Value) (L : List Nat) (h : NdAt w b n v L) (h2 : RdAt w c n u L) :
    Calls Try.prog 14 #[.pointer (some ⟨b, 0, none⟩), .pointer (some ⟨c, 0, none⟩)] w fun e w' => e = .returned (.bool true) ∧ w.grownBy w' none := by
  have HM := hide h
  have HR := hide h2
  have hcl := h.small.2
  have hlow := low_canon h.lw
  clear h h2
  go_enter Try.func14, Try.ntmps14
  go_wp2_with fail
  refine (Runs_any w b n v L (unhide HM)).mono ?_
  rintro e w1 ⟨u1, rfl, o1, g1⟩
  have O1 := hide o1
  have G1 := hide g1
  have R1 := hide ((unhide HR).grown g1)
  clear o1 g1
  go_wp2_with fail
  refine (rRuns_any w1 c n u L (unhide R1)).mono ?_
  rintro e w2 ⟨u2, rfl, o2, g2⟩
  have O12 := hide ((unhide O1).grown g2)
  have O2 := hide o2
  have G2 : Hid (w.grownBy w2 none) := hide ((unhide G1).trans g2)
  clear o2 g2 O1 G1 R1
  go_wp2_with fail
  refine (SameRuns_any w2 u1 u2 _ _ ((unhide O12).rn fun x hx => by have := hlow x hx; omega) ((unhide O2).rn fun x hx => by have := hlow x hx; omega)).mono ?_
  rintro e w3 ⟨rfl, g3⟩
  simp only [decide_true]
  have HX : Hid (∃ xs, ROwn w3 w.heap.size u1 xs ∧ xs.length = (canon L).length) := hide ⟨_, (unhide O12).grown g3, rfl⟩
  have G3 : Hid (w.grownBy w3 none) := hide ((unhide G2).trans g3)
  obtain ⟨ro, rcap, hru, _⟩ := (unhide O12).form
  obtain ⟨q, hq⟩ : ∃ q, q = (canon L).length := ⟨_, rfl⟩
  rw [← hq] at HX hcl hru
  subst hru
  clear g3 O12 O2 G2 hq
  have hqI : (q : Int) ≤ 64 := by omega
  go_wp2
  go_loopw [7] (fun i wr => ∃ (j : Nat) (xs : List (Nat × Nat)), i = .int .i64 (j : Int) ∧ j ≤ q ∧ ROwn wr w.heap.size (.slice ro q rcap) xs ∧ xs.length = q ∧ w.grownBy wr none) (fun i _ => q - (intOf i).toNat)
  case atStart =>
    obtain ⟨xs, h1, h2⟩ := unhide HX
    exact ⟨0, xs, rfl, by omega, h1, h2, unhide G3⟩
  case round =>
    obtain ⟨j, xs, rfl, hj, ho, hxl, hg⟩ := hrel
    have HO := hide ho
    have HG := hide hg
    have HXl := hide hxl
    clear ho hg hxl HX G3
    by_cases hlt : j < q
    · have hlt' : (j : Int) < (q : Int) := by omega
      have hjx : j < xs.length := by rw [unhide HXl]; exact hlt
      obtain ⟨ao', cap', e, _, _, h4⟩ := (unhide HO).form
      injection e with e1 e2 e3
      obtain ⟨g, hro, hgb, hgl, hcell⟩ := h4 (by omega)
      rw [← e1] at hro
      subst hro
      clear e1 e2 e3 h4
      obtain ⟨d0, d1⟩ := hcell j hjx
      obtain ⟨_, cur, hcur⟩ := (unhide HO).row (q := g) rfl
      have f1 : wr.frozen? ⟨g, j * 2 + 1, none⟩ = false := by simp [World.frozen?, hcur]
      have HO2 := hide ((unhide HO).set1 j 99 hjx)
      have HG2 : Hid (w.grownBy (wr.setCell ⟨g, j * 2 + 1, none⟩ (.int .i64 99)) none) := hide (own_step (unhide HG) hgb (setCell_grown _ _ _ _))
      clear hcell hcur HO HG
      go_wp2
      go_roundw
      case rel => exact ⟨j + 1, _, rfl, by omega, unhide HO2, by simpa using unhide HXl, unhide HG2⟩
      case measure => simp [intOf]; omega
    · have hlt' : ¬ (j : Int) < (q : Int) := by omega
      have M4 := hide ((unhide HM).grown (unhide HG))
      have R4 := hide ((unhide HR).grown (unhide HG))
      clear HO HXl
      go_wp2_with fail
      refine (Bytes_any wr b n v L (unhide M4)).mono ?_
      rintro e w5 ⟨u5, rfl, o5, g5⟩
      have O5 := hide (o5.mono (unhide HG).size)
      have R5 := hide ((unhide R4).grown g5)
      have G5 : Hid (w.grownBy w5 none) := hide ((unhide HG).trans g5)
      have st5 := o5.sl.str
      have st5d := (o5.sl.drew).str
      have hTl := tellN_len (n := n) (unhide M4).small.2
      obtain ⟨bo, bcap, hbu, hb1, hb2, _⟩ := o5.form
      have hbu' : ∃ z, u5 = .slice bo z bcap := ⟨_, hbu⟩
      clear o5 g5 M4 R4 HG
      subst hbu
      go_wp2_with fail
      go_cut [9] from 29 to 34 (fun t wx => t = .bool true ∧ w5.grownBy wx none)
      case first =>
        go_region_with (go_at_call 33; refine (rBytes_any _ c n u L ((unhide R5).drewN _)).mono ?_; rintro e w6 ⟨u6, rfl, o6, g6⟩; have st6 := o6.sl.str; have st65 := ((unhide O5).sl.kept ((gr_d _).trans g6)).str; have G6 : Hid (w5.grownBy w6 none) := hide ((gr_d _).trans g6); clear o6 g6)
        all_goals go_wp2_with fail
        all_goals go_meet
        all_goals exact ⟨by simp, unhide G6⟩
      case rest =>
        obtain ⟨rfl, g6⟩ := hcut
        have HY : Hid (∃ ys, Own wc w.heap.size (.slice bo (tellN n L).length bcap) ys ∧ ys.length = (tellN n L).length) := hide ⟨_, (unhide O5).below (below_of_grown g6) (Nat.le_refl _), rfl⟩
        have G6 : Hid (w.grownBy wc none) := hide ((unhide G5).trans g6)
        clear g6 O5 G5 R5 st5 st5d hbu'
        obtain ⟨t, ht⟩ : ∃ t, t = (tellN n L).length := ⟨_, rfl⟩
        rw [← ht] at HY hTl hb1 ⊢
        clear ht
        have htI : (t : Int) ≤ 1400 := by omega
        go_wp2
        go_loopw [10] (fun i wr => ∃ (j : Nat) (ys : List UInt8), i = .int .i64 (j : Int) ∧ j ≤ t ∧ Own wr w.heap.size (.slice bo t bcap) ys ∧ ys.length = t ∧ w.grownBy wr none) (fun i _ => t - (intOf i).toNat)
        case atStart =>
          obtain ⟨ys, h1, h2⟩ := unhide HY
          exact ⟨0, ys, rfl, by omega, h1, h2, unhide G6⟩
        case round =>
          obtain ⟨j, ys, rfl, hj, ho, hyl, hg⟩ := hrel
          have HO := hide ho
          have HG := hide hg
          have HYl := hide hyl
          clear ho hg hyl HY G6
          by_cases hlt2 : j < t
          · have hlt2' : (j : Int) < (t : Int) := by omega
            have hjx : j < ys.length := by rw [unhide HYl]; exact hlt2
            obtain ⟨ao', cap', e, _, _, h4⟩ := (unhide HO).form
            injection e with e1 e2 e3
            obtain ⟨g, hbo, hgb, hgl, hfz, hcell⟩ := h4 (by omega)
            rw [← e1] at hbo
            subst hbo
            clear e1 e2 e3 h4
            have d0 := hcell j hjx
            have HO2 : Hid (Own (wr.setCell ⟨g, j, none⟩ (.int .u8 9)) w.heap.size (.slice (some ⟨g, 0, none⟩) t bcap) (ys.set j 9)) := hide ((unhide HO).set j 9 hjx)
            have HG2 : Hid (w.grownBy (wr.setCell ⟨g, j, none⟩ (.int .u8 9)) none) := hide (own_step (unhide HG) hgb (setCell_grown _ _ _ _))
            clear hcell HO HG
            go_wp2
            go_roundw
            case rel => exact ⟨j + 1, _, rfl, by omega, unhide HO2, by simpa using unhide HYl, unhide HG2⟩
            case measure => simp [intOf]; omega
          · have hlt2' : ¬ (j : Int) < (t : Int) := by omega
            have M7 := hide ((unhide HM).grown (unhide HG))
            have R7 := hide ((unhide HR).grown (unhide HG))
            have c0 := (unhide R7).num
            have c1 := (unhide R7).val
            obtain ⟨lo, lcap, hlu, _, _, _⟩ := (unhide R7).list.form
            subst hlu
            clear HO HYl
            go_wp2_with fail
            go_quiet (first | (go_at_call 21; exact Calls.quiet_of_same (Size_any _ b n v L ((unhide M7).drewN _))) | (go_at_call 22; exact Calls.quiet_of_same (Blocks_any _ b n v L ((unhide M7).drewN _))))
            go_wp2
            go_ret
            exact ⟨by simp, grown_drewN' (unhide HG) _⟩
end Go.Proofs.Ytikoegmpbjeadaa
