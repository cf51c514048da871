/-
  DERIVED. The law's asked.
-/
import Derived.Test.YtmnmciajldoabaaAlist
import Derived.Test.YtmnmciajldoabaaAref6
import Derived.Test.YtmnmciajldoabaaAused
import Derived.Test.YtmnmciajldoabaaAsame
import Derived.RegionCalls
import Derived.Deep.Cut
import Derived.Deep.CutRange
namespace Go.Proofs.Ytmnmciajldoabaa
open Go.RowKit
set_option linter.unusedVariables false

theorem runs_small (B : Nat) (U V : Nat → Bool) (hB : B ≤ 512) : ∀ x ∈ runsOf B U V, x.1 ≤ 512 ∧ x.2 ≤ 512 := fun x hx => by
  have := runsOf_in hB x hx
  omega
theorem grown_rn {w w' : World} {base : Nat} {v : Value} {xs : List (Nat × Nat)} (h : ROwn w base v xs) (hg : w.grownBy w' none) (hs : ∀ x ∈ xs, x.1 ≤ 512 ∧ x.2 ≤ 512) : Rn w' v (xs.map toI) := (h.rn hs).kept hg
/-- The first ones of a slice of runs. -/
theorem Rn.take {w : World} {ao : Option Addr} {n c : Nat} {l : List (Int × Int)} (h : Rn w (.slice ao n c) l) (k : Nat) (hk : k ≤ l.length) : Rn w (.slice ao k c) (l.take k) := by
  obtain ⟨ao', cap, e, h1, h2, h3, h4⟩ := h
  cases e
  have e : (l.take k).length = k := by rw [List.length_take]; omega
  refine ⟨ao, c, by rw [e], by omega, h2, fun x hx => h3 x (List.mem_of_mem_take hx), fun hl => ?_⟩
  obtain ⟨b, off, e2, hb, hc⟩ := h4 (by omega)
  refine ⟨b, off, e2, hb, fun i hi => ?_⟩
  rw [List.getElem_take]
  exact hc i (by omega)
theorem str_of {w : World} {v : Value} {l : List UInt8} (h : Sl w v l) : (convert 42 9 v).run Try.prog w = .ok (.string ⟨l.toArray⟩) w := by
  rcases h.cases with ⟨rfl, ao, rfl⟩ | ⟨b, off, cap, rfl, h1, h2, hb, hc⟩
  · cases ao with
    | none => exact run_convert_bytes_nil w 42 5 Try.underlying42 Try.underlying5 0 0 9 Try.underlying9
    | some a => exact run_convert_bytes_back w 42 9 5 a 0 [] Try.underlying42 Try.underlying5 Try.underlying9 (fun j hj => by simp at hj)
  · exact run_convert_bytes_back w 42 9 5 ⟨b, off, none⟩ cap l Try.underlying42 Try.underlying5 Try.underlying9 (fun j hj => by rw [addr_add]; exact hc j hj)
theorem Sl.grownN {w w' : World} {v : Value} {l : List UInt8} (h : Sl w v l) (hg : w.grownBy w' none) : Sl w' v l := h.below (below_of_grown hg) (Nat.le_refl _)

/-- A row of bytes to be written over. -/
def WrB (B : Nat) (ao : Option Addr) (n : Nat) (W : World) : Prop := n ≠ 0 → ∃ g cur, ao = some ⟨g, 0, none⟩ ∧ B ≤ g ∧ W.heap[g]? = some (.cells cur 5 (0, 0)) ∧ n ≤ cur.size
theorem WrB.low {B B' : Nat} {ao : Option Addr} {n : Nat} {W : World} (h : WrB B ao n W) (hb : B' ≤ B) : WrB B' ao n W := fun hn => by
  obtain ⟨g, cur, e, h1, h2, h3⟩ := h hn
  exact ⟨g, cur, e, by omega, h2, h3⟩
theorem WrB.set {B : Nat} {ao : Option Addr} {n : Nat} {W : World} (h : WrB B ao n W) (g i : Nat) (v : Value) : WrB B ao n (W.setCell ⟨g, i, none⟩ v) := fun hn => by
  obtain ⟨g', cur, e, h1, h2, h3⟩ := h hn
  by_cases hg : g' = g
  · subst hg
    exact ⟨g', _, e, h1, heap_setCell_same W g' i cur _ v h2, by simpa using h3⟩
  · exact ⟨g', cur, e, h1, (Below.heap_setCell W ⟨g, i, none⟩ v g' hg).trans h2, h3⟩
theorem Own.wrB {w : World} {base cap : Nat} {v : Value} {ao : Option Addr} {l : List UInt8} (h : Own w base v l) (e : v = .slice ao l.length cap) : WrB base ao l.length w := fun h0 => by
  rcases h.2 with ⟨e2, h1⟩ | ⟨g, cap', cur, e2, hb, hg, h1, h2, h3, h4⟩
  · omega
  · rw [e] at e2
    cases e2
    exact ⟨g, cur, rfl, hb, hg, by omega⟩
set_option maxRecDepth 20000 in
set_option maxHeartbeats 4000000 in
theorem asked_any (w : World) (N b rb B : Nat) (v1 v2 : Value) (U V : Nat → Bool) (h : MapAt w b B U V) (hr : RmAt w N rb B v1 v2 U V) :
    Calls Try.prog 19 #[.pointer (some ⟨b, 0, none⟩), .pointer (some ⟨rb, 0, none⟩)] w fun e w' => e = .returned (.bool true) ∧ w.grownBy w' none := by
  have HM := hide h
  have HR := hide hr
  have hB := h.le
  have hrl := runs_len B U V hB
  have HSm := hide (runs_small B U V hB)
  obtain ⟨X, hX⟩ : ∃ X, X = runsOf B U V := ⟨_, rfl⟩
  have HX := hide hX
  rw [← hX] at hrl HSm
  clear h hr hX
  go_enter Try.func19, Try.ntmps19
  go_wp2_with fail
  refine (rAll_any w N rb B v1 v2 U V (unhide HR)).mono ?_
  rintro e w1 ⟨uw, rfl, o1, g1⟩
  rw [← unhide HX] at o1
  have O1 := hide o1
  have G1 := hide g1
  clear o1 g1
  go_wp2_with fail
  refine (listed_any w1 b B 600 U V ((unhide HM).grown (unhide G1) (by simp)) (by omega) (by omega)).mono ?_
  rintro e w2 ⟨u2, rfl, o2, g2⟩
  rw [← unhide HX, List.take_of_length_le (by omega)] at o2
  have O2 := hide o2
  have G2 := hide ((unhide G1).trans g2)
  have R12 := hide (grown_rn (unhide O1) g2 (unhide HSm))
  clear o2 g2
  go_wp2_with fail
  refine (SameRuns_any w2 u2 uw _ _ ((unhide O2).rn (unhide HSm)) (unhide R12)).mono ?_
  rintro e w3 ⟨rfl, g3⟩
  have hd3 : decide (X.map toI = X.map toI) = true := by simp
  have G3 := hide ((unhide G2).trans g3)
  have R3 := hide ((unhide R12).kept g3)
  clear g3 O2 R12 G2 G1 O1
  obtain ⟨wo, wcap, hwf, hw1, hw2⟩ : ∃ ao cap, uw = .slice ao (X.map toI).length cap ∧ (X.map toI).length ≤ cap ∧ cap ≤ 9223372036854775807 := by
    obtain ⟨ao, cap, e, h1, h2, _⟩ := unhide R3
    exact ⟨ao, cap, e, h1, h2⟩
  obtain ⟨n, hn⟩ : ∃ n, n = (X.map toI).length := ⟨_, rfl⟩
  have hnx : n ≤ 512 := by rw [hn, List.length_map]; exact hrl
  rw [← hn] at hwf hw1
  subst hwf
  have HN := hide hn
  have hki1 : Hid (1 ≤ n → Rn w3 (.slice wo 1 wcap) ((X.take 1).map toI)) := hide (fun h1 => by
    have h2 := (unhide R3).take 1 (by rw [← hn]; omega)
    rw [← List.map_take] at h2
    exact h2)
  have hki0 : Hid (n < 1 → Rn w3 (.slice wo n wcap) ((X.take 1).map toI)) := hide (fun h1 => by
    have e0 : X = [] := List.eq_nil_of_length_eq_zero (by rw [List.length_map] at hn; omega)
    have h2 := (unhide R3)
    subst e0
    simpa using h2)
  have G3d : Hid (w.grownBy w3.drew none) := hide ⟨(unhide G3).os, (unhide G3).tape, (unhide G3).output, (unhide G3).size, (unhide G3).block⟩
  have g3d : Hid (w3.grownBy w3.drew none) := hide ⟨rfl, rfl, rfl, Nat.le_refl _, fun _ _ _ => rfl⟩
  have HS1 : Hid (∀ x ∈ X.take 1, x.1 ≤ 512 ∧ x.2 ≤ 512) := hide (fun x hx => unhide HSm x (List.mem_of_mem_take hx))
  have LA : Hid (∀ W, w.grownBy W none → Calls Try.prog 31 #[.pointer (some ⟨b, 0, none⟩), .int .i64 1] W fun e w' => ∃ v, e = .returned v ∧ ROwn w' W.heap.size v (X.take 1) ∧ W.grownBy w' none) := hide (fun W hW => by
    rw [unhide HX]
    exact listed_any W b B 1 U V ((unhide HM).grown hW (by simp)) (by omega) (by omega))
  have hd4 : decide ((X.take 1).map toI = (X.take 1).map toI) = true := by simp
  have hnw : n ≤ wcap := hw1
  clear hn R3
  go_upto_region 3 with fail
  go_cut [7] from 17 to 24 (fun t wx => t = .bool true ∧ w.grownBy wx none)
  case first =>
    by_cases hm1 : (1 : Int) ≤ (n : Int)
    all_goals
      try have hwc : 1 ≤ wcap := by omega
      try have hwc2 : (1 : Int) ≤ (wcap : Int) := by omega
      go_region_law (first | (go_simp; go_wp2_with (first
        | (go_at_call 31; refine (unhide LA _ (unhide G3d)).mono ?_; rintro e w4 ⟨u4, rfl, o4, g4⟩; have O4 := hide o4; have G4 : Hid (w.grownBy w4 none) := hide ((unhide G3d).trans g4); have K4 : Hid (w3.grownBy w4 none) := hide ((unhide g3d).trans g4); clear o4 g4)
        | (go_at_call 10; refine (SameRuns_any w4 u4 _ _ ((X.take 1).map toI) ((unhide O4).rn (unhide HS1)) (by first | exact (unhide hki1 (by omega)).kept (unhide K4) | exact (unhide hki0 (by omega)).kept (unhide K4))).mono ?_; rintro e w5 ⟨rfl, g5⟩; have G5 : Hid (w.grownBy w5 none) := hide ((unhide G4).trans g5); clear g5)
        | fail)))
      all_goals go_wp2_with fail
      all_goals go_meet
      all_goals exact ⟨rfl, unhide G5⟩
  case rest =>
    obtain ⟨rfl, g5⟩ := hcut
    obtain ⟨w5, hw5⟩ : ∃ w5, w5 = wc := ⟨_, rfl⟩
    rw [← hw5] at g5 ⊢
    have G5 := hide g5
    clear hki1 hki0 G3d g3d LA HS1 G3 g5 hw5
    go_wp2_with fail
    refine (Bytes_any w5 b B U V ((unhide HM).grown (unhide G5) (by simp))).mono ?_
    rintro e w6 ⟨vb, rfl, o6, g6⟩
    have O6 := hide o6
    have G6 : Hid (w.grownBy w6 none) := hide ((unhide G5).trans g6)
    have Z6 : Hid (w.heap.size ≤ w5.heap.size) := hide (unhide G5).size
    obtain ⟨T, hT⟩ : ∃ T, T = tell B U := ⟨_, rfl⟩
    have HT := hide hT
    rw [← hT] at O6
    have s6 := str_of (w := w6.drew) (Own.sl (World.ownsRow.drew (unhide O6)))
    have RB : Hid (∀ W, w.grownBy W none → Calls Try.prog 32 #[.pointer (some ⟨rb, 0, none⟩)] W fun e w' => ∃ v, e = .returned v ∧ Own w' W.heap.size v T ∧ W.grownBy w' none) := hide (fun W hW => by rw [hT]; exact rBytes_any W N rb B v1 v2 U V ((unhide HR).grown hW))
    have G6d : Hid (w.grownBy w6.drew none) := hide ⟨(unhide G6).os, (unhide G6).tape, (unhide G6).output, (unhide G6).size, (unhide G6).block⟩
    clear hT o6 g6
    go_upto_region 5 with fail
    go_cut [9] from 27 to 32 (fun t wx => t = .bool true ∧ Own wx w5.heap.size vb T ∧ w.grownBy wx none)
    case first =>
      go_region_law (first | (go_simp; go_wp2_with (first
        | (go_at_call 32; refine (unhide RB _ (unhide G6d)).mono ?_; rintro e w7 ⟨v7, rfl, o7, g7⟩; have s7 := str_of (Own.sl o7); have O7 : Hid (Own w7 w5.heap.size vb T) := hide (Own.below (World.ownsRow.drew (unhide O6)) (below_of_grown g7) (Nat.le_refl _)); have s67 := str_of (Own.sl (unhide O7)); have G7 : Hid (w.grownBy w7 none) := hide ((unhide G6d).trans g7); clear o7 g7)
        | fail)))
      all_goals go_wp2_with fail
      all_goals go_meet
      all_goals exact ⟨rfl, unhide O7, unhide G7⟩
    case rest =>
      obtain ⟨rfl, o7, g7⟩ := hcut
      obtain ⟨w7, hw7⟩ : ∃ w7, w7 = wc := ⟨_, rfl⟩
      rw [← hw7] at o7 g7 ⊢
      have O7 := hide o7
      have G7 := hide g7
      obtain ⟨bo, bcap, hbf, hb1, hb2⟩ : ∃ ao cap, vb = .slice ao T.length cap ∧ T.length ≤ cap ∧ cap ≤ 9223372036854775807 := by
        obtain ⟨ao, cap, e, h1, h2, _⟩ := (unhide O7).sl
        exact ⟨ao, cap, e, h1, by unfold maxLen at h2; omega⟩
      obtain ⟨nb, hnb⟩ : ∃ n, n = T.length := ⟨_, rfl⟩
      have hnb2 : (nb : Int) ≤ 9223372036854775807 := by omega
      have W7 : Hid (WrB w.heap.size bo nb w7) := hide (by
        have h1 := (unhide O7).wrB hbf
        rw [← hnb] at h1
        exact h1.low (unhide Z6))
      rw [← hnb] at hbf hb1
      subst hbf
      clear s6 O7 O6 RB G6d hnb o7 g7 hw7
      go_wp2
      go_loopw [10] (fun i wr => ∃ j : Nat, i = .int .i64 (j : Int) ∧ j ≤ nb ∧ Hid (WrB w.heap.size bo nb wr) ∧ Hid (w.grownBy wr none)) (fun i _ => nb - (intOf i).toNat)
      case atStart => exact ⟨0, rfl, by omega, W7, G7⟩
      case round =>
        obtain ⟨j, rfl, hj, HW, HG⟩ := hrel
        have hji : (j : Int) ≤ 9223372036854775807 := by omega
        by_cases hlt : j < nb
        · have hlt' : (j : Int) < (nb : Int) := by omega
          have hidx : (0 : Int) ≤ (j : Int) ∧ (j : Int) < (nb : Int) := ⟨by omega, hlt'⟩
          obtain ⟨g, cur, rfl, hgB, hg, hgs⟩ := unhide HW (by omega)
          have cg : wr.cell? ⟨g, j, none⟩ = some (cur[j]'(by omega)) := by rw [cell_of_row _ _ _ _ _ _ hg]; simp
          have fg : ∀ i, wr.frozen? ⟨g, i, none⟩ = false := fun i => by simp [World.frozen?, hg]
          have HW2 := hide ((unhide HW).set g j (.int .u8 255))
          have HG2 : Hid (w.grownBy (wr.setCell ⟨g, j, none⟩ (.int .u8 255)) none) := hide (own_stepW (unhide HG) hgB (setCell_grown wr g j _))
          obtain ⟨y, hy⟩ : ∃ y, y = cur[j]'(by omega) := ⟨_, rfl⟩
          rw [← hy] at cg
          clear hg hgs hy
          go_wp2
          go_roundw
          case rel => exact ⟨j + 1, by go_num, by omega, HW2, HG2⟩
          case measure => simp [intOf]; omega
        · obtain rfl : j = nb := by omega
          have hlt' : ¬ (j : Int) < (j : Int) := by omega
          clear hj hlt
          obtain ⟨o1, p1, hv1, _⟩ := (unhide HR).now.form
          have r0 := ((unhide HR).grown (unhide HG)).c0
          rw [hv1] at r0
          have FA : Hid (∀ W, w.grownBy W none → Calls Try.prog 22 #[.pointer (some ⟨b, 0, none⟩)] W fun e w' => e = .returned (.int .i64 (total X : Int)) ∧ W.grownBy w' none) := hide (fun W hW => by rw [unhide HX]; exact Free_any W b B U V ((unhide HM).grown hW (by simp)))
          have RF : Hid (∀ W, w.grownBy W none → Calls Try.prog 26 #[.pointer (some ⟨rb, 0, none⟩)] W fun e w' => e = .returned (.int .i64 (total X : Int)) ∧ w' = W) := hide (fun W hW => by rw [unhide HX]; exact rFree_any W N rb B v1 v2 U V ((unhide HR).grown hW))
          have BA : Hid (∀ W, w.grownBy W none → Calls Try.prog 33 #[.pointer (some ⟨b, 0, none⟩)] W fun e w' => e = .returned (.int .i64 (B : Int)) ∧ w' = W) := hide (fun W hW => Blocks_any W b B U V ((unhide HM).grown hW (by simp)))
          have RC0 : Hid (∀ W, w.grownBy W none → W.cell? ⟨rb, 0, none⟩ = some (.slice o1 B p1)) := hide (fun W hW => by rw [← hv1]; exact ((unhide HR).grown hW).c0)
          have GD : Hid (w.grownBy wr.drew none) := hide ⟨(unhide HG).os, (unhide HG).tape, (unhide HG).output, (unhide HG).size, (unhide HG).block⟩
          obtain ⟨t, ht⟩ : ∃ t, t = total X := ⟨_, rfl⟩
          rw [← ht] at FA RF
          have htt : ((t : Int) == (t : Int)) = true := by simp
          have hbb : ((B : Int) == (B : Int)) = true := by simp
          clear ht HW hv1
          have S0 : Hid (w.grownBy wr.drew none ∧ wr.drew.cell? ⟨rb, 0, none⟩ = some (.slice o1 B p1)) := hide ⟨unhide GD, unhide RC0 _ (unhide GD)⟩
          go_wp2_with fail
          go_region_held3 (fun w' => w.grownBy w' none ∧ w'.cell? ⟨rb, 0, none⟩ = some (.slice o1 B p1))
            (first | exact unhide S0 | exact unhide S8)
            (first
            | (go_at_call 22; refine (unhide FA _ (unhide GD)).mono ?_; rintro e w8 ⟨rfl, g8⟩; have G8 : Hid (w.grownBy w8 none) := hide ((unhide GD).trans g8); have S8 : Hid (w.grownBy w8 none ∧ w8.cell? ⟨rb, 0, none⟩ = some (.slice o1 B p1)) := hide ⟨unhide G8, unhide RC0 w8 (unhide G8)⟩; clear g8)
            | (go_at_call 26; refine (unhide RF _ (unhide G8)).mono ?_; rintro e w9 ⟨rfl, rfl⟩)
            | (go_at_call 33; refine (unhide BA _ (unhide G8)).mono ?_; rintro e w9 ⟨rfl, rfl⟩))
          all_goals go_wp2
          all_goals go_ret
          all_goals exact ⟨rfl, unhide G8⟩

end Go.Proofs.Ytmnmciajldoabaa
