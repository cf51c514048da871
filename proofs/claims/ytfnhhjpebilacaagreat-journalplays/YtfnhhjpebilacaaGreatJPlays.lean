/-
  JournalPlays: for every slice of calls it returns true, and its argument reads as before. Conditions: none.
-/
import Derived.Test.YtfnhhjpebilacaaGreatM9
import Derived.Deep.RegionHeld3
import Derived.Deep.CutRange
import Derived.OpenShut
namespace Go.Proofs.YtfnhhjpebilacaaGreat
open Go.ChangeShapes Go.WideShapes Go.ChangeAt Go.RowKit
set_option linter.unusedVariables false

set_option maxRecDepth 100000 in
set_option maxHeartbeats 32000000 in
theorem JPlays.walk (v0 : Value) (cs : List JCl) (B : Nat) (w : World) (hs : JClL w v0 cs B) (hB : B ≤ 140737488351232) :
    Calls Tryz.prog 3 #[v0] w fun e w' => e = .returned (.bool true) ∧ Below w.heap.size w w' := by
  have HS0 := hide hs
  obtain ⟨so, scap, rfl, hs1, _⟩ := hs
  obtain ⟨ns, hns⟩ : ∃ n, n = cs.length := ⟨_, rfl⟩
  rw [← hns] at hs1 HS0 ⊢
  have HNs := hide hns
  have hsi : (ns : Int) ≤ 9223372036854775807 := by omega
  clear hns
  go_enter Tryz.func3, Tryz.ntmps3
  go_wp2_with fail
  refine (Jawake_any _).mono ?_
  rintro e w1 ⟨rfl, b1⟩
  have HB1 := hide b1
  clear b1
  go_wp2_with fail
  refine (laid_l w w1 (unhide HB1)).mono ?_
  rintro e w2 ⟨b, lb, T0, rfl, l2⟩
  have L2 := hide l2
  clear l2 HB1
  go_wp2_with fail
  refine (New_go w2).mono ?_
  rintro e w3 hp
  obtain ⟨rb, rfl, ST0⟩ : ∃ rb, e = .returned (.pointer (some ⟨rb, 0, none⟩)) ∧ ∃ nb mb nc mc, JSts w w3 b rb nb mb nc mc 0 lb := new_sts (unhide L2) hp
  obtain ⟨nb, mb, nc, mc, st0⟩ := ST0
  have STS := hide st0
  clear hp st0 L2
  go_wp2_with fail
  go_loopw [5, 7] (fun l i W => ∃ (j lb : Nat), l = .pointer (some ⟨lb, 0, none⟩) ∧ i = .int .i64 (j : Int) ∧ j ≤ 60 ∧ Hid (JSts w W b rb nb mb nc mc j lb)) (fun _ i _ => 60 - (intOf i).toNat)
  case atStart => exact ⟨0, lb, rfl, rfl, by omega, STS⟩
  case round =>
    obtain ⟨j, lb, rfl, rfl, hj, HS⟩ := hrel
    clear STS
    by_cases hlt : j < ns ∧ j < 60
    · have hl1 : (j : Int) < (ns : Int) := by omega
      have hl2 : (j : Int) < 60 := by omega
      have hjl : j < cs.length := by rw [← unhide HNs]; exact hlt.1
      obtain ⟨pb, off, hso, hpb, hat⟩ : ∃ pb off, so = some ⟨pb, off, none⟩ ∧ pb < w.heap.size ∧ JClAt w pb (off + j * 4) B cs[j] := by
        obtain ⟨ao', cap', e, _, h4⟩ := unhide HS0
        injection e with e1 e2 e3
        subst e1
        obtain ⟨pb, off, e, h5, h6⟩ := h4 (by omega)
        exact ⟨pb, off, e, h5, h6 j hjl⟩
      subst hso
      obtain ⟨S, dn, D, R, P, yv, vs, ws, hJ, hF, hdn, hrm⟩ := unhide HS
      have hg := hJ.bel
      have d0 := (hg.cell (p := ⟨pb, _, none⟩) hpb).trans hat.c0
      have d1 := (hg.cell (p := ⟨pb, _, none⟩) hpb).trans hat.c1
      obtain ⟨v2, hv2, on2⟩ := hat.c2
      obtain ⟨v3, hv3, in3⟩ := hat.c3
      have d2 := (hg.cell (p := ⟨pb, _, none⟩) hpb).trans hv2
      have d3 := (hg.cell (p := ⟨pb, _, none⟩) hpb).trans hv3
      have hnum := hat.i1
      have HDL : Hid (cs[j].ws.length ≤ 4398046511000) := hide (by have := hat.dl; omega)
      have HHD := hide hat.hd
      obtain ⟨kind, hkind⟩ : ∃ x, x = cs[j].kind := ⟨_, rfl⟩
      obtain ⟨num, hnume⟩ : ∃ x, x = cs[j].n := ⟨_, rfl⟩
      obtain ⟨os, hos⟩ : ∃ x, x = cs[j].ws := ⟨_, rfl⟩
      obtain ⟨ps, hps⟩ : ∃ x, x = cs[j].picks := ⟨_, rfl⟩
      rw [← hkind] at d0
      rw [← hnume] at d1 hnum
      rw [← hos] at on2 HDL HHD
      rw [← hps] at in3
      obtain ⟨wa, wc, hv2e, hw2, hw3, _⟩ := id on2
      obtain ⟨pa, pc, hv3e, _⟩ := id in3
      obtain ⟨wl, hwl⟩ : ∃ wl, wl = os.length := ⟨_, rfl⟩
      obtain ⟨pl, hpl⟩ : ∃ pl, pl = ps.length := ⟨_, rfl⟩
      rw [← hwl] at hv2e hw2
      rw [← hpl] at hv3e
      subst hv2e hv3e
      have HWL := hide hwl
      have ON := hide on2
      have IN := hide in3
      have hwlI : (wl : Int) ≤ 9223372036854775807 := by omega
      obtain ⟨n1, n2⟩ : -9223372036854775808 ≤ num ∧ num < 9223372036854775808 := ⟨hnum.1, by have := hnum.2; omega⟩
      obtain ⟨W1, hW1⟩ : ∃ W1, W1 = wr.alloc (.cells #[.int .i64 kind, .int .i64 num, .slice wa wl wc, .slice pa pl pc] 33) := ⟨_, rfl⟩
      have hb1 : Below wr.heap.size wr W1 := by rw [hW1]; exact (Below.refl _ _).alloc (Nat.le_refl _) _
      obtain ⟨x, hx⟩ : ∃ x, x = wr.heap.size := ⟨_, rfl⟩
      have bx1 : W1.heap[x]? = some (.cells #[.int .i64 kind, .int .i64 num, .slice wa wl wc, .slice pa pl pc] 33 (0, 0)) := by rw [hW1, hx]; exact heap_alloc_self _ _
      have j1 := hJ.grown hb1
      have xlt : x < W1.heap.size := lt_of_block bx1
      obtain ⟨P1, hP1⟩ : ∃ P1 : Nat → Prop, P1 = fun q => P q ∨ (wr.heap.size ≤ q ∧ q < W1.heap.size) := ⟨_, rfl⟩
      have px : P1 x := by rw [hP1]; exact .inr ⟨by omega, xlt⟩
      rw [← hP1] at j1
      have HPX := hide px
      have DN := hide (Down_r j1.rst.dev)
      have J1 := hide j1
      have HX := hide hx
      have HW1 := hide hW1
      have HBX := hide bx1
      have HFt := hide hF
      have HDN := hide hdn
      have HRM := hide hrm
      have cx0 : W1.cell? ⟨x, 0, none⟩ = some (.int .i64 kind) := (cell_of_row _ _ _ _ _ _ bx1).trans rfl
      have cx1 : W1.cell? ⟨x, 1, none⟩ = some (.int .i64 num) := (cell_of_row _ _ _ _ _ _ bx1).trans rfl
      have cx2 : W1.cell? ⟨x, 2, none⟩ = some (.slice wa wl wc) := (cell_of_row _ _ _ _ _ _ bx1).trans rfl
      have cx3 : W1.cell? ⟨x, 3, none⟩ = some (.slice pa pl pc) := (cell_of_row _ _ _ _ _ _ bx1).trans rfl
      obtain ⟨sd, hsd⟩ : ∃ sd, sd = S.down := ⟨_, rfl⟩
      rw [← hsd] at DN
      have HSD := hide hsd.symm
      clear hat hv2 hv3 on2 in3 hg hJ hF hdn hrm hb1 bx1 j1 xlt hP1 px hx hW1 hkind hnume hos hps hwl hpl hnum hsd HS hlt
      go_wp2_with fail
      rw [← unhide HW1, ← unhide HX]
      refine (unhide DN).mono ?_
      rintro e w4 ⟨rfl, rfl⟩
      clear HW1 HX DN d0 d1 d2 d3
      cases sd with
      | true =>
        by_cases k5 : kind = 5
        · subst k5
          go_wp2_with fail
          refine (reopened_go (unhide J1) (unhide HFt) (by omega) 5 num n1 n2 wa wl wc pa pl pc ps (unhide IN)).mono ?_
          rintro e w5 ⟨lb2, T, c, R', vs2, rfl, a1, a2, a3⟩
          have NX : Hid (JSts w w5 b rb nb mb nc mc (j + 1) lb2) := hide ⟨T, false, Doc.told c, R', _, _, vs2, [], a1.mono (by omega), a2, fun _ => rfl, fun n hn => by simp [Doc.told]⟩
          clear a1 a2 a3 cx0 cx1 cx2 cx3 J1
          go_wp2
          go_roundw
          case rel => exact ⟨j + 1, lb2, rfl, by go_num, by omega, NX⟩
          case measure => simp [intOf]; omega
        · have kb : (kind == 5) = false := beq_eq_false_iff_ne.2 k5
          go_wp2_with fail
          refine ((unhide J1).readDn (unhide HSD) 0).mono ?_
          rintro e w5 ⟨rfl, j5⟩
          have J5 := hide j5
          clear j5 cx0 cx1 cx2 cx3
          go_wp2_with fail
          refine (Block_any 1 ⟨#[]⟩ w5 (by omega) (by omega)).mono ?_
          rintro e w6 ⟨rfl, _, b6⟩
          have J6 := hide ((unhide J5).grown b6)
          clear b6
          go_wp2_with fail
          refine ((unhide J6).putDn (unhide HSD) 0 _).mono ?_
          rintro e w7 ⟨rfl, j7⟩
          have J7 := hide j7
          clear j7 J6
          go_wp2_with fail
          refine ((unhide J7).comDn (unhide HSD) _).mono ?_
          rintro e w8 ⟨rfl, j8⟩
          have NX : Hid (JSts w w8 b rb nb mb nc mc (j + 1) lb) := hide ⟨S, true, D, R, _, yv, vs, ws, j8.mono (by omega), unhide HFt, (fun h => by rw [unhide HSD] at h; cases h), fun n hn => Nat.le_trans (unhide HRM n hn) (by omega)⟩
          clear j8 J5 J7 J1
          go_wp2
          go_roundw
          case rel => exact ⟨j + 1, lb, rfl, by go_num, by omega, NX⟩
          case measure => simp [intOf]; omega
      | false =>
        obtain rfl : dn = false := unhide HDN (unhide HSD)
        have hway : D.way = [] := ((unhide HFt).up (unhide HSD)).2.2.2
        obtain rfl : ws = [] := by
          have e := (unhide J1).wayE
          rw [hway] at e
          exact List.map_eq_nil_iff.1 e
        have HWY := hide hway
        clear hway
        by_cases k5 : kind = 5
        · subst k5
          go_wp2_with fail
          refine (reopened_go (unhide J1) (unhide HFt) (by omega) 5 num n1 n2 wa wl wc pa pl pc ps (unhide IN)).mono ?_
          rintro e w5 ⟨lb2, T, c, R', vs2, rfl, a1, a2, a3⟩
          have NX : Hid (JSts w w5 b rb nb mb nc mc (j + 1) lb2) := hide ⟨T, false, Doc.told c, R', _, _, vs2, [], a1.mono (by omega), a2, fun _ => rfl, fun n hn => by simp [Doc.told]⟩
          clear a1 a2 a3 cx0 cx1 cx2 cx3 J1
          go_wp2
          go_roundw
          case rel => exact ⟨j + 1, lb2, rfl, by go_num, by omega, NX⟩
          case measure => simp [intOf]; omega
        · by_cases k4 : kind = 4
          · subst k4
            go_wp2_with fail
            refine ((unhide J1).fuse (unhide HSD) num n1 n2).mono ?_
            rintro e w5 ⟨rfl, j5⟩
            have NX : Hid (JSts w w5 b rb nb mb nc mc (j + 1) lb) := hide ⟨S.fuseK num, false, D, R, P1, yv, vs, [], j5.mono (by omega), (unhide HFt).fuseK num, fun _ => rfl, fun n hn => Nat.le_trans (unhide HRM n hn) (by omega)⟩
            clear j5 cx0 cx1 cx2 cx3 J1
            go_wp2
            go_roundw
            case rel => exact ⟨j + 1, lb, rfl, by go_num, by omega, NX⟩
            case measure => simp [intOf]; omega
          · by_cases k3 : kind = 3
            · as_aux_lemma =>
              subst k3
              by_cases hin : 0 ≤ num ∧ num < 44
              · obtain ⟨m, hm⟩ : ∃ m : Nat, num = (m : Int) := ⟨num.toNat, by omega⟩
                subst hm
                have hm44 : m < 44 := by omega
                have hmI : (m : Int) < 44 := by omega
                have hk0 : (0 : Int) ≤ (m : Int) := by omega
                have hd0 : decide ((m : Int) < 0) = false := decide_eq_false (by omega)
                have hdG : decide ((44 : Int) ≤ (m : Int)) = false := decide_eq_false (by omega)
                clear hin
                go_wp2_with fail
                refine ((unhide J1).read (unhide HFt) (unhide HSD) (by omega) m hm44).mono ?_
                rintro e w5 ⟨sg5, T, j5, f5, hh⟩
                have DN5 := hide (Down_r j5.rst.dev)
                have bx5 : w5.heap[x]? = _ := (sg5.2 x (.inr (unhide HPX))).trans (unhide HBX)
                have cy1 : w5.cell? ⟨x, 1, none⟩ = some (.int .i64 (m : Int)) := (cell_of_row _ _ _ _ _ _ bx5).trans rfl
                have NX : Hid (∀ k, JSts w (w5.drewN k) b rb nb mb nc mc (j + 1) lb) := hide (fun k => ⟨T, T.down, D, R, P1, yv, vs, [], (j5.mono (by omega)).drewN k, f5, fun h => h, fun n hn => Nat.le_trans (unhide HRM n hn) (by omega)⟩)
                rcases hh with ⟨td, q, rfl, s5⟩ | ⟨td, rfl⟩
                · rw [td] at DN5
                  have h0 := j5.ref.head.1
                  have hn0 : w5.cell? ⟨nb, m, none⟩ = some (.string ⟨(D.now m).toArray⟩) := (rowCell j5.ref.nowR m (sV (D.now m)) (by rw [List.getElem?_map, List.getElem?_range hm44]; rfl)).1
                  have cv : ∀ k, (convert 34 9 (.slice (some ⟨q, 0, none⟩) 512 512)).run Tryz.prog (w5.drewN k) = .ok (.string ⟨(D.now m).toArray⟩) (w5.drewN k) := fun k => (s5.below (below_drewN (Below.refl w5.heap.size w5) k) (Nat.le_refl _)).strJ
                  obtain ⟨sn, hsn⟩ : ∃ sn, sn = (⟨(D.now m).toArray⟩ : ByteArray) := ⟨_, rfl⟩
                  rw [← hsn] at hn0 cv
                  have hee := bytes_eq (rfl : sn = sn)
                  clear j5 f5 td sg5 bx5 s5 hsn cx0 cx1 cx2 cx3 J1
                  go_wp2_with fail
                  refine (unhide DN5).mono ?_
                  rintro e w6 ⟨rfl, rfl⟩
                  go_wp2_with fail
                  go_quiet (fail)
                  go_wp2
                  go_roundw
                  case rel => exact ⟨j + 1, lb, rfl, by go_num, by omega, hide (unhide NX _)⟩
                  case measure => simp [intOf]; omega
                · rw [td] at DN5
                  clear j5 f5 td sg5 bx5 cx0 cx1 cx2 cx3 J1
                  go_wp2_with fail
                  refine (unhide DN5).mono ?_
                  rintro e w6 ⟨rfl, rfl⟩
                  go_wp2
                  go_roundw
                  case rel => exact ⟨j + 1, lb, rfl, by go_num, by omega, hide (unhide NX 0)⟩
                  case measure => simp [intOf]; omega
              · have RN := hide ((unhide J1).readNo (unhide HFt) (unhide HSD) num hin)
                have DN5 := (Down_r (unhide J1).rst.dev)
                rw [unhide HSD] at DN5
                have DN5 := hide DN5
                have NX : Hid (JSts w W1 b rb nb mb nc mc (j + 1) lb) := hide ⟨S, false, D, R, P1, yv, vs, [], (unhide J1).mono (by omega), unhide HFt, fun _ => rfl, fun n hn => Nat.le_trans (unhide HRM n hn) (by omega)⟩
                have HSP : num < 0 ∨ (¬ num < 0 ∧ 44 ≤ num) := by omega
                clear hin J1
                go_wp2_with fail
                refine (unhide RN).mono ?_
                rintro e w5 ⟨rfl, rfl⟩
                go_wp2_with fail
                refine (unhide DN5).mono ?_
                rintro e w6 ⟨rfl, rfl⟩
                rcases HSP with hsp | ⟨hsp1, hsp2⟩
                all_goals
                  go_wp2
                  go_roundw
                  case rel => exact ⟨j + 1, lb, rfl, by go_num, by omega, NX⟩
                  case measure => simp [intOf]; omega
            · by_cases k2 : kind = 2
              · as_aux_lemma =>
                subst k2
                have WR := hide (Writes_own W1 (.slice wa wl wc) os ((unhide ON).below (unhide J1).bel (Nat.le_refl _)) (unhide HDL))
                have HUS : Hid (∀ p ∈ os.map onR, p.2.length = 512 ∧ -9223372036854775808 ≤ p.1 ∧ p.1 ≤ 9223372036854775807) := hide (fun p hp => by
                  obtain ⟨o, ho, rfl⟩ := List.mem_map.1 hp
                  refine ⟨onR_len o, ?_⟩
                  obtain ⟨i, hi, rfl⟩ := List.mem_iff_getElem.1 ho
                  obtain ⟨_, _, _, _, _, h3⟩ := unhide ON
                  obtain ⟨_, _, _, _, hc⟩ := h3 (by omega)
                  have hi0 := (hc i hi).i0
                  exact ⟨hi0.1, by have := hi0.2; show os[i].n ≤ _; omega⟩)
                obtain ⟨us, hus⟩ : ∃ us, us = os.map onR := ⟨_, rfl⟩
                rw [← hus] at HUS
                have HUSE := hide hus
                clear hus
                go_wp2_with fail
                refine (unhide WR).mono ?_
                rintro e w5 ⟨u, xs, rfl, ow, hd, b5⟩
                rw [← unhide HUSE] at hd
                have HOW := hide ow
                have HXD : Hid (∀ i (h : i < xs.length), W1.heap.size ≤ xs[i].2 ∧ ∃ cs, w5.heap[xs[i].2]? = some (.cells cs 5 (0, 0)) ∧ cs.size = 512) := hide (fun i hi => by
                  have hl := hd.1
                  obtain ⟨_, q1, q2⟩ := hd.2 i hi (by omega)
                  exact ⟨q1, _, q2, by simp; exact (unhide HUS _ (List.getElem_mem (by omega))).1⟩)
                have hwv : Wrs w5 u us := (wrs_own ow hd (unhide HUS)).here
                have J5 := hide ((unhide J1).grown b5)
                obtain ⟨P5, hP5⟩ : ∃ P5 : Nat → Prop, P5 = fun q => P1 q ∨ (W1.heap.size ≤ q ∧ q < w5.heap.size) := ⟨_, rfl⟩
                rw [← hP5] at J5
                have HP5 : Hid (P5 x ∧ ∀ q, W1.heap.size ≤ q → q < w5.heap.size → P5 q) := hide (by rw [hP5]; exact ⟨.inl (unhide HPX), fun q h1 h2 => .inr ⟨h1, h2⟩⟩)
                have HBX5 : Hid (w5.heap[x]? = some (.cells #[.int .i64 2, .int .i64 num, .slice wa wl wc, .slice pa pl pc] 33 (0, 0))) := hide ((b5.block x (lt_of_block (unhide HBX))).trans (unhide HBX))
                have HZ1 := hide (unhide J1).bel.size
                have HXL : Hid (x < W1.heap.size) := hide (lt_of_block (unhide HBX))
                have CO := hide ((unhide J5).com (unhide HFt) (unhide HSD) (by omega) u us hwv)
                obtain ⟨ua, uc, hue, hu1, hu2, hu3⟩ := ow.form
                obtain ⟨un, hun⟩ : ∃ un, un = xs.length := ⟨_, rfl⟩
                rw [← hun] at hue hu1
                subst hue
                have HUN := hide hun
                have hunI : (un : Int) ≤ 9223372036854775807 := by omega
                clear ow hd b5 hwv hu3 hP5 hun WR cx0 cx1 cx2 cx3
                go_wp2_with fail
                refine (unhide CO).mono ?_
                rintro e w6 ⟨sg6, T, j6, hh⟩
                have HE : Hid (∃ ans, e = .returned (.int .i64 ans) ∧ ((comC us ≠ 0 ∧ ans = comC us ∧ T = S) ∨ (us.length ≤ 16 ∧ okW 44 us ∧ ans = (if T.down then 2 else 0) ∧ Fits T (D.commit (prtW us) T.down)))) := hide (by
                  rcases hh with ⟨h1, h2, h3⟩ | ⟨h1, h2, h3, h4⟩
                  · exact ⟨_, h2, .inl ⟨h1, rfl, h3⟩⟩
                  · exact ⟨_, h3, .inr ⟨h1, h2, rfl, h4⟩⟩)
                obtain ⟨ans, rfl, hans⟩ := unhide HE
                have HANS := hide hans
                have KQ : Hid (∀ q, W1.heap.size ≤ q → q < w5.heap.size → w6.heap[q]? = w5.heap[q]?) := hide (fun q h1 h2 => sg6.2 q (.inr ((unhide HP5).2 q h1 h2)))
                have J6 := hide (j6.mono (show 2300 + 1300 * j + 200 ≤ 2300 + 1300 * (j + 1) by omega))
                have HBX6 : Hid (w6.heap[x]? = some (.cells #[.int .i64 2, .int .i64 num, .slice wa wl wc, .slice pa pl pc] 33 (0, 0))) := hide ((sg6.2 x (.inr (unhide HP5).1)).trans (unhide HBX5))
                have HOW6 : Hid (WOwn w6 W1.heap.size (.slice ua un uc) xs) := hide ((unhide HOW).keptB fun q hq hl => unhide KQ q ((unhide HOW).row hq).1 hl)
                have HXD6 : Hid (∀ i (h : i < xs.length), W1.heap.size ≤ xs[i].2 ∧ xs[i].2 < w5.heap.size ∧ ∃ cs, w6.heap[xs[i].2]? = some (.cells cs 5 (0, 0)) ∧ cs.size = 512) := hide (fun i hi => by
                  obtain ⟨q1, cs, q2, q3⟩ := unhide HXD i hi
                  have q4 := lt_of_block q2
                  exact ⟨q1, q4, cs, (unhide KQ _ q1 q4).trans q2, q3⟩)
                clear hh hans HE sg6 j6 CO J5 HBX5 HOW HXD KQ
                go_wp2_with fail
                go_loopw [17] (fun i W => ∃ (k : Nat), i = .int .i64 (k : Int) ∧ k ≤ un ∧ Hid (JAt w W b lb rb nb mb nc mc (2300 + 1300 * (j + 1)) T T.down D R P5 yv vs []) ∧ Hid (W.heap[x]? = some (.cells #[.int .i64 2, .int .i64 num, .slice wa wl wc, .slice pa pl pc] 33 (0, 0))) ∧ Hid (WOwn W W1.heap.size (.slice ua un uc) xs) ∧ Hid (∀ i (h : i < xs.length), W1.heap.size ≤ xs[i].2 ∧ xs[i].2 < w5.heap.size ∧ ∃ cs, W.heap[xs[i].2]? = some (.cells cs 5 (0, 0)) ∧ cs.size = 512)) (fun i _ => un - (intOf i).toNat)
                case atStart => exact ⟨0, rfl, by omega, J6, HBX6, HOW6, HXD6⟩
                case round =>
                  obtain ⟨k, rfl, hk, JK, BK, OK, XK⟩ := hrel
                  clear J6 HBX6 HOW6 HXD6
                  by_cases hku : k < un
                  · have hkuI : (k : Int) < (un : Int) := by omega
                    have hkx : k < xs.length := by rw [← unhide HUN]; exact hku
                    obtain ⟨ua', uc', hue', _, _, hu4⟩ := (unhide OK).form
                    injection hue' with he1 he2 he3
                    obtain ⟨g, hga, hg1, hg2, hgc⟩ := hu4 (by omega)
                    have hua : ua = some ⟨g, 0, none⟩ := by rw [he1, hga]
                    subst hua
                    obtain ⟨e0, e1⟩ := hgc k hkx
                    obtain ⟨q1, q4, bcs, q2, q3⟩ := unhide XK k hkx
                    obtain ⟨q, hq⟩ : ∃ q, q = xs[k].2 := ⟨_, rfl⟩
                    rw [← hq] at e1 q1 q2 q4
                    have e1' : wr.cell? ⟨g, k * 2 + 1, none⟩ = some (.slice (some ⟨q, 0, none⟩) 512 512) := e1
                    have c0 : ∃ v, wr.cell? ⟨q, 0, none⟩ = some v := ⟨bcs[0], by rw [cell_of_row _ _ _ _ _ _ q2]; simp [q3]⟩
                    obtain ⟨vq, c0⟩ := c0
                    have fz : wr.frozen? ⟨q, 0, none⟩ = false := frozen_of_row wr q 0 _ _ q2
                    have hPq : P5 q := (unhide HP5).2 q q1 q4
                    have hz1 := unhide HZ1
                    have hxl := unhide HXL
                    have FN : Hid (JAt w (wr.setCell ⟨q, 0, none⟩ (.int .u8 88)) b lb rb nb mb nc mc (2300 + 1300 * (j + 1)) T T.down D R P5 yv vs [] ∧ (wr.setCell ⟨q, 0, none⟩ (.int .u8 88)).heap[x]? = some (.cells #[.int .i64 2, .int .i64 num, .slice wa wl wc, .slice pa pl pc] 33 (0, 0)) ∧ WOwn (wr.setCell ⟨q, 0, none⟩ (.int .u8 88)) W1.heap.size (.slice (some ⟨g, 0, none⟩) un uc) xs ∧ (∀ i (h : i < xs.length), W1.heap.size ≤ xs[i].2 ∧ xs[i].2 < w5.heap.size ∧ ∃ cs, (wr.setCell ⟨q, 0, none⟩ (.int .u8 88)).heap[xs[i].2]? = some (.cells cs 5 (0, 0)) ∧ cs.size = 512)) := hide (by
                      refine ⟨(unhide JK).setP hPq (by omega) _ _, ?_, ?_, fun i hi => ?_⟩
                      · rw [heap_setCell_other _ _ _ _ (show x ≠ q by omega)]; exact unhide BK
                      · refine (unhide OK).keptB fun r hr hl => heap_setCell_other _ _ _ _ fun (e : r = q) => ?_
                        obtain ⟨_, cur, hc⟩ := (unhide OK).row hr
                        rw [e, q2] at hc
                        simp only [Option.some.injEq, Obj.cells.injEq] at hc
                        exact absurd hc.2.1 (by decide)
                      · obtain ⟨p1, p2, cs, p3, p4⟩ := unhide XK i hi
                        refine ⟨p1, p2, ?_⟩
                        by_cases e : xs[i].2 = q
                        · rw [e, heap_setCell_same wr q 0 _ _ _ q2]
                          exact ⟨_, rfl, by rw [Array.size_setIfInBounds]; exact q3⟩
                        · rw [heap_setCell_other _ _ _ _ e]
                          exact ⟨cs, p3, p4⟩)
                    clear e0 e1 q1 q2 q3 q4 hq hPq hz1 hxl hgc hu4 he1 he2 he3 hga JK BK OK XK hg1 hg2
                    go_wp2
                    go_roundw
                    case rel => exact ⟨k + 1, by go_num, by omega, hide (unhide FN).1, hide (unhide FN).2.1, hide (unhide FN).2.2.1, hide (unhide FN).2.2.2⟩
                    case measure => simp [intOf]; omega
                  · have hkuI : ¬ (k : Int) < (un : Int) := by omega
                    have cz2 : wr.cell? ⟨x, 2, none⟩ = some (.slice wa wl wc) := (cell_of_row _ _ _ _ _ _ (unhide BK)).trans rfl
                    have WR2 := hide (Writes_own wr (.slice wa wl wc) os ((unhide ON).below (unhide JK).bel (Nat.le_refl _)) (unhide HDL))
                    go_wp2_with fail
                    refine (unhide WR2).mono ?_
                    rintro e w8 ⟨u8, xs8, rfl, ow8, hd8, b8⟩
                    rw [← unhide HUSE] at hd8
                    have j8 := (unhide JK).grown b8
                    have HWS : Hid (Wrs w8 u8 us) := hide ((wrs_own ow8 hd8 (unhide HUS)).here)
                    have HWK : Hid (WrsK w8 R u8 us) := hide (wrsK_own ow8 hd8 (fun p hp => (unhide HUS p hp).1) fun q hq hr => by have := (unhide JK).ltR hr; omega)
                    have J8 := hide j8
                    have DN8 := hide (Down_r j8.rst.dev)
                    obtain ⟨ua8, uc8, hue8, _⟩ := ow8.form
                    obtain ⟨un8, hun8⟩ : ∃ un, un = xs8.length := ⟨_, rfl⟩
                    rw [← hun8] at hue8
                    subst hue8
                    clear ow8 hd8 b8 j8 cz2 WR2 JK BK OK XK hun8
                    rcases unhide HANS with ⟨a1, a2, a3⟩ | ⟨a1, a2, a3, a4⟩
                    · subst a3
                      obtain ⟨td, htd⟩ : ∃ td, td = T.down := ⟨_, rfl⟩
                      rw [← htd] at DN8
                      have RC := rCommit_no (unhide J8).ref _ us (unhide HWS) td a1
                      rw [← a2] at RC
                      have RC := hide RC
                      have haa : (ans == ans) = true := by simp
                      clear HANS a1 a2 htd
                      go_wp2_with fail
                      refine (unhide DN8).mono ?_
                      rintro e w9 ⟨rfl, rfl⟩
                      go_wp2_with fail
                      refine (unhide RC).mono ?_
                      rintro e w10 ⟨rfl, nq, rfl⟩
                      have NX := hide (com_no (unhide J8) (unhide HFt) (unhide HRM) nq)
                      clear J8 RC
                      go_wp2
                      go_roundw
                      case rel => exact ⟨j + 1, lb, rfl, by go_num, by omega, NX⟩
                      case measure => simp [intOf]; omega
                    · obtain ⟨td, htd⟩ : ∃ td, td = T.down := ⟨_, rfl⟩
                      rw [← htd] at DN8 a3
                      have HTD := hide htd.symm
                      have A4 := hide a4
                      have A2 := hide a2
                      clear HANS a2 a4 htd
                      cases td with
                      | false =>
                        have RC := hide (rCommit_ok (unhide J8).ref _ us (unhide HWK) a1 (unhide A2))
                        simp only [Bool.false_eq_true, if_false] at a3
                        subst a3
                        go_wp2_with fail
                        refine (unhide DN8).mono ?_
                        rintro e w9 ⟨rfl, rfl⟩
                        go_wp2_with fail
                        refine (unhide RC).mono ?_
                        rintro e w10 hp
                        obtain ⟨he, hx⟩ := com_next (unhide J8) (unhide HTD) (unhide A4) (unhide HWY) hp
                        subst he
                        have NX := hide hx
                        clear J8 RC hp hx
                        go_wp2
                        go_roundw
                        case rel => exact ⟨j + 1, lb, rfl, by go_num, by omega, NX⟩
                        case measure => simp [intOf]; omega
                      | true =>
                        have RC := hide (rCommit_down (unhide J8).ref _ us (unhide HWK) a1 (unhide A2))
                        simp only [if_true] at a3
                        subst a3
                        go_wp2_with fail
                        refine (unhide DN8).mono ?_
                        rintro e w9 ⟨rfl, rfl⟩
                        go_wp2_with fail
                        refine (unhide RC).mono ?_
                        rintro e w10 hp
                        obtain ⟨he, hx⟩ := com_half (unhide J8) (unhide HTD) (unhide A4) (unhide A2) (unhide HRM) hp
                        subst he
                        have NX := hide hx
                        clear J8 RC hp hx
                        go_wp2
                        go_roundw
                        case rel => exact ⟨j + 1, lb, rfl, by go_num, by omega, NX⟩
                        case measure => simp [intOf]; omega
              · by_cases k16 : kind = 1 ∨ kind = 6
                · as_aux_lemma =>
                  have kb2 : (kind == 2) = false := beq_eq_false_iff_ne.2 k2
                  have kb3 : (kind == 3) = false := beq_eq_false_iff_ne.2 k3
                  have kb4 : (kind == 4) = false := beq_eq_false_iff_ne.2 k4
                  have kb5 : (kind == 5) = false := beq_eq_false_iff_ne.2 k5
                  clear k2 k3 k4 k5
                  by_cases hw0 : wl = 0
                  · have hwI : ¬ (0 : Int) < (wl : Int) := by omega
                    have NX : Hid (JSts w W1 b rb nb mb nc mc (j + 1) lb) := hide ⟨S, false, D, R, P1, yv, vs, [], (unhide J1).mono (by omega), unhide HFt, fun _ => rfl, fun n hn => Nat.le_trans (unhide HRM n hn) (by omega)⟩
                    clear J1 hw0
                    rcases k16 with k1 | k6
                    · subst k1
                      go_wp2
                      go_roundw
                      case rel => exact ⟨j + 1, lb, rfl, by go_num, by omega, NX⟩
                      case measure => simp [intOf]; omega
                    · subst k6
                      go_wp2
                      go_roundw
                      case rel => exact ⟨j + 1, lb, rfl, by go_num, by omega, NX⟩
                      case measure => simp [intOf]; omega
                  · have hwI : (0 : Int) < (wl : Int) := by omega
                    have hol : 0 < os.length := by have := unhide HWL; omega
                    obtain ⟨g, goff, hga, hgl, hgc, on1⟩ := (unhide ON).first hol
                    subst hga
                    have hgcI : (1 : Int) ≤ (wc : Int) := by omega
                    have HHO := hide (unhide HHD _ (List.getElem_mem hol))
                    have HOA : Hid (w.cell? ⟨g, goff + 2, none⟩ = some (.string os[0].head)) := hide (by
                      obtain ⟨ao, cp, e0, _, _, h3⟩ := on1
                      obtain ⟨g', o', e, _, hc⟩ := h3 (by simp)
                      injection e0 with e1
                      rw [e] at e1
                      cases e1
                      have := (hc 0 (by simp)).c2
                      simpa using this)
                    obtain ⟨o, ho⟩ : ∃ o, o = os[0] := ⟨_, rfl⟩
                    rw [← ho] at on1 HHO HOA
                    have WI := hide (Writes_own W1 _ [o] (on1.below (unhide J1).bel (Nat.le_refl _)) (by simp))
                    have HGL := hide hgl
                    clear on1 ho hw0 hgl hol
                    rcases k16 with k1 | k6
                    · as_aux_lemma =>
                      subst k1
                      go_wp2_with fail
                      refine (unhide WI).mono ?_
                      rintro e w5 ⟨u, xs, rfl, ow, hd, b5⟩
                      have hx1 : xs.length = 1 := hd.1
                      obtain ⟨x8, rfl⟩ : ∃ x, xs = [x] := by
                        match xs, hx1 with
                        | [x], _ => exact ⟨x, rfl⟩
                      obtain ⟨e8, hq8, hr8⟩ := hd.2 0 (by simp) (by simp)
                      simp only [List.map_cons, List.map_nil, List.getElem_cons_zero] at e8 hq8 hr8
                      obtain ⟨ao, cap7, rfl, _, _, hw4⟩ := ow.form
                      obtain ⟨g8, rfl, _, hg8, hcl⟩ := hw4 (by simp)
                      obtain ⟨z0, z1⟩ := hcl 0 (by simp)
                      have h5 := onR_len o
                      simp only [List.getElem_cons_zero] at z0 z1
                      obtain ⟨x1, q8⟩ := x8
                      simp only at e8 hq8 hr8 z0 z1
                      rw [Nat.zero_mul] at z0 z1
                      obtain ⟨on, hon⟩ : ∃ on, on = (onR o).1 := ⟨_, rfl⟩
                      obtain ⟨oL, hoL⟩ : ∃ oL, oL = (onR o).2 := ⟨_, rfl⟩
                      rw [← hon] at e8
                      rw [← hoL] at hr8 h5
                      rw [e8] at z0
                      clear e8
                      have z1' : w5.cell? ⟨g8, 0 + 1, none⟩ = some (.slice (some ⟨q8, 0, none⟩) 512 512) := z1
                      obtain ⟨W6, hW6⟩ : ∃ W6, W6 = w5.alloc (.cells #[.int .i64 on, .slice (some ⟨q8, 0, none⟩) 512 512] 42) := ⟨_, rfl⟩
                      obtain ⟨y, hy⟩ : ∃ y, y = w5.heap.size := ⟨_, rfl⟩
                      have hb6 : Below w5.heap.size w5 W6 := by rw [hW6]; exact (Below.refl _ _).alloc (Nat.le_refl _) _
                      have hby : W6.heap[y]? = some (.cells #[.int .i64 on, .slice (some ⟨q8, 0, none⟩) 512 512] 42 (0, 0)) := by rw [hW6, hy]; exact heap_alloc_self _ _
                      have hyl : y < W6.heap.size := lt_of_block hby
                      have hB6 : Below W1.heap.size W1 W6 := b5.trans (hb6.mono b5.size)
                      have hz5 := b5.size
                      have hz6 := hb6.size
                      have j6 := (unhide J1).grown hB6
                      obtain ⟨P6, hP6⟩ : ∃ P6 : Nat → Prop, P6 = fun q => P1 q ∨ (W1.heap.size ≤ q ∧ q < W6.heap.size) := ⟨_, rfl⟩
                      rw [← hP6] at j6
                      have hPy : P6 y := by rw [hP6]; exact .inr ⟨by omega, hyl⟩
                      have hq8l : q8 < w5.heap.size := lt_of_block hr8
                      have hPq : P6 q8 := by rw [hP6]; exact .inr ⟨by omega, by omega⟩
                      have hsl : Sl W6 (.slice (some ⟨q8, 0, none⟩) 512 512) oL := sl_block ((hb6.block q8 hq8l).trans hr8) h5
                      have hx6 : W6.heap[x]? = _ := (hB6.block x (lt_of_block (unhide HBX))).trans (unhide HBX)
                      have cw0 : W6.cell? ⟨x, 0, none⟩ = some (.int .i64 1) := (cell_of_row _ _ _ _ _ _ hx6).trans rfl
                      have cw2 : W6.cell? ⟨x, 2, none⟩ = some (.slice (some ⟨g, goff, none⟩) wl wc) := (cell_of_row _ _ _ _ _ _ hx6).trans rfl
                      have hgW : W6.cell? ⟨g, goff + 2, none⟩ = some (.string o.head) := (j6.bel.cell (p := ⟨g, goff + 2, none⟩) (unhide HGL)).trans (unhide HOA)
                      have HW6 := hide hW6
                      have HY := hide hy
                      have PR : Hid (PutRdy w W6 b lb rb nb mb nc mc (2300 + 1300 * j) S D R P6 yv vs y on (some ⟨q8, 0, none⟩) 512 512 oL) := hide ⟨j6, hby, hPy, hsl, fun _ ad e => by cases e; exact hPq⟩
                      rw [hW6] at cw0
                      clear hon hoL ow hd b5 hx1 hq8 hr8 hw4 hg8 hcl z1 h5 hb6 hby hyl hB6 hz5 hz6 j6 hP6 hPy hq8l hPq hsl hx6 cw2 hgW hW6 hy J1 cx1 cx2 cx3 WI
                      go_wp2_with fail
                      rw [← unhide HW6, ← unhide HY]
                      clear HW6 HY cw0 z0 z1' cx0
                      have NRM : Hid (∀ k, JSts w (W6.drewN k) b rb nb mb nc mc (j + 1) lb) := hide (fun k => ⟨S, false, D, R, P6, yv, vs, [], ((unhide PR).jat.drewN k).mono (by omega), unhide HFt, fun _ => rfl, fun n hn => Nat.le_trans (unhide HRM n hn) (by omega)⟩)
                      by_cases hok : putC 44 on 512 = 0
                      · obtain ⟨m, hm, hm44, hq5⟩ := putC_ok hok
                        subst hm
                        clear hq5
                        have PO := hide ((unhide PR).jat.putOk (unhide HFt) (unhide HSD) (by omega) m hm44 (some ⟨q8, 0, none⟩) 512 oL (unhide PR).sl (sl_512 (unhide PR).sl))
                        clear hok NRM
                        refine (unhide PO).mono ?_
                        rintro e w9 ⟨sg9, T, j9, rfl, f9⟩
                        obtain ⟨y0, y1⟩ := (unhide PR).cells w9 sg9
                        obtain ⟨ans, hans⟩ : ∃ ans : Int, ans = (if T.down then 2 else 0) := ⟨_, rfl⟩
                        have RP : Hid (Calls Tryz.prog 13 #[.pointer (some ⟨rb, 0, none⟩), .int .i64 (m : Int), .slice (some ⟨q8, 0, none⟩) 512 512, .bool T.down] w9.drew fun e w' => e = .returned (.int .i64 ans) ∧ JSts w w' b rb nb mb nc mc (j + 1) lb ∧ w'.cell? ⟨y, 0, none⟩ = some (.int .i64 (m : Int)) ∧ w'.cell? ⟨y, 1, none⟩ = some (.slice (some ⟨q8, 0, none⟩) 512 512)) := hide (by
                          have j10 : JAt w w9.drew b lb rb nb mb nc mc (2300 + 1300 * (j + 1)) T T.down D R P6 yv vs [] := (j9.mono (show 2300 + 1300 * j + 2 ≤ 2300 + 1300 * (j + 1) by omega)).drewN 1
                          refine (rPut_go j10.ref m hm44 _ _ _ (fun W hW => (unhide PR).keeps sg9 W ((kept_drewN' R w9 1).trans hW)) T.down (by have := unhide HRM m hm44; omega)).mono ?_
                          rintro e w' ⟨rfl, vs', H, r1, r2, r3⟩
                          have hyb : w'.heap[y]? = w9.heap[y]? := r2.block y (j10.ltP (unhide PR).py) fun h => (unhide PR).jat.ap _ h (unhide PR).py
                          refine ⟨by rw [hans], put_next j10 m f9 (unhide HRM) (unhide HWY) r1 r2 r3, ?_, ?_⟩
                          · rw [← y0]; unfold World.cell?; rw [hyb]
                          · rw [← y1]; unfold World.cell?; rw [hyb])
                        have DN9 : Hid (Calls Tryz.prog 7 #[.pointer (some ⟨b, 0, none⟩)] w9.drew fun e w' => e = .returned (.bool T.down) ∧ w9.drew = w') := hide (Down_r (j9.drewN 1).rst.dev)
                        have S0 : Hid (w9.drew.cell? ⟨y, 0, none⟩ = some (.int .i64 (m : Int)) ∧ w9.drew.cell? ⟨y, 1, none⟩ = some (.slice (some ⟨q8, 0, none⟩) 512 512)) := hide ⟨y0, y1⟩
                        have haa : (ans == ans) = true := by simp
                        rw [← hans]
                        obtain ⟨td, htd⟩ : ∃ td, td = T.down := ⟨_, rfl⟩
                        rw [← htd] at RP DN9
                        clear sg9 j9 f9 hans htd PR PO
                        go_upto_region 24 with fail
                        go_region_held3 (fun w' => w'.cell? ⟨y, 0, none⟩ = some (.int .i64 (m : Int)) ∧ w'.cell? ⟨y, 1, none⟩ = some (.slice (some ⟨q8, 0, none⟩) 512 512))
                          (first | exact unhide S0 | exact unhide S9)
                          (first
                          | (go_at_call 7; refine (unhide DN9).mono ?_; rintro e w10 ⟨rfl, rfl⟩)
                          | (go_at_call 13; refine (unhide RP).mono ?_; rintro e w11 ⟨rfl, hx⟩; have NX := hide hx.1; have S9 := hide hx.2; clear hx))
                        all_goals
                          clear y0 y1 RP DN9 S0
                          go_wp2
                          go_roundw
                          case rel => exact ⟨j + 1, lb, rfl, by go_num, by omega, NX⟩
                          case measure => simp [intOf]; omega
                      · have PN := hide ((unhide PR).jat.putNo (unhide HFt) (unhide HSD) on (some ⟨q8, 0, none⟩) 512 512 hok)
                        obtain ⟨y0, y1⟩ := (unhide PR).cells W6 (SameG.refl _ _)
                        obtain ⟨ans, hans⟩ : ∃ ans : Int, ans = putC 44 on 512 := ⟨_, rfl⟩
                        have RP : Hid (Calls Tryz.prog 13 #[.pointer (some ⟨rb, 0, none⟩), .int .i64 on, .slice (some ⟨q8, 0, none⟩) 512 512, .bool false] W6.drew fun e w' => e = .returned (.int .i64 ans) ∧ W6.drew = w') := hide ((rPut_no ((unhide PR).jat.drewN 1).ref on _ 512 512 (sl_max (unhide PR).sl) ans hans (by rw [hans]; exact hok) false).mono fun e w' ⟨h1, h2⟩ => ⟨h1, h2.symm⟩)
                        have DN9 : Hid (Calls Tryz.prog 7 #[.pointer (some ⟨b, 0, none⟩)] W6.drew fun e w' => e = .returned (.bool false) ∧ W6.drew = w') := hide (by
                          have := Down_r ((unhide PR).jat.drewN 1).rst.dev
                          rw [unhide HSD] at this
                          exact this)
                        have S0 : Hid (W6.drew.cell? ⟨y, 0, none⟩ = some (.int .i64 on) ∧ W6.drew.cell? ⟨y, 1, none⟩ = some (.slice (some ⟨q8, 0, none⟩) 512 512)) := hide ⟨y0, y1⟩
                        have haa : (ans == ans) = true := by simp
                        have NX : Hid (JSts w W6.drew b rb nb mb nc mc (j + 1) lb) := hide (unhide NRM 1)
                        rw [← hans] at PN
                        clear hans hok PR NRM
                        refine (unhide PN).mono ?_
                        rintro e w9 ⟨rfl, rfl⟩
                        go_upto_region 24 with fail
                        go_region_held3 (fun w' => w'.cell? ⟨y, 0, none⟩ = some (.int .i64 on) ∧ w'.cell? ⟨y, 1, none⟩ = some (.slice (some ⟨q8, 0, none⟩) 512 512))
                          (exact unhide S0)
                          (first
                          | (go_at_call 7; refine (unhide DN9).mono ?_; rintro e w10 ⟨rfl, rfl⟩)
                          | (go_at_call 13; refine (unhide RP).mono ?_; rintro e w11 ⟨rfl, rfl⟩))
                        all_goals
                          clear y0 y1 RP DN9 S0
                          go_wp2
                          go_roundw
                          case rel => exact ⟨j + 1, lb, rfl, by go_num, by omega, NX⟩
                          case measure => simp [intOf]; omega
                    · as_aux_lemma =>
                      subst k6
                      go_wp2_with fail
                      refine (unhide WI).mono ?_
                      rintro e w5 ⟨u, xs, rfl, ow, hd, b5⟩
                      have hx1 : xs.length = 1 := hd.1
                      obtain ⟨x8, rfl⟩ : ∃ x, xs = [x] := by
                        match xs, hx1 with
                        | [x], _ => exact ⟨x, rfl⟩
                      obtain ⟨e8, hq8, hr8⟩ := hd.2 0 (by simp) (by simp)
                      simp only [List.map_cons, List.map_nil, List.getElem_cons_zero] at e8 hq8 hr8
                      obtain ⟨ao, cap7, rfl, _, _, hw4⟩ := ow.form
                      obtain ⟨g8, rfl, _, hg8, hcl⟩ := hw4 (by simp)
                      obtain ⟨z0, z1⟩ := hcl 0 (by simp)
                      have h5 := onR_len o
                      simp only [List.getElem_cons_zero] at z0 z1
                      obtain ⟨x1, q8⟩ := x8
                      simp only at e8 hq8 hr8 z0 z1
                      rw [Nat.zero_mul] at z0 z1
                      obtain ⟨on, hon⟩ : ∃ on, on = (onR o).1 := ⟨_, rfl⟩
                      obtain ⟨oL, hoL⟩ : ∃ oL, oL = (onR o).2 := ⟨_, rfl⟩
                      rw [← hon] at e8
                      rw [← hoL] at hr8 h5
                      rw [e8] at z0
                      clear e8
                      have z1' : w5.cell? ⟨g8, 0 + 1, none⟩ = some (.slice (some ⟨q8, 0, none⟩) 512 512) := z1
                      obtain ⟨W6, hW6⟩ : ∃ W6, W6 = w5.alloc (.cells #[.int .i64 on, .slice (some ⟨q8, 0, none⟩) 512 512] 42) := ⟨_, rfl⟩
                      obtain ⟨y, hy⟩ : ∃ y, y = w5.heap.size := ⟨_, rfl⟩
                      have hb6 : Below w5.heap.size w5 W6 := by rw [hW6]; exact (Below.refl _ _).alloc (Nat.le_refl _) _
                      have hby : W6.heap[y]? = some (.cells #[.int .i64 on, .slice (some ⟨q8, 0, none⟩) 512 512] 42 (0, 0)) := by rw [hW6, hy]; exact heap_alloc_self _ _
                      have hyl : y < W6.heap.size := lt_of_block hby
                      have hB6 : Below W1.heap.size W1 W6 := b5.trans (hb6.mono b5.size)
                      have hz5 := b5.size
                      have hz6 := hb6.size
                      have j6 := (unhide J1).grown hB6
                      obtain ⟨P6, hP6⟩ : ∃ P6 : Nat → Prop, P6 = fun q => P1 q ∨ (W1.heap.size ≤ q ∧ q < W6.heap.size) := ⟨_, rfl⟩
                      rw [← hP6] at j6
                      have hPy : P6 y := by rw [hP6]; exact .inr ⟨by omega, hyl⟩
                      have hq8l : q8 < w5.heap.size := lt_of_block hr8
                      have hPq : P6 q8 := by rw [hP6]; exact .inr ⟨by omega, by omega⟩
                      have hsl : Sl W6 (.slice (some ⟨q8, 0, none⟩) 512 512) oL := sl_block ((hb6.block q8 hq8l).trans hr8) h5
                      have hx6 : W6.heap[x]? = _ := (hB6.block x (lt_of_block (unhide HBX))).trans (unhide HBX)
                      have cw0 : W6.cell? ⟨x, 0, none⟩ = some (.int .i64 6) := (cell_of_row _ _ _ _ _ _ hx6).trans rfl
                      have cw2 : W6.cell? ⟨x, 2, none⟩ = some (.slice (some ⟨g, goff, none⟩) wl wc) := (cell_of_row _ _ _ _ _ _ hx6).trans rfl
                      have hgW : W6.cell? ⟨g, goff + 2, none⟩ = some (.string o.head) := (j6.bel.cell (p := ⟨g, goff + 2, none⟩) (unhide HGL)).trans (unhide HOA)
                      have HW6 := hide hW6
                      have HY := hide hy
                      obtain ⟨oq, hoq⟩ : ∃ oq, oq = o.head.size := ⟨_, rfl⟩
                      obtain ⟨dL, hdL⟩ : ∃ dL, dL = o.head.data.toList := ⟨_, rfl⟩
                      obtain ⟨hdS, hhdS⟩ : ∃ s, s = o.head := ⟨_, rfl⟩
                      obtain ⟨cap9, W7, cv, sl7, b7⟩ := conv_str W6 o.head (unhide HHO)
                      rw [← hoq] at cv sl7
                      rw [← hdL] at sl7
                      rw [← hhdS] at cv hgW
                      have hby7 : W7.heap[y]? = some (.cells #[.int .i64 on, .slice (some ⟨q8, 0, none⟩) 512 512] 42 (0, 0)) := (b7.block y hyl).trans hby
                      have hz7 := b7.size
                      have j7 := j6.grown b7
                      obtain ⟨P7, hP7⟩ : ∃ P7 : Nat → Prop, P7 = fun q => P6 q ∨ (W6.heap.size ≤ q ∧ q < W7.heap.size) := ⟨_, rfl⟩
                      rw [← hP7] at j7
                      have hPy7 : P7 y := by rw [hP7]; exact .inl hPy
                      obtain ⟨dq, hdq⟩ : ∃ dq, dq = W6.heap.size := ⟨_, rfl⟩
                      rw [← hdq] at cv sl7
                      have hyw : w.heap.size ≤ y := by have := (unhide J1).bel.size; omega
                      have hyd : dq ≠ y := by omega
                      have hPd : cap9 ≠ 0 → P7 dq := fun hc => by
                        have := sl7.old hc _ rfl
                        rw [hP7]
                        exact .inr ⟨by omega, this⟩
                      have c7 : W7.cell? ⟨y, 1, none⟩ = some (.slice (some ⟨q8, 0, none⟩) 512 512) := (cell_of_row _ _ _ _ _ _ hby7).trans rfl
                      have f7 : W7.frozen? ⟨y, 1, none⟩ = false := frozen_of_row W7 y 1 _ _ hby7
                      have c70 : W7.cell? ⟨y, 0, none⟩ = some (.int .i64 on) := (cell_of_row _ _ _ _ _ _ hby7).trans rfl
                      obtain ⟨W8, hW8⟩ : ∃ W8, W8 = W7.setCell ⟨y, 1, none⟩ (.slice (some ⟨dq, 0, none⟩) oq cap9) := ⟨_, rfl⟩
                      have PR : Hid (PutRdy w W8 b lb rb nb mb nc mc (2300 + 1300 * j) S D R P7 yv vs y on (some ⟨dq, 0, none⟩) oq cap9 dL) := hide (by
                        rw [hW8]
                        refine ⟨j7.setP hPy7 hyw _ _, ?_, hPy7, sl_set sl7 (fun hc e => hyd (by simpa using e)) _ _, fun hc ad e => by cases e; exact hPd hc⟩
                        rw [heap_setCell_same W7 y 1 _ _ _ hby7]
                        rfl)
                      have HW8 := hide hW8
                      rw [hW6] at cw0 cw2 hgW cv
                      rw [hy] at c7 f7 c70
                      obtain ⟨P6, hP6'⟩ : ∃ P6 : Nat → Prop, P6 = P7 := ⟨_, rfl⟩
                      subst hP6'
                      have hoqI : (oq : Int) ≤ 9223372036854775807 := by have := unhide HHO; omega
                      clear hon hoL ow hd b5 hx1 hq8 hr8 hw4 hg8 hcl z1 h5 hb6 hby hyl hB6 hz5 hz6 j6 hP6 hPy hq8l hPq hsl hx6 hW6 hy J1 cx1 cx2 cx3 WI hoq hdL hhdS sl7 b7 hby7 hz7 j7 hP7 hPy7 hdq hyw hyd hPd hW8
                      go_wp2_with fail
                      rw [← unhide HY, ← unhide HW8]
                      clear HW6 HY HW8 cw0 cw2 hgW cv c7 f7 c70 z0 z1' cx0
                      have NRM : Hid (∀ k, JSts w (W8.drewN k) b rb nb mb nc mc (j + 1) lb) := hide (fun k => ⟨S, false, D, R, P6, yv, vs, [], ((unhide PR).jat.drewN k).mono (by omega), unhide HFt, fun _ => rfl, fun n hn => Nat.le_trans (unhide HRM n hn) (by omega)⟩)
                      by_cases hok : putC 44 on oq = 0
                      · obtain ⟨m, hm, hm44, hq5⟩ := putC_ok hok
                        subst hm
                        subst hq5
                        have PO := hide ((unhide PR).jat.putOk (unhide HFt) (unhide HSD) (by omega) m hm44 (some ⟨dq, 0, none⟩) cap9 dL (unhide PR).sl (sl_512 (unhide PR).sl))
                        clear hok NRM
                        refine (unhide PO).mono ?_
                        rintro e w9 ⟨sg9, T, j9, rfl, f9⟩
                        obtain ⟨y0, y1⟩ := (unhide PR).cells w9 sg9
                        obtain ⟨ans, hans⟩ : ∃ ans : Int, ans = (if T.down then 2 else 0) := ⟨_, rfl⟩
                        have RP : Hid (Calls Tryz.prog 13 #[.pointer (some ⟨rb, 0, none⟩), .int .i64 (m : Int), .slice (some ⟨dq, 0, none⟩) 512 cap9, .bool T.down] w9.drew fun e w' => e = .returned (.int .i64 ans) ∧ JSts w w' b rb nb mb nc mc (j + 1) lb ∧ w'.cell? ⟨y, 0, none⟩ = some (.int .i64 (m : Int)) ∧ w'.cell? ⟨y, 1, none⟩ = some (.slice (some ⟨dq, 0, none⟩) 512 cap9)) := hide (by
                          have j10 : JAt w w9.drew b lb rb nb mb nc mc (2300 + 1300 * (j + 1)) T T.down D R P6 yv vs [] := (j9.mono (show 2300 + 1300 * j + 2 ≤ 2300 + 1300 * (j + 1) by omega)).drewN 1
                          refine (rPut_go j10.ref m hm44 _ _ _ (fun W hW => (unhide PR).keeps sg9 W ((kept_drewN' R w9 1).trans hW)) T.down (by have := unhide HRM m hm44; omega)).mono ?_
                          rintro e w' ⟨rfl, vs', H, r1, r2, r3⟩
                          have hyb : w'.heap[y]? = w9.heap[y]? := r2.block y (j10.ltP (unhide PR).py) fun h => (unhide PR).jat.ap _ h (unhide PR).py
                          refine ⟨by rw [hans], put_next j10 m f9 (unhide HRM) (unhide HWY) r1 r2 r3, ?_, ?_⟩
                          · rw [← y0]; unfold World.cell?; rw [hyb]
                          · rw [← y1]; unfold World.cell?; rw [hyb])
                        have DN9 : Hid (Calls Tryz.prog 7 #[.pointer (some ⟨b, 0, none⟩)] w9.drew fun e w' => e = .returned (.bool T.down) ∧ w9.drew = w') := hide (Down_r (j9.drewN 1).rst.dev)
                        have S0 : Hid (w9.drew.cell? ⟨y, 0, none⟩ = some (.int .i64 (m : Int)) ∧ w9.drew.cell? ⟨y, 1, none⟩ = some (.slice (some ⟨dq, 0, none⟩) 512 cap9)) := hide ⟨y0, y1⟩
                        have haa : (ans == ans) = true := by simp
                        rw [← hans]
                        obtain ⟨td, htd⟩ : ∃ td, td = T.down := ⟨_, rfl⟩
                        rw [← htd] at RP DN9
                        clear sg9 j9 f9 hans htd PR PO
                        go_upto_region 24 with fail
                        go_region_held3 (fun w' => w'.cell? ⟨y, 0, none⟩ = some (.int .i64 (m : Int)) ∧ w'.cell? ⟨y, 1, none⟩ = some (.slice (some ⟨dq, 0, none⟩) 512 cap9))
                          (first | exact unhide S0 | exact unhide S9)
                          (first
                          | (go_at_call 7; refine (unhide DN9).mono ?_; rintro e w10 ⟨rfl, rfl⟩)
                          | (go_at_call 13; refine (unhide RP).mono ?_; rintro e w11 ⟨rfl, hx⟩; have NX := hide hx.1; have S9 := hide hx.2; clear hx))
                        all_goals
                          clear y0 y1 RP DN9 S0
                          go_wp2
                          go_roundw
                          case rel => exact ⟨j + 1, lb, rfl, by go_num, by omega, NX⟩
                          case measure => simp [intOf]; omega
                      · have PN := hide ((unhide PR).jat.putNo (unhide HFt) (unhide HSD) on (some ⟨dq, 0, none⟩) oq cap9 hok)
                        obtain ⟨y0, y1⟩ := (unhide PR).cells W8 (SameG.refl _ _)
                        obtain ⟨ans, hans⟩ : ∃ ans : Int, ans = putC 44 on oq := ⟨_, rfl⟩
                        have RP : Hid (Calls Tryz.prog 13 #[.pointer (some ⟨rb, 0, none⟩), .int .i64 on, .slice (some ⟨dq, 0, none⟩) oq cap9, .bool false] W8.drew fun e w' => e = .returned (.int .i64 ans) ∧ W8.drew = w') := hide ((rPut_no ((unhide PR).jat.drewN 1).ref on _ oq cap9 (sl_max (unhide PR).sl) ans hans (by rw [hans]; exact hok) false).mono fun e w' ⟨h1, h2⟩ => ⟨h1, h2.symm⟩)
                        have DN9 : Hid (Calls Tryz.prog 7 #[.pointer (some ⟨b, 0, none⟩)] W8.drew fun e w' => e = .returned (.bool false) ∧ W8.drew = w') := hide (by
                          have := Down_r ((unhide PR).jat.drewN 1).rst.dev
                          rw [unhide HSD] at this
                          exact this)
                        have S0 : Hid (W8.drew.cell? ⟨y, 0, none⟩ = some (.int .i64 on) ∧ W8.drew.cell? ⟨y, 1, none⟩ = some (.slice (some ⟨dq, 0, none⟩) oq cap9)) := hide ⟨y0, y1⟩
                        have haa : (ans == ans) = true := by simp
                        have NX : Hid (JSts w W8.drew b rb nb mb nc mc (j + 1) lb) := hide (unhide NRM 1)
                        rw [← hans] at PN
                        clear hans hok PR NRM
                        refine (unhide PN).mono ?_
                        rintro e w9 ⟨rfl, rfl⟩
                        go_upto_region 24 with fail
                        go_region_held3 (fun w' => w'.cell? ⟨y, 0, none⟩ = some (.int .i64 on) ∧ w'.cell? ⟨y, 1, none⟩ = some (.slice (some ⟨dq, 0, none⟩) oq cap9))
                          (exact unhide S0)
                          (first
                          | (go_at_call 7; refine (unhide DN9).mono ?_; rintro e w10 ⟨rfl, rfl⟩)
                          | (go_at_call 13; refine (unhide RP).mono ?_; rintro e w11 ⟨rfl, rfl⟩))
                        all_goals
                          clear y0 y1 RP DN9 S0
                          go_wp2
                          go_roundw
                          case rel => exact ⟨j + 1, lb, rfl, by go_num, by omega, NX⟩
                          case measure => simp [intOf]; omega
                · have kb1 : (kind == 1) = false := beq_eq_false_iff_ne.2 fun h => k16 (.inl h)
                  have kb6 : (kind == 6) = false := beq_eq_false_iff_ne.2 fun h => k16 (.inr h)
                  have kb2 : (kind == 2) = false := beq_eq_false_iff_ne.2 k2
                  have kb3 : (kind == 3) = false := beq_eq_false_iff_ne.2 k3
                  have kb4 : (kind == 4) = false := beq_eq_false_iff_ne.2 k4
                  have kb5 : (kind == 5) = false := beq_eq_false_iff_ne.2 k5
                  have NX : Hid (JSts w W1 b rb nb mb nc mc (j + 1) lb) := hide ⟨S, false, D, R, P1, yv, vs, [], (unhide J1).mono (by omega), unhide HFt, fun _ => rfl, fun n hn => Nat.le_trans (unhide HRM n hn) (by omega)⟩
                  clear k2 k3 k4 k5 k16 J1
                  go_wp2
                  go_roundw
                  case rel => exact ⟨j + 1, lb, rfl, by go_num, by omega, NX⟩
                  case measure => simp [intOf]; omega
    · obtain ⟨S, dn, D, R, P, yv, vs, ws, hJ, hF, hdn, hrm⟩ := unhide HS
      have RE := hide (reopened_go hJ hF (by omega) 0 29 (by omega) (by omega) none 0 0 none 0 0 [] (ints_nil w))
      have HLL : Hid (∀ K : Prop, ((¬ (j : Int) < (ns : Int)) → K) → (((j : Int) < (ns : Int) ∧ ¬ (j : Int) < 60) → K) → K) := hide (fun K h1 h2 => by
        by_cases e : (j : Int) < (ns : Int)
        · exact h2 ⟨e, fun h => hlt ⟨by omega, by omega⟩⟩
        · exact h1 e)
      clear hJ hF hdn hrm HS hlt
      refine unhide HLL _ ?_ ?_
      all_goals intro hx
      all_goals try obtain ⟨hx1, hx2⟩ := hx
      all_goals go_wp2_with fail
      all_goals
        refine (unhide RE).mono ?_
        rintro e w5 ⟨lb2, T, c, R', vs2, rfl, a1, a2, a3⟩
        have HBL := hide a1.bel
        clear a1 a2 a3 RE
        go_wp2
        go_ret
        exact ⟨rfl, unhide HBL⟩

set_option maxRecDepth 100000 in
theorem JPlays.lifted (os : Os) (started : os.Started) (H : Type) (enc : TypeId × Value → H) :
    ReturnsInHanded {} Tryz.checked os 3 .any (Rows.journalPlaysSpec.pre6 enc Tryz.prog Tryz.f3 Rows.journalPlaysRow.domain false) (Rows.journalPlaysSpec.post enc Tryz.prog Tryz.f3 false true false false) := by
  refine returnsInHanded_of_change_sized (C := Tryz.checked) own_knob started (by kernel_rfl) Tryz.func3
    (ChangeSpec.witness6 (enc := enc) (C := Tryz.checked) false ⟨#[], #[.slice none 0 0], []⟩ 8 (by kernel_rfl) (by kernel_rfl) (by kernel_rfl) (by kernel_rfl)) ?_
  intro W base args ds gs before hval0 hW hcnd hsz0 hholds
  have hval : ∀ (j : Nat) t v, Tryz.f3.params[j]? = some t → args[j]? = some v → Value.okWide Tryz.prog W .any base t v := hval0
  have hsz : (DataW.weightsEach Tryz.prog (Tryz.f3.params.toList ++ Rows.journalPlaysSpec.plain.varTypes Tryz.prog) (ds ++ gs)).all (· ≤ reachBytes) = true := hsz0
  have hW' := hW
  obtain ⟨p, q, hA0, hV, rfl, hfz, hnd⟩ := hW
  have hA : DataW.TrodAll enc Tryz.prog W 0 (fun _ => true) true Tryz.f3.params.toList args.toList ds p := hA0
  rw [Tryz.params3] at hA hval hsz
  obtain ⟨v1, d1, rfl, rfl, h1⟩ := trodAll_one hA
  obtain ⟨rfl, rfl⟩ := trodVars_none hV
  have k1 := h1
  have lt1 : ∀ x ∈ p, x.block < W.heap.size := by obtain ⟨m, hm⟩ := k1; exact DataW.trod_lt m _ _ _ hm
  obtain ⟨a1, len1, cap1, rfl⟩ := okWide_slice Tryz.underlying22 (hval 0 22 v1 rfl rfl)
  have hB : ∀ x ∈ d1.weights Tryz.prog 22, x ≤ 140737488351232 := fun x hx => by
    have := List.all_eq_true.1 hsz x (DataW.weights_mem_each (j := 0) (t := 22) rfl rfl x hx)
    have := of_decide_eq_true this
    simp only [reachBytes] at this
    omega
  obtain ⟨l, hl⟩ := open_jcalls h1 hB
  clear hA0 hval0 hsz0
  refine (JPlays.walk _ l _ W hl (Nat.le_refl _)).mono fun e W' ⟨he, bel⟩ => ?_
  subst he
  exact ⟨_, rfl, _, _, _, [], _, [], hW', trodAll_mk1 (shut_bool Tryz.underlying4 _), trodAll_mk1 (Below.trod laid_out (by kernel_rfl) (of_decide_eq_true (by kernel_rfl)) k1 bel lt1), rfl, bel.frame _, fun h => by cases h⟩

theorem journalPlays_holds : Rows.JournalPlaysSaid :=
  OpenClaim.holds_of_wide 3 Tryz.f3 rfl rfl rfl rfl rfl rfl rfl ⟨rfl, rfl, rfl, rfl, rfl⟩ rfl rfl rfl rfl rfl (by kernel_rfl) Tryz.func3 (by kernel_rfl)
    (of_decide_eq_true (by kernel_rfl)) (by unfold Func.isWrapper; first | (rw [if_pos (by decide +kernel)]; kernel_rfl) | (rw [if_neg (by decide +kernel)]; exact ⟨rfl, rfl⟩))
    (fun os started H enc _ => JPlays.lifted os started H enc)
#print axioms journalPlays_holds
end Go.Proofs.YtfnhhjpebilacaaGreat
