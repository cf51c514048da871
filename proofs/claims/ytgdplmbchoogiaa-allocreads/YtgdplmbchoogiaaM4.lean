/-
  DERIVED. The document's Read.
-/
import Derived.Test.YtgdplmbchoogiaaM3
import Derived.Test.YtgdplmbchoogiaaM2
import Derived.Deep.RegionWith
import Derived.Deep.RegionLaw
import Derived.Test.YtgdplmbchoogiaaRows
import Derived.OpenShut
import Derived.ShutString
import Derived.SizedLaws
import Derived.Deep.Slices
import Derived.Deep.Lists
namespace Go.Proofs.Ytgdplmbchoogiaa
open Go.RowKit
set_option linter.unusedVariables false

def RReadPost (w : World) (l : List UInt8) (e : Ending) (w' : World) : Prop :=
  w.grownBy w' none ∧ ((¬ okR l ∧ e = .returned (.tuple #[.pointer none, .int .i64 52])) ∨ (okR l ∧ ∃ b v1 v2, e = .returned (.tuple #[.pointer (some ⟨b, 0, none⟩), .int .i64 0]) ∧ RmAt w' w.heap.size b (rd l).1 v1 v2 (rdU l) (rdU l)))
theorem RmAt.low {w : World} {N N' b B : Nat} {v1 v2 : Value} {U V : Nat → Bool} (h : RmAt w N b B v1 v2 U V) (hN : N' ≤ N) : RmAt w N' b B v1 v2 U V := ⟨h.blk, h.now.low hN, h.last.low hN, h.le, Nat.le_trans hN h.base, h.apart⟩
theorem half_step (c j : Nat) : c / 2 ^ j / 2 = c / 2 ^ (j + 1) := by rw [Nat.div_div_eq_div_mul, Nat.pow_succ]
theorem odd_bit (l : List UInt8) (i : Nat) (c : UInt8) (hi : i / 8 < l.length) (hc : c = l[i / 8]) (y : Nat) (hy : y = c.toNat / 2 ^ (i % 8)) : (((y : Int) % 2) == 1) = bitR l i := by
  unfold bitR
  rw [List.getD_eq_getElem?_getD, List.getElem?_eq_getElem hi, ← hc, hy]
  simp only [Option.getD_some]
  by_cases e : c.toNat / 2 ^ (i % 8) % 2 = 1
  · rw [decide_eq_true e]; exact beq_iff_eq.2 (by omega)
  · rw [decide_eq_false e]; exact beq_eq_false_iff_ne.2 (by omega)

set_option maxHeartbeats 8000000 in
set_option maxRecDepth 20000 in
theorem rRead_any (w : World) (v : Value) (l : List UInt8) (hv : Sl w v l) (hl : l.length ≤ 140737488351232) : Calls Try.prog 21 #[v] w (RReadPost w l) := by
  have hrf := rd_facts l
  have HV := hide hv
  by_cases hok : (rd l).2.2 = 0 ∧ (rd l).1 ≤ 512
  · obtain ⟨hE, hN⟩ := hok
    have hk := hrf.2.2.2 hE
    rcases hv.cases with ⟨hl0, _⟩ | ⟨vb, off, cap, hve, h1, h2, hb, hc⟩
    · rw [hl0] at hk; simp at hk; omega
    have hU : ∃ U, U = rdU l := ⟨_, rfl⟩
    obtain ⟨U, hU⟩ := hU
    have HF : Hid (fillU (l.drop (rd l).2.1) (min (rd l).1 (8 * (l.drop (rd l).2.1).length)) = U) := hide hU.symm
    have HOk : Hid (okR l ↔ tell (rd l).1 U = l) := hide ⟨fun h => by rw [hU]; exact h.2.2, fun h => ⟨hE, hN, by rw [← hU]; exact h⟩⟩
    have HPost : Hid (∀ e w', (w.grownBy w' none ∧ ((¬ tell (rd l).1 U = l ∧ e = .returned (.tuple #[.pointer none, .int .i64 52])) ∨ (tell (rd l).1 U = l ∧ ∃ b v1 v2, e = .returned (.tuple #[.pointer (some ⟨b, 0, none⟩), .int .i64 0]) ∧ RmAt w' w.heap.size b (rd l).1 v1 v2 U U))) → RReadPost w l e w') := hide (fun e w' h => by
      obtain ⟨h1, h2⟩ := h
      refine ⟨h1, ?_⟩
      rcases h2 with ⟨h2, h3⟩ | ⟨h2, b, v1, v2, h3, h4⟩
      · exact .inl ⟨fun h => h2 ((unhide HOk).1 h), h3⟩
      · exact .inr ⟨(unhide HOk).2 h2, b, v1, v2, h3, by rw [← hU]; exact h4⟩)
    refine Calls.mono ?_ (fun e w' h => unhide HPost e w' h)
    have RU := hide (rUint_any v l w hv)
    rw [hE] at RU
    obtain ⟨B, hB⟩ : ∃ B, B = (rd l).1 := ⟨_, rfl⟩
    obtain ⟨k, hkk⟩ : ∃ k, k = (rd l).2.1 := ⟨_, rfl⟩
    rw [← hB, ← hkk] at RU
    rw [← hB]
    rw [← hB] at hN HF
    rw [← hkk] at HF hk
    obtain ⟨n, hn⟩ : ∃ n, n = l.length := ⟨_, rfl⟩
    rw [← hn] at hk hve h1
    have hk1 := hk.1
    have hk2 := hk.2.1
    have hk10 : (k : Int) ≤ 10 := by omega
    have hnI : (n : Int) ≤ 140737488351232 := by omega
    have hBI : (B : Int) ≤ 512 := by omega
    have HNn := hide hn
    obtain ⟨d, hd⟩ : ∃ d, d = l.drop k := ⟨_, rfl⟩
    have HDl : Hid (d.length = n - k) := hide (by rw [hd, List.length_drop, hn])
    have HDd := hide hd
    rw [← hd] at HF
    obtain ⟨m, hm⟩ : ∃ m, m = min B (8 * d.length) := ⟨_, rfl⟩
    have Hm := hide hm
    rw [← hm] at HF
    have hmB : m ≤ B := by omega
    have hmn : m ≤ 8 * (n - k) := by have := unhide HDl; omega
    have hmx : m = B ∨ m = 8 * (n - k) := by have := unhide HDl; omega
    have HMx := hide hmx
    have HMn := hide hmn
    subst hve
    clear hc hb HOk HPost hU hB hkk hn hrf hE hk hd hm hmn hmx h1 h2
    go_enter Try.func21, Try.ntmps21
    go_wp2_with fail
    refine (unhide RU).mono ?_
    rintro e w1 ⟨rfl, b1⟩
    have G1 := hide (grown_of_below b1)
    clear b1
    go_wp2_with fail
    refine (rNew_any B w1 hN).mono ?_
    rintro e w2 ⟨b, v1, v2, rfl, m2, g2⟩
    have M2 := hide (m2.low (unhide G1).size)
    have G2 : Hid (w.grownBy w2 none) := hide ((unhide G1).trans g2)
    clear m2 g2 G1
    go_wp2
    go_loopw [8] (fun i wr => ∃ j : Nat, i = .int .i64 (j : Int) ∧ j ≤ m ∧ Hid (RmAt wr w.heap.size b B v1 v2 (fillU d j) none?) ∧ Hid (w.grownBy wr none)) (fun i _ => m - (intOf i).toNat)
    case atStart => exact ⟨0, rfl, by omega, by rw [fillU_zero]; exact M2, G2⟩
    case round =>
      obtain ⟨j, rfl, hj, HR, HG⟩ := hrel
      clear M2 G2
      by_cases hlt : j < m
      · have hmn := unhide HMn
        have hlt1 : (j : Int) < (B : Int) := by omega
        have hlt2 : (k : Int) + (j : Int) / 8 < (n : Int) := by omega
        have hq0 : (0 : Int) ≤ (k : Int) + (j : Int) / 8 := by omega
        have hj5 : (j : Int) < 512 := by omega
        have hqd : j / 8 < d.length := by have := unhide HDl; omega
        have HQd := hide hqd
        obtain ⟨ao', cap', e, _, _, h4⟩ := (unhide HV).grownN (unhide HG)
        injection e with e1 e2 e3
        clear e2 e3
        subst e1
        obtain ⟨vb', off', e, hvb, hc⟩ := h4 (by have := unhide HNn; omega)
        injection e with e
        injection e with e1 e2 e3
        subst e1 e2
        have cB := hc (k + j / 8) (by have := unhide HNn; omega)
        obtain ⟨c, hcc⟩ : ∃ c, c = l[k + j / 8]'(by have := unhide HNn; omega) := ⟨_, rfl⟩
        rw [← hcc] at cB
        have HCC : Hid (c = d[j / 8]'hqd) := hide (by
          have hd := unhide HDd
          subst hd
          rw [List.getElem_drop]
          exact hcc)
        have hcl : c.toNat < 256 := c.toNat_lt
        obtain ⟨g1, cp1, hv1, _, _, hf1⟩ := (unhide HR).now.form
        obtain ⟨g, hg1, hgN, hgl, hgz, hgc⟩ := hf1 (by omega)
        subst hg1
        have r0 := (unhide HR).c0
        rw [hv1] at r0
        have cN := hgc j (by omega)
        have cF := hgz j
        have HS0 : Hid (RmAt wr w.heap.size b B (.slice (some ⟨g, 0, none⟩) B cp1) v2 (fillU d j) none?) := hide (by rw [← hv1]; exact unhide HR)
        have HV1 := hide hv1
        have HgN := hide hgN
        clear hc h4 hcc hf1 hgc hgz hv1 hgN hmn
        have HR2 : Hid (RmAt (wr.setCell ⟨g, j, none⟩ (.bool (bitR d j))) w.heap.size b B v1 v2 (fillU d (j + 1)) none?) := hide (by
          have h := (unhide HS0).setNow j (bitR d j)
          rw [fillU_step] at h
          rw [unhide HV1]
          exact h)
        have HG2 : Hid (w.grownBy (wr.setCell ⟨g, j, none⟩ (.bool (bitR d j))) none) := hide (own_stepW (unhide HG) (unhide HgN) (setCell_grown wr g j _))
        clear HS0 HV1 HgN
        go_wp2
        go_loop [9, 10] (fun x i => ∃ t y : Nat, i = .int .i64 (t : Int) ∧ t ≤ j % 8 ∧ x = .int .i64 (y : Int) ∧ y < 256 ∧ Hid (y = c.toNat / 2 ^ t)) (fun _ i => j % 8 - (intOf i).toNat)
        case atStart => exact ⟨0, c.toNat, rfl, by omega, rfl, hcl, hide (by simp)⟩
        case round =>
          obtain ⟨t, y, rfl, ht, rfl, hy, HY⟩ := hrel
          by_cases htl : t < j % 8
          · have htl' : (t : Int) < (j : Int) % 8 := by omega
            have HY2 : Hid (y / 2 = c.toNat / 2 ^ (t + 1)) := hide (by rw [unhide HY]; exact half_step _ _)
            go_wp2
            go_round
            case rel => exact ⟨t + 1, y / 2, by go_num, by omega, by go_num, by omega, HY2⟩
            case measure => simp [intOf]; omega
          · have htl' : ¬ (t : Int) < (j : Int) % 8 := by omega
            have hte : t = j % 8 := by omega
            rw [hte] at HY
            have hbit : ((y : Int) % 2 == 1) = bitR d j := odd_bit d j c (unhide HQd) (unhide HCC) y (unhide HY)
            clear hte htl ht
            go_wp2
            go_roundw
            case rel => exact ⟨j + 1, by go_num, by omega, HR2, HG2⟩
            case measure => simp [intOf]; omega
      · have hmx := unhide HMx
        have hjm : j = m := by omega
        rw [hjm, unhide HF] at HR
        have HLL : Hid (∀ K : Prop, ((¬ (j : Int) < (B : Int)) → K) → (((j : Int) < (B : Int) ∧ ¬ (k : Int) + (j : Int) / 8 < (n : Int)) → K) → K) := hide (fun K h1 h2 => by
          by_cases e : (j : Int) < (B : Int)
          · exact h2 ⟨e, by omega⟩
          · exact h1 e)
        have MD := hide ((unhide HR).grown (show wr.grownBy wr.drew none from ⟨rfl, rfl, rfl, Nat.le_refl _, fun _ _ _ => rfl⟩))
        have GD : Hid (w.grownBy wr.drew none) := hide ⟨(unhide HG).os, (unhide HG).tape, (unhide HG).output, (unhide HG).size, (unhide HG).block⟩
        have s0 := str_of ((unhide HV).grownN (unhide GD))
        clear hmx hjm hlt hj
        by_cases heq0 : tell B U = l
        · have HQ := hide heq0
          obtain ⟨T, hT⟩ : ∃ T, T = tell B U := ⟨_, rfl⟩
          have RB : Hid (Calls Try.prog 32 #[.pointer (some ⟨b, 0, none⟩)] wr.drew fun e w' => ∃ v, e = .returned v ∧ Own w' wr.drew.heap.size v T ∧ wr.drew.grownBy w' none) := hide (by rw [hT]; exact rBytes_any wr.drew w.heap.size b B v1 v2 U none? (unhide MD))
          rw [← hT] at heq0
          have hbq : (T == l) = true := beq_iff_eq.2 heq0
          clear heq0 hT
          refine unhide HLL _ ?_ ?_
          all_goals intro hx
          all_goals try obtain ⟨hx1, hx2⟩ := hx
          all_goals
            go_upto_region 14 with fail
            go_region_law (first | (go_simp; go_wp2_with (first
              | (go_at_call 32; refine (unhide RB).mono ?_; rintro e w7 ⟨v7, rfl, o7, g7⟩; have s7 := str_of (Own.sl o7); have G7 : Hid (w.grownBy w7 none) := hide ((unhide GD).trans g7); have M7 := hide ((unhide MD).grown g7); have s77 := str_of ((unhide HV).grownN (unhide G7)); clear o7 g7)
              | fail)))
            all_goals
              clear s0 RB MD GD HR HG
              go_wp2_with fail
              refine (rCommit_any w7 w.heap.size b B v1 v2 U none? (unhide M7) (unhide G7).size).mono ?_
              rintro e w8 ⟨⟨y, rfl⟩, v3, m8, g8⟩
              have M8 := hide m8
              have G8 : Hid (w.grownBy w8 none) := hide (own_stepW (unhide G7) (unhide M7).base g8)
              clear m8 g8
              go_wp2
              go_ret2
              exact ⟨unhide G8, .inr ⟨unhide HQ, b, v1, v3, rfl, unhide M8⟩⟩
        · have HQ := hide heq0
          obtain ⟨T, hT⟩ : ∃ T, T = tell B U := ⟨_, rfl⟩
          have RB : Hid (Calls Try.prog 32 #[.pointer (some ⟨b, 0, none⟩)] wr.drew fun e w' => ∃ v, e = .returned v ∧ Own w' wr.drew.heap.size v T ∧ wr.drew.grownBy w' none) := hide (by rw [hT]; exact rBytes_any wr.drew w.heap.size b B v1 v2 U none? (unhide MD))
          rw [← hT] at heq0
          have hbq : (T == l) = false := beq_eq_false_iff_ne.2 heq0
          clear heq0 hT
          refine unhide HLL _ ?_ ?_
          all_goals intro hx
          all_goals try obtain ⟨hx1, hx2⟩ := hx
          all_goals
            go_upto_region 14 with fail
            go_region_law (first | (go_simp; go_wp2_with (first
              | (go_at_call 32; refine (unhide RB).mono ?_; rintro e w7 ⟨v7, rfl, o7, g7⟩; have s7 := str_of (Own.sl o7); have G7 : Hid (w.grownBy w7 none) := hide ((unhide GD).trans g7); have M7 := hide ((unhide MD).grown g7); have s77 := str_of ((unhide HV).grownN (unhide G7)); clear o7 g7)
              | fail)))
            all_goals go_wp2
            all_goals go_ret2
            all_goals exact ⟨unhide G7, .inl ⟨unhide HQ, rfl⟩⟩
  · have HNo : Hid (¬ okR l) := hide (fun h => hok ⟨h.1, h.2.1⟩)
    have RU := hide (rUint_any v l w hv)
    have hb1 := hrf.1
    obtain ⟨B, hB⟩ : ∃ B, B = (rd l).1 := ⟨_, rfl⟩
    obtain ⟨k, hkk⟩ : ∃ k, k = (rd l).2.1 := ⟨_, rfl⟩
    obtain ⟨E, hE⟩ : ∃ E, E = (rd l).2.2 := ⟨_, rfl⟩
    rw [← hB, ← hkk, ← hE] at RU
    rw [← hB, ← hE] at hok
    rw [← hB] at hb1
    clear hv hrf hB hkk hE
    by_cases hE : E = 0
    · subst hE
      have hBn : ¬ B ≤ 512 := fun h => hok ⟨rfl, h⟩
      have hBI : (512 : Int) < (B : Int) := by omega
      clear hok hBn
      go_enter Try.func21, Try.ntmps21
      go_wp2_with fail
      refine (unhide RU).mono ?_
      rintro e w1 ⟨rfl, b1⟩
      have G1 := hide (grown_of_below b1)
      clear b1
      go_wp2
      go_ret2
      exact ⟨unhide G1, .inl ⟨unhide HNo, rfl⟩⟩
    · have hEI : ((E : Int) == 0) = false := beq_eq_false_iff_ne.2 (by omega)
      have hEn : ¬ (E : Int) = 0 := by omega
      clear hok hE
      go_enter Try.func21, Try.ntmps21
      go_wp2_with fail
      refine (unhide RU).mono ?_
      rintro e w1 ⟨rfl, b1⟩
      have G1 := hide (grown_of_below b1)
      clear b1
      go_wp2
      go_ret2
      exact ⟨unhide G1, .inl ⟨unhide HNo, rfl⟩⟩

end Go.Proofs.Ytgdplmbchoogiaa

/-
  DERIVED. Take.
-/
namespace Go.Proofs.Ytgdplmbchoogiaa
open Go.RowKit Go.Shelf
set_option linter.unusedVariables false
attribute [local go_sem] Oper.semAt_some

/-- A statement that is left at its end alone. -/
def onlyN (Q : Exit → Act → World → Prop) : Exit → Act → World → Prop
  | .normal, a, w => Q .normal a w
  | _, _, _ => False
theorem wp_onlyN {n : Nat} {P : Program} {c : Code} {Q : Exit → Act → World → Prop} {a : Act} {w : World} (h : c.wp P (onlyN Q) a w) : c.wpIn Fence.wide n P Q a w :=
  wpIn_mono (wpIn_wide.2 h) fun e a w h => by cases e <;> first | exact h | exact h.elim

set_option maxRecDepth 100000 in
set_option maxHeartbeats 2000000 in
theorem Take_ok (w : World) (b B n : Nat) (U V : Nat → Bool) (h : MapAt w b B U V) (hn : n ≤ total (runsOf B U V)) :
    Calls Try.prog 8 #[.pointer (some ⟨b, 0, none⟩), .int .i64 (n : Int)] w fun e w' => ∃ v, e = .returned (.tuple #[v, .int .i64 0]) ∧ ROwn w' w.heap.size v (cut n (runsOf B U V)) ∧ MapAt w' b B (marks U (cut n (runsOf B U V))) V ∧ w.grownBy w' (some b) := by
  have hB := h.le
  have htot := runsOf_total B U V
  have hn' : (n : Int) ≤ 512 := by omega
  have hn0 : ¬ (n : Int) < 0 := by omega
  refine (callsIn_wide (n := 3)).1 ?_
  refine callsIn_of_wp_marks Try.func8 rfl trivial ?_ rfl
  simp only [Try.ntmps8, List.size_toArray, List.length_cons, List.length_nil, Nat.reduceAdd, Nat.reduceSub, Array.replicate_succ, Array.replicate_zero, List.push_toArray, List.append_toArray, List.nil_append, List.cons_append]
  have HM := hide h
  clear h
  gi_wp2_with fail
  have bM := Boxed.new w 24 (.pointer (some ⟨b, 0, none⟩))
  have bN := Boxed.new (w.alloc (.cells #[.pointer (some ⟨b, 0, none⟩)] 24)) 3 (.int .i64 (n : Int))
  rw [World.size_alloc] at bN
  obtain ⟨W1, hW1⟩ : ∃ W1, W1 = (w.alloc (.cells #[.pointer (some ⟨b, 0, none⟩)] 24)).alloc (.cells #[.int .i64 (n : Int)] 3) := ⟨_, rfl⟩
  have hg1 : w.grownBy W1 none := by rw [hW1]; exact (World.grownBy_alloc _ _ _).trans (World.grownBy_alloc _ _ _)
  have hs1 : W1.heap.size = w.heap.size + 2 := by rw [hW1]; simp
  have bM1 : Boxed W1 w.heap.size 24 (.pointer (some ⟨b, 0, none⟩)) := by rw [hW1]; exact bM.alloc _
  have HM1 := hide ((unhide HM).grown hg1 (by simp))
  rw [← hW1] at bN ⊢
  clear hW1 bM
  have cM := bM1.cell
  have cN := bN.cell
  have HbM := hide bM1
  have HbN := hide bN
  have HG1 := hide hg1
  have HS1 := hide hs1
  clear bM1 bN hg1 hs1
  refine wp_onlyN ?_
  have hgt : decide ((total (runsOf B U V) : Int) < (n : Int)) = false := decide_eq_false (by omega)
  go_region_with (go_at_call 22; refine (Free_any _ b B U V ((unhide HM1).drewN _)).mono ?_; rintro e w2 ⟨rfl, hg2⟩; have c2 : w2.cell? ⟨w.heap.size + 1, 0, none⟩ = some (.int .i64 (n : Int)) := hg2.cell cN (by simp); have c3 : (w2.alloc (.cells #[.slice none 0 0] 28)).cell? ⟨w.heap.size, 0, none⟩ = some (.pointer (some ⟨b, 0, none⟩)) := (World.grownBy_alloc _ _ none).cell (hg2.cell cM (by simp)) (by simp); have HG2 := hide hg2; clear hg2)
  all_goals simp only [onlyN]
  all_goals gi_wp2_with fail
  all_goals refine ⟨trivial, (callsIn_wide.2 (All_any _ _)).mono ?_⟩
  all_goals rintro e w' ⟨rfl, rfl⟩
  all_goals gi_wp2
  all_goals
    have hgw2 : w.grownBy w2 none := (unhide HG1).trans ⟨(unhide HG2).os, (unhide HG2).tape, (unhide HG2).output, (unhide HG2).size, (unhide HG2).block⟩
    have hs2 : w.heap.size + 2 ≤ w2.heap.size := by have := (unhide HG2).size; have := unhide HS1; simp at *; omega
    have HbM2 : Boxed w2 w.heap.size 24 (.pointer (some ⟨b, 0, none⟩)) := ((unhide HG2).block _ (by have := unhide HS1; simp; omega) (by simp)).trans (unhide HbM)
    have HbN2 : Boxed w2 (w.heap.size + 1) 3 (.int .i64 (n : Int)) := ((unhide HG2).block _ (by have := unhide HS1; simp; omega) (by simp)).trans (unhide HbN)
    obtain ⟨Wl, hWl⟩ : ∃ Wl, Wl = (w2.alloc (.cells #[.slice none 0 0] 28)).alloc (.cells #[.pointer (some ⟨b, 0, none⟩)] 24) := ⟨_, rfl⟩
    have hgl : w2.grownBy Wl none := by rw [hWl]; exact (World.grownBy_alloc _ _ _).trans (World.grownBy_alloc _ _ _)
    have hsl : Wl.heap.size = w2.heap.size + 2 := by rw [hWl]; simp
    have bT : Boxed Wl w2.heap.size 28 (.slice none 0 0) := by rw [hWl]; exact (Boxed.new w2 28 _).alloc _
    have bA : Boxed Wl (w2.heap.size + 1) 24 (.pointer (some ⟨b, 0, none⟩)) := by
      rw [hWl]
      have := Boxed.new (w2.alloc (.cells #[.slice none 0 0] 28)) 24 (.pointer (some ⟨b, 0, none⟩))
      rwa [World.size_alloc] at this
    have hbw := (unhide HM).lt
    have hml : MapAt Wl b B U V := (unhide HM).grown (hgw2.trans hgl) (by simp)
    have bNl : Boxed Wl (w.heap.size + 1) 3 (.int .i64 (n : Int)) := HbN2.kept hgl (by simp)
    have bMl : Boxed Wl w.heap.size 24 (.pointer (some ⟨b, 0, none⟩)) := HbM2.kept hgl (by simp)
    rw [← hWl]
    obtain ⟨tb, htb⟩ : ∃ tb, tb = w2.heap.size := ⟨_, rfl⟩
    rw [← htb] at hs2 hsl bT bA ⊢
    have hgwl : w.grownBy Wl none := hgw2.trans hgl
    have hcut0 : cut n [] = [] := rfl
    have hst0 : TSt w b B n w.heap.size (w.heap.size + 1) tb U V [] Wl := ⟨by rw [hcut0]; exact hml, by simpa [total] using bNl, bMl, ⟨_, bT, by rw [hcut0]; exact World.ownsRow_nil _ _ _ _⟩, hgwl.but _, by omega⟩
    clear hgw2 HbM2 HbN2 hWl htb hgl HG1 HG2 HbM HbN HS1 HM1 c2 c3 cM cN bNl bMl
    refine range_boxed (n := 3) (gf := 40) (lb := #[.pointer (some ⟨tb + 1, 0, none⟩)]) rfl (enters_of Try.func40 (by kernel_rfl) rfl)
      (AllIt_stops 2 b B (tb + 1) tb (tb + 1) U V Wl bA.cell bA.lt hml (by omega) (by omega) (fun j => by rintro ⟨len, cap, e⟩; rw [bT.cell] at e; cases e)) (fun _ => rfl)
      (fun pre => TSt w b B n w.heap.size (w.heap.size + 1) tb U V (pre.map cl))
      (fun c pre W => (c = .exit 1 ∧ n ≤ total (pre.map cl)) ∧ TSt w b B n w.heap.size (w.heap.size + 1) tb U V (pre.map cl) W)
      (fun x W0 a' W => (RBox W W0.heap.size (cl x) ∧ (∀ (j : Nat) (C : Array Value) (t : TypeId) (fr : Nat × Nat), W0.heap[j]? = some (Obj.cells C t fr) → W.heap[j]? = W0.heap[j]?)) ∧ (∃ pre, TSt w b B n w.heap.size (w.heap.size + 1) tb U V pre W0) ∧ a' = { tmps := #[.pointer (some ⟨b, 0, none⟩), .int .i64 (n : Int), .pointer (some ⟨w.heap.size, 0, none⟩), .pointer (some ⟨w.heap.size + 1, 0, none⟩), .slice none 0 0, .int .i64 0, .pointer (some ⟨tb, 0, none⟩), .pointer (some ⟨W0.heap.size, 0, none⟩), .bool false, .pointer (some ⟨b, 0, none⟩), .bool false, .bool false, .int .i64 (n : Int), .bool false, .bool false, .bool false, .int .i64 (n : Int), .pointer (some ⟨b, 0, none⟩), .int .i64 (total (runsOf B U V) : Int), .bool false, .pointer (some ⟨b, 0, none⟩), .func (.func 40) #[] #[.pointer (some ⟨tb + 1, 0, none⟩)], rv (cl x), undef, undef, undef, undef, undef, undef, undef, undef, undef, undef, undef, undef, undef, undef, undef, undef, undef, undef, undef], defers := [] })
      (TSt.own w b B n _ _ tb U V _ (by have := hgwl.size; omega))
      (fun c => OwnFrom.and (ownFrom_pure _ _) (TSt.own w b B n _ _ tb U V _ (by have := hgwl.size; omega)))
      (fun x W0 a' s A A' row hs hg hr => by
        obtain ⟨⟨h1, h2⟩, h3⟩ := hs
        have kc : ∀ (j : Nat) (C : Array Value) (t : TypeId) (fr : Nat × Nat), A.heap[j]? = some (Obj.cells C t fr) → A'.heap[j]? = A.heap[j]? := fun j C t fr hj => hg.block j (lt_of_block hj) (fun e => by
          obtain ⟨_, o, ho, hc⟩ := hr j e.symm
          rw [hj] at ho
          cases ho
          cases hc)
        exact ⟨⟨(kc _ _ _ _ h1).trans h1, fun j C t fr hj => (kc j C t fr ((h2 j C t fr hj).trans hj)).trans (h2 j C t fr hj)⟩, h3⟩)
      (fun W0 W l o o' hl ho hc hk => Kp.turn (N := Wl.heap.size) (by omega) W l o o' hl ho hc hk)
      hst0 ?assign ?body ?done ?stop
    case assign =>
      rintro l pre x W K hst hK
      have HK := hide hK
      have HS := hide hst
      have hx := cl_in x
      obtain ⟨y, hy⟩ : ∃ y, y = cl x := ⟨_, rfl⟩
      rw [← hy] at hx HK ⊢
      obtain ⟨y1, y2⟩ := y
      unfold rv at HK ⊢
      simp only at hx HK ⊢
      clear hy hK hst
      gi_wp2
      refine unhide HK _ _ ((KeepsOthers.alloc _ _).from _) ((TSt.own w b B n _ _ tb U V (w.heap.size) (Nat.le_refl _)).alloc (s := pre) _ (unhide HS)) ⟨⟨heap_alloc_new _ _, fun j C t fr hj => Below.heap_alloc _ _ _ (lt_of_block hj)⟩, ⟨_, unhide HS⟩, rfl⟩
    case body =>
      rintro l pre x W0 a' W hst ⟨⟨hbx, hkc⟩, ⟨pre0, hst0'⟩, rfl⟩ hlt
      have hlen := runs_len B U V hB
      have hyin := cl_in x
      obtain ⟨y, hy⟩ : ∃ y, y = cl x := ⟨_, rfl⟩
      obtain ⟨xs, hxs⟩ : ∃ xs, xs = pre.map cl := ⟨_, rfl⟩
      have hxl : xs.length = pre.length := by rw [hxs]; simp
      have hmap : (pre ++ [x]).map cl = xs ++ [y] := by rw [hxs, hy]; simp
      have HMp := hide hmap
      rw [← hy] at hyin hbx ⊢
      rw [← hxs] at hst
      clear hy hxs hmap
      by_cases hful : total xs < n
      · obtain ⟨v, hv1, hv2⟩ := hst.got
        obtain ⟨v0, hv01, hv02⟩ := hst0'.got
        obtain rfl : v0 = v := by
          have h1 := (hkc _ _ _ _ hv01).trans hv01
          have h2 := h1.symm.trans (show W.heap[tb]? = _ from hv1)
          simpa using h2
        have R : TRd w b B n w.heap.size (w.heap.size + 1) tb U V xs y v0 W0 W := ⟨hst, hbx, hkc, hv01, by omega, by omega, by omega, hv1, hv2, fun g hg => by obtain ⟨_, cur, hq⟩ := hv02.row hg; exact lt_of_block hq, hst0'.size, hful, hyin, by omega, by omega, hbw⟩
        have hzin := tz_in R
        have cN := hst.num.cell
        have c0 := hbx.c0
        have c1 := hbx.c1
        have cf := hbx.frozen 1
        have cM := hst.ptr.cell
        have hr1 : ((n - total xs : Nat) : Int) ≤ 512 := by omega
        have hr0 : ((n - total xs : Nat) : Int) ≠ 0 := by omega
        have hy2 : (y.2 : Int) ≤ 512 := by omega
        by_cases hmin : y.2 ≤ n - total xs
        · have ez : tz n xs y = (y.1, y.2) := by simp only [tz]; rw [Nat.min_eq_left hmin]
          have hmi : (y.2 : Int) ≤ ((n - total xs : Nat) : Int) := by omega
          gi_wp2_with fail
          refine ⟨trivial, (CallsIn.inRound l (callsIn_wide.2 (use_any _ b B (y.1, y.2) (marks U (cut n xs)) V (by have := R.set; rw [ez] at this; exact this) (by simp only; omega)))).mono ?_⟩
          rintro e Wu ⟨⟨ve, rfl⟩, hm, hg⟩
          have HU : TUse b B n U V xs y W0 W Wu := ⟨by rw [ez]; exact hm, by rw [ez]; exact hg⟩
          have rb := HU.box R
          rw [ez] at rb
          have d0 := rb.c0
          have d1 := rb.c1
          have tvc := (HU.tv R).cell
          have HO := hide (HU.to R)
          clear hm hg
          have hcl := cut_len xs n
          have HB : Hid (w.heap.size ≤ (Wu.alloc (.cells #[.int .i64 (y.1 : Int), .int .i64 ((y.2 : Nat) : Int)] 36)).heap.size) := hide (by have := R.tlt; have := HU.size R; simp; omega)
          have HL : Hid ((cut n xs).length ≤ 512) := hide (by omega)
          have HC : Hid (∀ j u, ([.int .i64 (y.1 : Int), .int .i64 ((y.2 : Nat) : Int)] : List Value)[j]? = some u → (Wu.alloc (.cells #[.int .i64 (y.1 : Int), .int .i64 ((y.2 : Nat) : Int)] 36)).cell? ((⟨Wu.heap.size, 0, none⟩ : Addr).add j) = some u) := hide (fun j u hj => by
            rw [addr_add, cell_of_row _ _ _ _ _ _ (heap_alloc_new _ _)]
            simpa using hj)
          gi_wp2_with (gi_at_builtin; refine wpListIn_append_run rfl (.tmp 33) (.tmp 35) rfl w.heap.size v0 (cut n xs) rfl (World.ownsRow.alloc (unhide HO) _) (unhide HB) (unhide HL) ⟨Wu.heap.size, 0, none⟩ 1 (y.1, y.2) rfl (unhide HC) ?_; intro v' X ho hgr hbk; have HA : TApp w n xs y v0 v' Wu X := ⟨by rw [ez]; exact ho, by rw [ez]; exact hgr, hbk.imp id (fun ⟨g, h1, h2⟩ => ⟨g, h1, by simp at h2; omega⟩)⟩; obtain ⟨g', cap', rfl⟩ := ownsRow_succ (k := (cut n xs).length) (show X.ownsRow w.heap.size 36 2 v' ((cut n xs).length + 1) _ by have := ho; unfold ROwn at this; rw [List.length_append] at this; exact this); have bt := HA.tv R HU; have bn := HA.num R HU; have hnt : w.heap.size + 1 ≠ tb := box_ne bn bt (by decide); have e1 := bt.cell; have e2 := bt.frozen; have bn' := bn.other hnt (.slice (some ⟨g', 0, none⟩) ((cut n xs).length + 1) cap'); have e3 := bn'.cell; have e4 := bn'.frozen; have rx := HA.box R HU; rw [ez] at rx; have hrt : W0.heap.size ≠ tb := (by have := R.tlt; omega); have rx' : RBox (X.setCell ⟨tb, 0, none⟩ (.slice (some ⟨g', 0, none⟩) ((cut n xs).length + 1) cap')) W0.heap.size (y.1, y.2) := (Below.heap_setCell _ _ _ _ hrt).trans rx; have e5 := rx'.c1; have T := take_round R HU HA (tb + 2) (by omega); simp only [ez] at T; (try rw [Int.sub_self] at T); have HT := hide T; clear T HA ho hgr hbk)
          exact ⟨⟨(unhide HT).2.1, (unhide HT).2.2⟩, by show TSt w b B n w.heap.size (w.heap.size + 1) tb U V ((pre ++ [x]).map cl) _; rw [unhide HMp]; exact (unhide HT).1⟩
        · have ez : tz n xs y = (y.1, n - total xs) := by simp only [tz]; rw [Nat.min_eq_right (by omega)]
          have hmi : ¬ (y.2 : Int) ≤ ((n - total xs : Nat) : Int) := by omega
          gi_wp2_with fail
          refine ⟨trivial, (CallsIn.inRound l (callsIn_wide.2 (use_any _ b B (y.1, n - total xs) (marks U (cut n xs)) V (by have := R.set; rw [ez] at this; exact this) (by simp only; omega)))).mono ?_⟩
          rintro e Wu ⟨⟨ve, rfl⟩, hm, hg⟩
          have HU : TUse b B n U V xs y W0 W Wu := ⟨by rw [ez]; exact hm, by rw [ez]; exact hg⟩
          have rb := HU.box R
          rw [ez] at rb
          have d0 := rb.c0
          have d1 := rb.c1
          have tvc := (HU.tv R).cell
          have HO := hide (HU.to R)
          clear hm hg
          have hcl := cut_len xs n
          have HB : Hid (w.heap.size ≤ (Wu.alloc (.cells #[.int .i64 (y.1 : Int), .int .i64 ((n - total xs : Nat) : Int)] 36)).heap.size) := hide (by have := R.tlt; have := HU.size R; simp; omega)
          have HL : Hid ((cut n xs).length ≤ 512) := hide (by omega)
          have HC : Hid (∀ j u, ([.int .i64 (y.1 : Int), .int .i64 ((n - total xs : Nat) : Int)] : List Value)[j]? = some u → (Wu.alloc (.cells #[.int .i64 (y.1 : Int), .int .i64 ((n - total xs : Nat) : Int)] 36)).cell? ((⟨Wu.heap.size, 0, none⟩ : Addr).add j) = some u) := hide (fun j u hj => by
            rw [addr_add, cell_of_row _ _ _ _ _ _ (heap_alloc_new _ _)]
            simpa using hj)
          gi_wp2_with (gi_at_builtin; refine wpListIn_append_run rfl (.tmp 33) (.tmp 35) rfl w.heap.size v0 (cut n xs) rfl (World.ownsRow.alloc (unhide HO) _) (unhide HB) (unhide HL) ⟨Wu.heap.size, 0, none⟩ 1 (y.1, n - total xs) rfl (unhide HC) ?_; intro v' X ho hgr hbk; have HA : TApp w n xs y v0 v' Wu X := ⟨by rw [ez]; exact ho, by rw [ez]; exact hgr, hbk.imp id (fun ⟨g, h1, h2⟩ => ⟨g, h1, by simp at h2; omega⟩)⟩; obtain ⟨g', cap', rfl⟩ := ownsRow_succ (k := (cut n xs).length) (show X.ownsRow w.heap.size 36 2 v' ((cut n xs).length + 1) _ by have := ho; unfold ROwn at this; rw [List.length_append] at this; exact this); have bt := HA.tv R HU; have bn := HA.num R HU; have hnt : w.heap.size + 1 ≠ tb := box_ne bn bt (by decide); have e1 := bt.cell; have e2 := bt.frozen; have bn' := bn.other hnt (.slice (some ⟨g', 0, none⟩) ((cut n xs).length + 1) cap'); have e3 := bn'.cell; have e4 := bn'.frozen; have rx := HA.box R HU; rw [ez] at rx; have hrt : W0.heap.size ≠ tb := (by have := R.tlt; omega); have rx' : RBox (X.setCell ⟨tb, 0, none⟩ (.slice (some ⟨g', 0, none⟩) ((cut n xs).length + 1) cap')) W0.heap.size (y.1, n - total xs) := (Below.heap_setCell _ _ _ _ hrt).trans rx; have e5 := rx'.c1; have T := take_round R HU HA (tb + 2) (by omega); simp only [ez] at T; (try rw [Int.sub_self] at T); have HT := hide T; clear T HA ho hgr hbk)
          exact ⟨⟨(unhide HT).2.1, (unhide HT).2.2⟩, by show TSt w b B n w.heap.size (w.heap.size + 1) tb U V ((pre ++ [x]).map cl) _; rw [unhide HMp]; exact (unhide HT).1⟩
      · have h0 : n - total xs = 0 := by omega
        have cN := hst.num.cell
        rw [h0] at cN
        have HS := hide (hst.stay (by omega) y)
        have HT : Hid (n ≤ total (xs ++ [y])) := hide (by rw [total_append]; omega)
        clear hst hst0' hkc
        gi_wp2
        exact ⟨KeepsFrom.refl _ _, ⟨rfl, by rw [unhide HMp]; exact unhide HT⟩, by rw [unhide HMp]; exact unhide HS⟩
    case done =>
      rintro D ys W hD rfl hst hK
      rw [cl_map (runsOf_in hB)] at hst
      obtain ⟨v, hv1, hv2⟩ := hst.got
      have c := hv1.cell
      gi_wp2
      refine ⟨by simp, .inl ⟨_, _, rfl, run_takeDeferred hK, ?_⟩⟩
      refine ⟨_, results_tmp2 rfl _ _ _, v, rfl, ownsRow_putObj hv2 _ hK rfl, ?_, ?_⟩
      · refine hst.map.of (World.putObj_heap_other ?_)
        rintro rfl
        have := hst.map.blk.symm.trans hK
        cases this
      · exact hst.grown.andThen (grownBy_putObj' W D _) (fun j e => .inl (by cases e; have := hgwl.size; omega))
    case stop =>
      rintro D c pre W hD hpre ⟨⟨rfl, hful⟩, hst⟩ hK
      have hpin : ∀ x ∈ pre, 1 ≤ x.2 ∧ x.1 + x.2 ≤ 512 := fun x hx => runsOf_in hB x (hpre.subset hx)
      rw [cl_map hpin] at hst hful
      have hcut : cut n pre = cut n (runsOf B U V) := by
        obtain ⟨r, hr⟩ := hpre
        rw [← hr, cut_full pre r n hful]
      obtain ⟨v, hv1, hv2⟩ := hst.got
      have hm := hst.map
      rw [hcut] at hv2 hm
      have c := hv1.cell
      gi_wp2
      refine ⟨by simp, .inl ⟨_, _, rfl, run_takeDeferred hK, ?_⟩⟩
      refine ⟨_, results_tmp2 rfl _ _ _, v, rfl, ownsRow_putObj hv2 _ hK rfl, ?_, ?_⟩
      · refine hm.of (World.putObj_heap_other ?_)
        rintro rfl
        have := hm.blk.symm.trans hK
        cases this
      · exact hst.grown.andThen (grownBy_putObj' W D _) (fun j e => .inl (by cases e; have := hgwl.size; omega))
end Go.Proofs.Ytgdplmbchoogiaa

/-
  DERIVED. Take where nothing is taken; Free of no map.
-/
namespace Go.Proofs.Ytgdplmbchoogiaa
open Go.RowKit Go.Shelf
set_option linter.unusedVariables false
attribute [local go_sem] Oper.semAt_some

theorem Take_nil (w : World) (n : Int) : Calls Try.prog 8 #[.pointer none, .int .i64 n] w fun e w' => e = .returned (.tuple #[.slice none 0 0, .int .i64 1]) ∧ w.grownBy w' none := by
  go_enter Try.func8, Try.ntmps8
  go_wp2
  go_ret2
  exact ⟨rfl, (World.grownBy_alloc _ _ _).trans (World.grownBy_alloc _ _ _)⟩
theorem Take_neg (w : World) (b : Nat) (n : Int) (h : n < 0) : Calls Try.prog 8 #[.pointer (some ⟨b, 0, none⟩), .int .i64 n] w fun e w' => e = .returned (.tuple #[.slice none 0 0, .int .i64 1]) ∧ w.grownBy w' none := by
  go_enter Try.func8, Try.ntmps8
  go_wp2
  go_ret2
  exact ⟨rfl, (World.grownBy_alloc _ _ _).trans (World.grownBy_alloc _ _ _)⟩

set_option maxRecDepth 100000 in
set_option maxHeartbeats 2000000 in
theorem Free_nil (w : World) : Calls Try.prog 22 #[.pointer none] w fun e w' => e = .returned (.int .i64 0) ∧ w.grownBy w' none := by
  refine (callsIn_wide (n := 3)).1 ?_
  refine callsIn_of_wp_marks Try.func22 rfl trivial ?_ rfl
  simp only [Try.ntmps22, List.size_toArray, List.length_cons, List.length_nil, Nat.reduceAdd, Nat.reduceSub, Array.replicate_succ, Array.replicate_zero, List.push_toArray, List.append_toArray, List.nil_append, List.cons_append]
  gi_wp2_with fail
  refine ⟨trivial, (callsIn_wide.2 (All_any _ _)).mono ?_⟩
  rintro e w' ⟨rfl, rfl⟩
  gi_wp2
  have bO := Boxed.new w 3 (.int .i64 0)
  have bN := Boxed.new (w.alloc (.cells #[.int .i64 0] 3)) 24 (.pointer none)
  rw [World.size_alloc] at bN
  obtain ⟨Wl, hWl⟩ : ∃ Wl, Wl = (w.alloc (.cells #[.int .i64 0] 3)).alloc (.cells #[.pointer none] 24) := ⟨_, rfl⟩
  have hB0 : Below w.heap.size w Wl := by rw [hWl]; exact ((Below.refl _ w).alloc (Nat.le_refl _) _).alloc (by simp) _
  have hsz : Wl.heap.size = w.heap.size + 2 := by rw [hWl]; simp
  have bO' : Boxed Wl w.heap.size 3 (.int .i64 0) := by rw [hWl]; exact bO.alloc _
  rw [← hWl] at bN ⊢
  clear hWl bO
  refine wpIn_rangeFunc_ownH rfl (by omega) (gf := 40) (lb := #[.pointer (some ⟨w.heap.size + 1, 0, none⟩)]) rfl trivial (enters_of Try.func40 (by kernel_rfl) rfl)
    (AllIt_nil 2 (w.heap.size + 1) (fun _ _ => True) Wl bN.cell bN.lt) (fun _ _ => trivial) (fun _ _ _ _ _ _ _ _ => trivial) (Below.refl _ _) (fun _ => rfl)
    (fun pre W => Boxed W w.heap.size 3 (.int .i64 0) ∧ Below w.heap.size w W)
    (fun _ _ _ => False)
    (OwnFrom.and (Own.from (boxed_own w.heap.size 3 (fun pre : List (Nat × Nat) => .int .i64 0)) _) (ownFrom_below (Nat.le_refl _) (by omega)))
    (fun _ _ _ _ _ hs _ _ => hs)
    ⟨bO', hB0⟩
    (fun x a' W => True)
    (fun x a' s A A' row hs hg hr => trivial)
    ?assign ?body ?done ?stop
  case assign =>
    rintro l pre x W K ⟨hb1, hb2⟩ hK
    have HK := hide hK
    obtain ⟨y, hy⟩ : ∃ y, y = cl x := ⟨_, rfl⟩
    rw [← hy]
    obtain ⟨y1, y2⟩ := y
    unfold rv
    simp only
    clear hy hK
    gi_wp2
    exact unhide HK _ _ ((KeepsOthers.alloc _ _).from _) trivial ⟨hb1.alloc _, hb2.alloc hb2.size _⟩ trivial
  case body =>
    rintro l pre x a' W hl hr _ _ hlt
    omega
  case done =>
    rintro D ys W hD rfl ⟨hb1, hb2⟩ hK
    have c := hb1.cell
    gi_wp2
    refine ⟨by simp, .inl ⟨_, _, rfl, run_takeDeferred hK, ?_⟩⟩
    exact ⟨_, results_tmp rfl _ _ _, rfl, grown_of_below (hb2.trans (belowK_b (w := w) (Nat.le_refl _) W D _ _ (by omega) hK rfl rfl))⟩
  case stop =>
    rintro D c pre W _ _ h _
    exact h.elim
end Go.Proofs.Ytgdplmbchoogiaa

/-
  DERIVED. The chapter's examples: awake.
-/
namespace Go.Proofs.Ytgdplmbchoogiaa
open Go.RowKit
set_option linter.unusedVariables false

def ex1 : Nat → Bool := marks none? [(0, 3)]
def ex2 : Nat → Bool := fun j => if j = 2 then false else if j = 1 then false else ex1 j
def ex3 : Nat → Bool := marks ex2 [(1, 2)]
theorem ex_cut1 : cut 3 (runsOf 10 none? none?) = [(0, 3)] := by decide +kernel
theorem ex_tot1 : 3 ≤ total (runsOf 10 none? none?) := by decide +kernel
theorem ex_give : giveL 10 ex1 [(1, 2)] = some ex2 := rfl
theorem ex_cut2 : cut 2 (runsOf 10 ex2 ex2) = [(1, 2)] := by decide +kernel
theorem ex_tot2 : 2 ≤ total (runsOf 10 ex2 ex2) := by decide +kernel
theorem ex_free : total (runsOf 10 ex3 ex2) = 7 := by decide +kernel
theorem ex_tell : tell 10 ex3 = [10, 7, 0] := by decide +kernel


theorem New_10 (w : World) : Calls Try.prog 6 #[.int .i64 10] w fun e w' => e = .returned (.pointer (some ⟨w.heap.size, 0, none⟩)) ∧ MapAt w' w.heap.size 10 none? none? ∧ w.grownBy w' none := New_any 10 w (by omega)
theorem Take_3 (w : World) (b : Nat) (h : MapAt w b 10 none? none?) : Calls Try.prog 8 #[.pointer (some ⟨b, 0, none⟩), .int .i64 3] w fun e w' => ∃ v, e = .returned (.tuple #[v, .int .i64 0]) ∧ ROwn w' w.heap.size v [(0, 3)] ∧ MapAt w' b 10 ex1 none? ∧ w.grownBy w' (some b) := by
  refine (Take_ok w b 10 3 none? none? h ex_tot1).mono fun e w' h => ?_
  rw [ex_cut1] at h
  exact h
theorem Take_2 (w : World) (b : Nat) (h : MapAt w b 10 ex2 ex2) : Calls Try.prog 8 #[.pointer (some ⟨b, 0, none⟩), .int .i64 2] w fun e w' => ∃ v, e = .returned (.tuple #[v, .int .i64 0]) ∧ ROwn w' w.heap.size v [(1, 2)] ∧ MapAt w' b 10 ex3 ex2 ∧ w.grownBy w' (some b) := by
  refine (Take_ok w b 10 2 ex2 ex2 h ex_tot2).mono fun e w' h => ?_
  rw [ex_cut2] at h
  exact h
theorem Give_12 (w : World) (b : Nat) (v : Value) (h : MapAt w b 10 ex1 none?) (hv : Rn w v [(1, 2)]) : Calls Try.prog 13 #[.pointer (some ⟨b, 0, none⟩), v] w fun e w' => e = .returned (.int .i64 0) ∧ MapAt w' b 10 ex2 none? ∧ w.grownBy w' (some b) := by
  refine (Give_any w b 10 v [(1, 2)] ex1 none? h hv).mono fun e w' h => ?_
  obtain ⟨h1 | h1, h2⟩ := h
  · obtain ⟨U', e1, e2, e3⟩ := h1
    rw [ex_give] at e1
    cases e1
    exact ⟨e2, e3, h2⟩
  · obtain ⟨e1, _⟩ := h1
    rw [ex_give] at e1
    cases e1
theorem Free_7 (w : World) (b : Nat) (h : MapAt w b 10 ex3 ex2) : Calls Try.prog 22 #[.pointer (some ⟨b, 0, none⟩)] w fun e w' => e = .returned (.int .i64 7) ∧ w.grownBy w' none := by
  refine (Free_any w b 10 ex3 ex2 h).mono fun e w' h => ?_
  rw [ex_free] at h
  exact h
theorem Bytes_10 (w : World) (b : Nat) (h : MapAt w b 10 ex3 ex2) : Calls Try.prog 23 #[.pointer (some ⟨b, 0, none⟩)] w fun e w' => ∃ v, e = .returned v ∧ Own w' w.heap.size v [10, 7, 0] ∧ w.grownBy w' none := by
  refine (Bytes_any w b 10 ex3 ex2 h).mono fun e w' h => ?_
  rw [ex_tell] at h
  exact h

theorem Sl.str {w : World} {v : Value} {l : List UInt8} (h : Sl w v l) : (convert 42 9 v).run Try.prog w = .ok (.string ⟨l.toArray⟩) w := by
  rcases h.cases with ⟨rfl, ao, rfl⟩ | ⟨b, off, cap, rfl, h1, h2, hb, hc⟩
  · cases ao with
    | none => exact run_convert_bytes_nil w 42 5 Try.underlying42 Try.underlying5 0 0 9 Try.underlying9
    | some a => exact run_convert_bytes_back w 42 9 5 a 0 [] Try.underlying42 Try.underlying5 Try.underlying9 (fun j hj => by simp at hj)
  · exact run_convert_bytes_back w 42 9 5 ⟨b, off, none⟩ cap l Try.underlying42 Try.underlying5 Try.underlying9 (fun j hj => by rw [addr_add]; exact hc j hj)

theorem ROwn.far {W W' : World} {base b B : Nat} {U V : Nat → Bool} {v : Value} {xs : List (Nat × Nat)} (h : ROwn W base v xs) (hm : MapAt W b B U V) (hg : W.grownBy W' (some b)) : ROwn W' base v xs :=
  h.kept hg (fun q hq e => h.ne hq hm.blk (by decide) (by simpa using e))

set_option maxHeartbeats 2000000 in
set_option maxRecDepth 20000 in
theorem awake_ok (w : World) : Calls Try.prog 5 #[] w fun e w' => e = .returned (.bool true) ∧ w.grownBy w' none := by
  go_enter Try.func5, Try.ntmps5
  go_wp2_with fail
  refine (New_10 w).mono ?_
  rintro e w1 ⟨rfl, m1, g1⟩
  obtain ⟨b, hb⟩ : ∃ b, b = w.heap.size := ⟨_, rfl⟩
  rw [← hb] at m1 ⊢
  have M1 := hide m1
  have G1 := hide g1
  have HBB : Hid (w.heap.size ≤ b) := hide (by omega)
  clear m1 g1 hb
  go_wp2_with fail
  refine (Take_3 w1 b (unhide M1)).mono ?_
  rintro e w2 ⟨va, rfl, o2, m2, g2⟩
  have M2 := hide m2
  have O2 := hide o2
  have G2 : Hid (w.grownBy w2 none) := hide ((unhide G1).andThen g2 (fun j e => by cases e; exact .inl (unhide HBB)))
  clear m2 o2 g2 G1 M1
  go_wp2_with fail
  have mA := (unhide M2).alloc (.cells #[.int .i64 1, .int .i64 2] 36)
  refine (Give_12 (w2.alloc (.cells #[.int .i64 1, .int .i64 2] 36)) b _ mA (Rn.one w2 1 2 (by simp [fits]))).mono ?_
  rintro e w3 ⟨rfl, m3, g3⟩
  have M3 := hide m3
  have O3 : Hid (ROwn w3 w1.heap.size va [(0, 3)]) := hide (ROwn.far (World.ownsRow.alloc (unhide O2) _) mA g3)
  have G3 : Hid (w.grownBy w3 none) := hide (((unhide G2).trans (World.grownBy_alloc _ _ _)).andThen g3 (fun j e => by cases e; exact .inl (unhide HBB)))
  clear m3 g3 mA M2 O2 G2
  go_wp2_with fail
  refine (Commit_any w3 b 10 ex2 none? (unhide M3)).mono ?_
  rintro e w4 ⟨⟨ve, rfl⟩, m4, g4⟩
  have M4 := hide m4
  have O4 : Hid (ROwn w4 w1.heap.size va [(0, 3)]) := hide (ROwn.far (unhide O3) (unhide M3) g4)
  have G4 : Hid (w.grownBy w4 none) := hide ((unhide G3).andThen g4 (fun j e => by cases e; exact .inl (unhide HBB)))
  clear m4 g4 M3 O3 G3
  go_wp2_with fail
  refine (Take_2 w4 b (unhide M4)).mono ?_
  rintro e w5 ⟨vb, rfl, o5, m5, g5⟩
  have M5 := hide m5
  have O5 : Hid (ROwn w5 w1.heap.size va [(0, 3)]) := hide (ROwn.far (unhide O4) (unhide M4) g5)
  have P5 := hide o5
  have G5 : Hid (w.grownBy w5 none) := hide ((unhide G4).andThen g5 (fun j e => by cases e; exact .inl (unhide HBB)))
  clear m5 g5 o5 M4 O4 G4
  go_wp2_with fail
  refine (SameRuns_any (w5.alloc (.cells #[.int .i64 0, .int .i64 3] 36)) va _ [(0, 3)] [(0, 3)] ((ROwn.rn (World.ownsRow.alloc (unhide O5) _ : ROwn _ _ _ [(0, 3)]) (by decide))) (Rn.one w5 0 3 (by simp [fits]))).mono ?_
  rintro e w6 ⟨rfl, g6⟩
  have g56 : w5.grownBy w6 none := (World.grownBy_alloc _ _ _).trans g6
  have M6 := hide ((unhide M5).grown g56 (by simp))
  have P6 : Hid (ROwn w6 w4.heap.size vb [(1, 2)]) := hide ((unhide P5).kept g56 (fun q hq e => by cases e))
  have G6 : Hid (w.grownBy w6 none) := hide ((unhide G5).trans g56)
  clear g6 g56 M5 O5 P5 G5
  simp only [decide_true]
  go_wp2_with fail
  refine (SameRuns_any (w6.alloc (.cells #[.int .i64 1, .int .i64 2] 36)) vb _ [(1, 2)] [(1, 2)] ((ROwn.rn (World.ownsRow.alloc (unhide P6) _ : ROwn _ _ _ [(1, 2)]) (by decide))) (Rn.one w6 1 2 (by simp [fits]))).mono ?_
  rintro e w7 ⟨rfl, g7⟩
  have g67 : w6.grownBy w7 none := (World.grownBy_alloc _ _ _).trans g7
  have M7 := hide ((unhide M6).grown g67 (by simp))
  have G7 : Hid (w.grownBy w7 none) := hide ((unhide G6).trans g67)
  clear g7 g67 M6 P6 G6
  simp only [decide_true]
  go_wp2_with fail
  refine (Free_7 w7 b (unhide M7)).mono ?_
  rintro e w8 ⟨rfl, g8⟩
  have M8 := hide ((unhide M7).grown g8 (by simp))
  have G8 : Hid (w.grownBy w8 none) := hide ((unhide G7).trans g8)
  clear g8 M7 G7
  go_wp2_with fail
  refine (Bytes_10 w8 b (unhide M8)).mono ?_
  rintro e w9 ⟨vc, rfl, o9, g9⟩
  have G9 : Hid (w.grownBy w9 none) := hide ((unhide G8).trans g9)
  have hst := o9.sl.str
  clear g9 o9 M8 G8
  go_wp2
  go_ret
  exact ⟨rfl, unhide G9⟩
end Go.Proofs.Ytgdplmbchoogiaa

/-
  DERIVED. How runs and calls that came in are opened; Pick; Take of whatever number.
-/
namespace Go.Proofs.Ytgdplmbchoogiaa
open Go.ChangeShapes Go.WideShapes Go.ChangeAt Go.RowKit
set_option linter.unusedVariables false

theorem own_knob : ownKnob Try.prog.godebug = none := by kernel_rfl
theorem laid_out : laidOutB Try.prog = true := by kernel_rfl
theorem Try.cellsInt : Try.prog.cellsOf 3 = 1 := by kernel_rfl
theorem Try.cellsRun : Try.prog.cellsOf 36 = 2 := by kernel_rfl
theorem Try.cellsRuns : Try.prog.cellsOf 28 = 1 := by kernel_rfl
theorem Try.cellsACall : Try.prog.cellsOf 30 = 3 := by kernel_rfl
theorem Try.underRun : ∃ f0 f1, Try.prog.underlying 36 = some (.struct #[f0, f1]) ∧ (f0.offset = 0 ∧ f1.offset = 1) ∧ f0.type = 3 ∧ f1.type = 3 := ⟨_, _, Try.underlying36, ⟨rfl, rfl⟩, rfl, rfl⟩
theorem Try.underACall : ∃ f0 f1 f2, Try.prog.underlying 30 = some (.struct #[f0, f1, f2]) ∧ (f0.offset = 0 ∧ f1.offset = 1 ∧ f2.offset = 2) ∧ f0.type = 3 ∧ f1.type = 3 ∧ f2.type = 28 := ⟨_, _, _, Try.underlying30, ⟨rfl, rfl, rfl⟩, rfl, rfl, rfl⟩

theorem Pick_any (c n : Int) (w : World) (h0 : -9223372036854775808 ≤ c) (h1 : c ≤ 9223372036854775807) (hn : 0 < n) (hn2 : n ≤ 9223372036854775807) :
    Calls Try.prog 12 #[.int .i64 c, .int .i64 n] w fun e w' => ∃ k : Nat, e = .returned (.int .i64 k) ∧ (k : Int) < n ∧ w = w' := by
  by_cases hc : c < 0
  · go_enter Try.func12, Try.ntmps12
    go_wp2
    go_ret
    have h2 := Int.emod_nonneg (-(c + 1)) (show n ≠ 0 by omega)
    have h3 := Int.emod_lt_of_pos (-(c + 1)) hn
    have e : -(c + 1).tmod n = -(c + 1) % n := by rw [← Int.neg_tmod, Int.tmod_eq_emod_of_nonneg (by omega)]
    exact ⟨(-(c + 1) % n).toNat, by rw [Int.toNat_of_nonneg h2, ← e]; rfl, by omega, rfl⟩
  · go_enter Try.func12, Try.ntmps12
    go_wp2
    go_ret
    have h2 := Int.emod_nonneg c (show n ≠ 0 by omega)
    have h3 := Int.emod_lt_of_pos c hn
    exact ⟨(c % n).toNat, by rw [Int.toNat_of_nonneg h2]; rfl, by omega, rfl⟩

set_option maxRecDepth 100000 in
theorem open_runs {H : Type} {enc : TypeId × Value → H} {W : World} {v : Value} {y : DataW H × List MemPlace} {fuel : Nat}
    (hf : DataW.trod enc Try.prog W 0 (fun _ => true) true fuel 28 [v] = some y) : ∃ l : List (Int × Int), Rn W v l := by
  obtain ⟨f0, f1, hu, ⟨o0, o1⟩, t0, t1⟩ := Try.underRun
  rcases Go.Deep.open_slice Try.underlying28 hf with ⟨hcs, hx⟩ | ⟨x, n, cap, m, k, D, Pl, hcs, _, hl, hm, hz, hx, hcell⟩
  · simp at hcs
    subst hcs
    exact ⟨[], none, 0, rfl, by simp, by simp, by simp, fun h => absurd rfl h⟩
  · simp at hcs
    subst hcs
    rw [if_pos rfl] at hz
    subst hz
    unfold maxLen at hm
    have hel : ∀ i, i < n → ∃ e : Int × Int, fits e ∧ W.cell? (x.add (i * 2)) = some (.int .i64 e.1) ∧ W.cell? (x.add (i * 2 + 1)) = some (.int .i64 e.2) := by
      intro i hi
      obtain ⟨cs, q1, q2⟩ := hcell i (by omega)
      rw [Try.cellsRun] at q1
      obtain ⟨_, hlen, hc⟩ := World.cells?_some q1
      match cs, hlen with
      | [c0, c1], _ =>
        obtain ⟨xs, k', _, _, _, hxl, hfl⟩ := DataW.trod_struct hu q2
        match xs, hxl with
        | [x0, x1], _ =>
          have g0 := hfl 0 f0 rfl
          have g1 := hfl 1 f1 rfl
          rw [o0, t0, Try.cellsInt] at g0
          rw [o1, t1, Try.cellsInt] at g1
          obtain ⟨s0, e0, _, w0⟩ := DataW.trod_int Try.underlying3 g0
          obtain ⟨s1, e1, _, w1⟩ := DataW.trod_int Try.underlying3 g1
          simp at e0 e1
          subst e0 e1
          have k0 := hc 0 (by omega)
          have k1 := hc 1 (by omega)
          rw [Go.Deep.add_add] at k0 k1
          have b0 := bounds_i64 w0
          have b1 := bounds_i64 w1
          exact ⟨(s0, s1), ⟨by simp only; omega, by simp only; omega, by simp only; omega, by simp only; omega⟩, k0, k1⟩
    obtain ⟨F, hF⟩ := Go.Deep.choose_lt (α := Int × Int) hel
    have hlen : ((List.range n).map F).length = n := by simp
    refine ⟨(List.range n).map F, some x, _, by rw [hlen], by rw [hlen]; omega, by omega, fun y hy => ?_, fun hz => ?_⟩
    · obtain ⟨i, hi, rfl⟩ := List.mem_map.1 hy
      exact (hF i (List.mem_range.1 hi)).1
    · rw [hlen] at hz
      have h0 := (hF 0 (by omega)).2.1
      have hsp := World.cell?_spot h0
      obtain ⟨b, off, sp⟩ := x
      have hsp' : sp = none := by
        cases sp with
        | none => rfl
        | some k => simp [Addr.add] at hsp
      subst hsp'
      refine ⟨b, off, rfl, ?_, fun i hi => ?_⟩
      · rw [addr_add] at h0
        exact World.block_lt_of_cell? W ⟨b, off + 0 * 2, none⟩ h0
      · have hi' : i < n := by rw [hlen] at hi; exact hi
        obtain ⟨_, q0, q1⟩ := hF i hi'
        rw [addr_add] at q0 q1
        have e : ((List.range n).map F)[i] = F i := by simp
        rw [e]
        simp only [← Nat.add_assoc] at q1
        exact ⟨q0, q1⟩

/-- A call, as it reads. -/
structure ACl where
  kind : Int
  n : Int
  l : List (Int × Int)
instance : Inhabited ACl := ⟨⟨0, 0, []⟩⟩
abbrev I64 (x : Int) : Prop := -9223372036854775808 ≤ x ∧ x ≤ 9223372036854775807
structure AClAt (w : World) (b o : Nat) (c : ACl) : Prop where
  c0 : w.cell? ⟨b, o, none⟩ = some (.int .i64 c.kind)
  c1 : w.cell? ⟨b, o + 1, none⟩ = some (.int .i64 c.n)
  c2 : ∃ v, w.cell? ⟨b, o + 2, none⟩ = some v ∧ Rn w v c.l
  i0 : I64 c.kind
  i1 : I64 c.n
/-- A slice of calls. -/
def AClL (w : World) (v : Value) (l : List ACl) : Prop :=
  ∃ ao cap, v = .slice ao l.length cap ∧ l.length ≤ 9223372036854775807 ∧ (0 < l.length → ∃ b off, ao = some ⟨b, off, none⟩ ∧ b < w.heap.size ∧ ∀ i, (h : i < l.length) → AClAt w b (off + i * 3) l[i])
theorem AClAt.kept {w w' : World} {b o : Nat} {c : ACl} (h : AClAt w b o c) (hg : w.grownBy w' none) : AClAt w' b o c :=
  { c0 := hg.cell h.c0 (by simp), c1 := hg.cell h.c1 (by simp)
    c2 := by obtain ⟨v, h1, h2⟩ := h.c2; exact ⟨v, hg.cell h1 (by simp), h2.kept hg⟩
    i0 := h.i0, i1 := h.i1 }

set_option maxRecDepth 100000 in
theorem open_acalls {H : Type} {enc : TypeId × Value → H} {W : World} {a : Option Addr} {n c : Nat} {d : DataW H} {p : List MemPlace}
    (h : DataW.Trod enc Try.prog W 0 (fun _ => true) true 22 (.slice a n c) d p) : ∃ l : List ACl, AClL W (.slice a n c) l := by
  obtain ⟨fuel, hf⟩ := h
  obtain ⟨f0, f1, f2, hu, ⟨o0, o1, o2⟩, t0, t1, t2⟩ := Try.underACall
  rcases Go.Deep.open_slice Try.underlying22 hf with ⟨hcs, hx⟩ | ⟨x, n', cap, m, k, D, Pl, hcs, _, hl, hm, hz, hx, hcell⟩
  · simp [Value.cells] at hcs
    obtain ⟨rfl, rfl, rfl⟩ := hcs
    exact ⟨[], none, 0, rfl, by simp, fun h => by simp at h⟩
  · simp [Value.cells] at hcs
    obtain ⟨rfl, rfl, rfl⟩ := hcs
    rw [if_pos rfl] at hz
    subst hz
    unfold maxLen at hm
    have hel : ∀ i, i < n → ∃ e : ACl, I64 e.kind ∧ I64 e.n ∧ W.cell? (x.add (i * 3)) = some (.int .i64 e.kind) ∧ W.cell? (x.add (i * 3 + 1)) = some (.int .i64 e.n) ∧ ∃ v, W.cell? (x.add (i * 3 + 2)) = some v ∧ Rn W v e.l := by
      intro i hi
      obtain ⟨cs, q1, q2⟩ := hcell i (by omega)
      rw [Try.cellsACall] at q1
      obtain ⟨_, hlen, hc⟩ := World.cells?_some q1
      match cs, hlen with
      | [c0, c1, c2], _ =>
        obtain ⟨xs, k', _, _, _, hxl, hfl⟩ := DataW.trod_struct hu q2
        match xs, hxl with
        | [x0, x1, x2], _ =>
          have g0 := hfl 0 f0 rfl
          have g1 := hfl 1 f1 rfl
          have g2 := hfl 2 f2 rfl
          rw [o0, t0, Try.cellsInt] at g0
          rw [o1, t1, Try.cellsInt] at g1
          rw [o2, t2, Try.cellsRuns] at g2
          obtain ⟨s0, e0, _, w0⟩ := DataW.trod_int Try.underlying3 g0
          obtain ⟨s1, e1, _, w1⟩ := DataW.trod_int Try.underlying3 g1
          simp at e0 e1
          subst e0 e1
          simp at g2
          obtain ⟨l2, h2⟩ := open_runs g2
          have k0 := hc 0 (by omega)
          have k1 := hc 1 (by omega)
          have k2 := hc 2 (by omega)
          rw [Go.Deep.add_add] at k0 k1 k2
          have b0 := bounds_i64 w0
          have b1 := bounds_i64 w1
          exact ⟨⟨s0, s1, l2⟩, ⟨by simp only; omega, by simp only; omega⟩, ⟨by simp only; omega, by simp only; omega⟩, k0, k1, c2, k2, h2⟩
    obtain ⟨F, hF⟩ := Go.Deep.choose_lt (α := ACl) hel
    have hlen : ((List.range n).map F).length = n := by simp
    refine ⟨(List.range n).map F, some x, _, by rw [hlen], by rw [hlen]; omega, fun hz => ?_⟩
    rw [hlen] at hz
    have h0 := (hF 0 (by omega)).2.2.1
    have hsp := World.cell?_spot h0
    obtain ⟨b, off, sp⟩ := x
    have hsp' : sp = none := by
      cases sp with
      | none => rfl
      | some k => simp [Addr.add] at hsp
    subst hsp'
    refine ⟨b, off, rfl, ?_, fun i hi => ?_⟩
    · rw [addr_add] at h0
      exact World.block_lt_of_cell? W ⟨b, off + 0 * 3, none⟩ h0
    · have hi' : i < n := by rw [hlen] at hi; exact hi
      obtain ⟨j0, j1, q0, q1, v, q2, q3⟩ := hF i hi'
      rw [addr_add] at q0 q1 q2
      have e : ((List.range n).map F)[i] = F i := by simp
      rw [e]
      simp only [← Nat.add_assoc] at q1 q2
      exact { c0 := q0, c1 := q1, c2 := ⟨v, q2, q3⟩, i0 := j0, i1 := j1 }

/-! ### Take of whatever number -/
set_option maxRecDepth 100000 in
set_option maxHeartbeats 2000000 in
theorem Take_full (w : World) (b B n : Nat) (U V : Nat → Bool) (h : MapAt w b B U V) (hn : total (runsOf B U V) < n) (hn2 : (n : Int) ≤ 9223372036854775807) :
    Calls Try.prog 8 #[.pointer (some ⟨b, 0, none⟩), .int .i64 (n : Int)] w fun e w' => e = .returned (.tuple #[.slice none 0 0, .int .i64 50]) ∧ w.grownBy w' none := by
  have bM := Boxed.new w 24 (.pointer (some ⟨b, 0, none⟩))
  have bN := Boxed.new (w.alloc (.cells #[.pointer (some ⟨b, 0, none⟩)] 24)) 3 (.int .i64 (n : Int))
  rw [World.size_alloc] at bN
  have hg1 : w.grownBy ((w.alloc (.cells #[.pointer (some ⟨b, 0, none⟩)] 24)).alloc (.cells #[.int .i64 (n : Int)] 3)) none := (World.grownBy_alloc _ _ _).trans (World.grownBy_alloc _ _ _)
  have bM1 := bM.alloc (.cells #[.int .i64 (n : Int)] 3)
  have hn0 : ¬ (n : Int) < 0 := by omega
  have hgt : decide ((total (runsOf B U V) : Int) < (n : Int)) = true := decide_eq_true (by omega)
  have HM := hide (h.grown hg1 (by simp))
  clear h
  go_enter Try.func8, Try.ntmps8
  go_wp2_with fail
  obtain ⟨W1, hW1⟩ : ∃ W1, W1 = (w.alloc (.cells #[.pointer (some ⟨b, 0, none⟩)] 24)).alloc (.cells #[.int .i64 (n : Int)] 3) := ⟨_, rfl⟩
  rw [← hW1] at bN bM1 hg1 HM ⊢
  have cM := bM1.cell
  have cN := bN.cell
  have HG1 := hide hg1
  clear hW1 bM bM1 bN hg1
  go_region_with (go_at_call 22; refine (Free_any _ b B U V ((unhide HM).drewN _)).mono ?_; rintro e w2 ⟨rfl, hg2⟩; have c2 : w2.cell? ⟨w.heap.size + 1, 0, none⟩ = some (.int .i64 (n : Int)) := hg2.cell cN (by simp); have c3 : w2.cell? ⟨w.heap.size, 0, none⟩ = some (.pointer (some ⟨b, 0, none⟩)) := hg2.cell cM (by simp); have HG2 := hide hg2; clear hg2)
  all_goals go_wp2
  all_goals go_ret2
  all_goals exact ⟨rfl, (unhide HG1).trans ⟨(unhide HG2).os, (unhide HG2).tape, (unhide HG2).output, (unhide HG2).size, (unhide HG2).block⟩⟩

/-- What Take answers, and what is in use behind it. -/
def takeU (B n : Nat) (U V : Nat → Bool) : Nat → Bool := if n ≤ total (runsOf B U V) then marks U (cut n (runsOf B U V)) else U
theorem Take_any (w : World) (b B n : Nat) (U V : Nat → Bool) (h : MapAt w b B U V) (hn2 : (n : Int) ≤ 9223372036854775807) :
    Calls Try.prog 8 #[.pointer (some ⟨b, 0, none⟩), .int .i64 (n : Int)] w fun e w' => (∃ v, (e = .returned (.tuple #[v, .int .i64 0]) ∧ n ≤ total (runsOf B U V) ∧ ROwn w' w.heap.size v (cut n (runsOf B U V))) ∨ (e = .returned (.tuple #[v, .int .i64 50]) ∧ total (runsOf B U V) < n ∧ v = .slice none 0 0)) ∧ MapAt w' b B (takeU B n U V) V ∧ w.grownBy w' (some b) := by
  by_cases hn : n ≤ total (runsOf B U V)
  · refine (Take_ok w b B n U V h hn).mono fun e w' h1 => ?_
    obtain ⟨v, rfl, h2, h3, h4⟩ := h1
    exact ⟨⟨v, .inl ⟨rfl, hn, h2⟩⟩, by rw [takeU, if_pos hn]; exact h3, h4⟩
  · refine (Take_full w b B n U V h (by omega) hn2).mono fun e w' h1 => ?_
    obtain ⟨rfl, h2⟩ := h1
    exact ⟨⟨_, .inr ⟨rfl, by omega, rfl⟩⟩, by rw [takeU, if_neg hn]; exact h.grown h2 (by simp), h2.but _⟩
end Go.Proofs.Ytgdplmbchoogiaa

/-
  DERIVED. How calls that came in are opened, and how long their runs may be.
-/
namespace Go.Proofs.Ytgdplmbchoogiaa
open Go.ChangeShapes Go.WideShapes Go.ChangeAt Go.RowKit
set_option linter.unusedVariables false

theorem weightsAll_mem {H : Type} {P : Program} {e : TypeId} {d : DataW H} {n : Nat} : ∀ {l : List (DataW H)}, d ∈ l → n ∈ d.weights P e → n ∈ DataW.weightsAll P e l
  | x :: l, h, hn => by
    simp only [DataW.weightsAll, List.mem_append]
    rcases List.mem_cons.1 h with rfl | h
    · exact .inl hn
    · exact .inr (weightsAll_mem h hn)
theorem Try.bytesRun : Try.prog.bytesOf 36 = 16 := by kernel_rfl
theorem open_runs3 {H : Type} {enc : TypeId × Value → H} {W : World} {v : Value} {y : DataW H × List MemPlace} {fuel : Nat}
    (hf : DataW.trod enc Try.prog W 0 (fun _ => true) true fuel 28 [v] = some y) : ∃ l : List (Int × Int), Rn W v l ∧ (∀ n c, v = .slice none n c → c = 0) ∧ ∀ B, (∀ x ∈ y.1.weights Try.prog 28, x ≤ B) → l.length * 16 ≤ B := by
  obtain ⟨l, hl⟩ := open_runs hf
  refine ⟨l, hl, ?_⟩
  rcases Go.Deep.open_slice Try.underlying28 hf with ⟨hcs, hx⟩ | ⟨x, n, cap, m, k, D, Pl, hcs, _, hln, hm, hz, hx, hcell⟩
  · simp at hcs
    subst hcs
    obtain ⟨ao, cp, e, _⟩ := hl
    injection e with e1 e2 e3
    exact ⟨fun n c e => by injection e with _ _ e; exact e.symm, fun B _ => by omega⟩
  · simp at hcs
    subst hcs
    obtain ⟨ao, cp, e, _⟩ := hl
    injection e with e1 e2 e3
    refine ⟨(fun n c e => by cases e), ?_⟩
    intro B hB
    have hm := hB ((((List.range n).map D).length + ((List.range (m - n)).map fun j => D (n + j)).length) * Try.prog.bytesOf 36) (by rw [hx]; simp [DataW.weights, Try.underlying28])
    rw [Try.bytesRun] at hm
    simp at hm
    omega
/-- A slice of calls, whose runs are no longer than B. -/
def AClL3 (w : World) (v : Value) (l : List ACl) (B : Nat) : Prop :=
  ∃ ao cap, v = .slice ao l.length cap ∧ l.length ≤ 9223372036854775807 ∧ (0 < l.length → ∃ b off, ao = some ⟨b, off, none⟩ ∧ b < w.heap.size ∧ ∀ i, (h : i < l.length) → AClAt w b (off + i * 3) l[i] ∧ (∃ v, w.cell? ⟨b, off + i * 3 + 2, none⟩ = some v ∧ Rn w v l[i].l ∧ ∀ n c, v = .slice none n c → c = 0) ∧ l[i].l.length * 16 ≤ B)

set_option maxRecDepth 100000 in
theorem open_acalls3 {H : Type} {enc : TypeId × Value → H} {W : World} {a : Option Addr} {n c : Nat} {d : DataW H} {p : List MemPlace}
    (h : DataW.Trod enc Try.prog W 0 (fun _ => true) true 22 (.slice a n c) d p) {B : Nat} (hB : ∀ x ∈ d.weights Try.prog 22, x ≤ B) : ∃ l : List ACl, AClL3 W (.slice a n c) l B := by
  obtain ⟨fuel, hf⟩ := h
  obtain ⟨f0, f1, f2, hu, ⟨o0, o1, o2⟩, t0, t1, t2⟩ := Try.underACall
  rcases Go.Deep.open_slice Try.underlying22 hf with ⟨hcs, hx⟩ | ⟨x, n', cap, m, k, D, Pl, hcs, _, hl, hm, hz, hx, hcell⟩
  · simp [Value.cells] at hcs
    obtain ⟨rfl, rfl, rfl⟩ := hcs
    exact ⟨[], none, 0, rfl, by simp, fun h => by simp at h⟩
  · simp [Value.cells] at hcs
    obtain ⟨rfl, rfl, rfl⟩ := hcs
    rw [if_pos rfl] at hz
    subst hz
    unfold maxLen at hm
    have hel : ∀ i, i < n → ∃ e : ACl, I64 e.kind ∧ I64 e.n ∧ W.cell? (x.add (i * 3)) = some (.int .i64 e.kind) ∧ W.cell? (x.add (i * 3 + 1)) = some (.int .i64 e.n) ∧ (∃ v, W.cell? (x.add (i * 3 + 2)) = some v ∧ Rn W v e.l ∧ ∀ n c, v = .slice none n c → c = 0) ∧ (∀ B, (∀ x ∈ (D i).weights Try.prog 30, x ≤ B) → e.l.length * 16 ≤ B) := by
      intro i hi
      obtain ⟨cs, q1, q2⟩ := hcell i (by omega)
      rw [Try.cellsACall] at q1
      obtain ⟨_, hlen, hc⟩ := World.cells?_some q1
      match cs, hlen with
      | [c0, c1, c2], _ =>
        obtain ⟨xs, k', _, hDx, _, hxl, hfl⟩ := DataW.trod_struct hu q2
        match xs, hxl with
        | [x0, x1, x2], _ =>
          have g0 := hfl 0 f0 rfl
          have g1 := hfl 1 f1 rfl
          have g2 := hfl 2 f2 rfl
          rw [o0, t0, Try.cellsInt] at g0
          rw [o1, t1, Try.cellsInt] at g1
          rw [o2, t2, Try.cellsRuns] at g2
          obtain ⟨s0, e0, _, w0⟩ := DataW.trod_int Try.underlying3 g0
          obtain ⟨s1, e1, _, w1⟩ := DataW.trod_int Try.underlying3 g1
          simp at e0 e1
          subst e0 e1
          simp at g2
          obtain ⟨l2, h2, hn2, hb2⟩ := open_runs3 g2
          have hDi : D i = .agg [x0.1, x1.1, x2.1] := by simpa using congrArg Prod.fst hDx
          have hbd : ∀ B, (∀ x ∈ (D i).weights Try.prog 30, x ≤ B) → l2.length * 16 ≤ B := by
            intro B hB
            refine hb2 B fun x hx => hB x ?_
            rw [hDi]
            simp only [DataW.weights, hu, DataW.weightsEach, List.map_cons, t2, List.mem_append]
            exact .inr (.inr (.inl hx))
          have k0 := hc 0 (by omega)
          have k1 := hc 1 (by omega)
          have k2 := hc 2 (by omega)
          rw [Go.Deep.add_add] at k0 k1 k2
          have b0 := bounds_i64 w0
          have b1 := bounds_i64 w1
          exact ⟨⟨s0, s1, l2⟩, ⟨by simp only; omega, by simp only; omega⟩, ⟨by simp only; omega, by simp only; omega⟩, k0, k1, ⟨c2, k2, h2, hn2⟩, hbd⟩
    obtain ⟨F, hF⟩ := Go.Deep.choose_lt (α := ACl) hel
    have hlen : ((List.range n).map F).length = n := by simp
    refine ⟨(List.range n).map F, some x, _, by rw [hlen], by rw [hlen]; omega, fun hz => ?_⟩
    rw [hlen] at hz
    have h0 := (hF 0 (by omega)).2.2.1
    have hsp := World.cell?_spot h0
    obtain ⟨b, off, sp⟩ := x
    have hsp' : sp = none := by
      cases sp with
      | none => rfl
      | some k => simp [Addr.add] at hsp
    subst hsp'
    refine ⟨b, off, rfl, ?_, fun i hi => ?_⟩
    · rw [addr_add] at h0
      exact World.block_lt_of_cell? W ⟨b, off + 0 * 3, none⟩ h0
    · have hi' : i < n := by rw [hlen] at hi; exact hi
      obtain ⟨j0, j1, q0, q1, ⟨v, q2, q3, qn⟩, q5⟩ := hF i hi'
      rw [addr_add] at q0 q1 q2
      have e : ((List.range n).map F)[i] = F i := by simp
      rw [e]
      simp only [← Nat.add_assoc] at q1 q2
      refine ⟨{ c0 := q0, c1 := q1, c2 := ⟨v, q2, q3⟩, i0 := j0, i1 := j1 }, ⟨v, q2, q3, qn⟩, ?_⟩
      have hdd : d = .slice ((List.range n).map D) ((List.range (m - n)).map fun j => D (n + j)) := by simpa using congrArg Prod.fst hx
      refine q5 B fun x hx => hB x ?_
      rw [hdd]
      simp only [DataW.weights, Try.underlying22, List.mem_cons, List.mem_append]
      exact .inr (.inl (weightsAll_mem (List.mem_map.2 ⟨i, List.mem_range.2 hi', rfl⟩) hx))
end Go.Proofs.Ytgdplmbchoogiaa
