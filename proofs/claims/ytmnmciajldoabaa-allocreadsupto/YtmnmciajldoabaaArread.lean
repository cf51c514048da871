/-
  DERIVED. The document's Read.
-/
import Derived.Test.YtmnmciajldoabaaAread
namespace Go.Proofs.Ytmnmciajldoabaa
open Go.RowKit
set_option linter.unusedVariables false

def RReadPost (w : World) (l : List UInt8) (e : Ending) (w' : World) : Prop :=
  w.grownBy w' none ∧ ((¬ okR l ∧ e = .returned (.tuple #[.pointer none, .int .i64 52])) ∨ (okR l ∧ ∃ b v1 v2, e = .returned (.tuple #[.pointer (some ⟨b, 0, none⟩), .int .i64 0]) ∧ RmAt w' w.heap.size b (rd l).1 v1 v2 (rdU l) (rdU l)))
theorem RmAt.low {w : World} {N N' b B : Nat} {v1 v2 : Value} {U V : Nat → Bool} (h : RmAt w N b B v1 v2 U V) (hN : N' ≤ N) : RmAt w N' b B v1 v2 U V := ⟨h.blk, h.now.low hN, h.last.low hN, h.le, Nat.le_trans hN h.base, h.apart⟩
theorem half_step (c j : Nat) : c / 2 ^ j / 2 = c / 2 ^ (j + 1) := by rw [Nat.div_div_eq_div_mul, Nat.pow_succ]
theorem odd_bit (l : List UInt8) (i : Nat) (c : UInt8) (hi : i / 8 < l.length) (hc : c = l[i / 8]) (y : Nat) (hy : y = c.toNat / 2 ^ (i % 8)) : (((y : Int) % 2) == 1) = bitR l i := by
  unfold bitR
  rw [List.getD_eq_getElem?_getD, List.getElem?_eq_getElem hi, ← hc, hy]
  simp only [Option.getD_some]
  by_cases e : c.toNat / 2 ^ (i % 8) % 2 = 1
  · rw [decide_eq_true e]; exact beq_iff_eq.2 (by omega)
  · rw [decide_eq_false e]; exact beq_eq_false_iff_ne.2 (by omega)

set_option maxHeartbeats 8000000 in
set_option maxRecDepth 20000 in
theorem rRead_any (w : World) (v : Value) (l : List UInt8) (hv : Sl w v l) (hl : l.length ≤ 2000000) : Calls Try.prog 21 #[v] w (RReadPost w l) := by
  have hrf := rd_facts l
  have HV := hide hv
  by_cases hok : (rd l).2.2 = 0 ∧ (rd l).1 ≤ 512
  · obtain ⟨hE, hN⟩ := hok
    have hk := hrf.2.2.2 hE
    rcases hv.cases with ⟨hl0, _⟩ | ⟨vb, off, cap, hve, h1, h2, hb, hc⟩
    · rw [hl0] at hk; simp at hk; omega
    have hU : ∃ U, U = rdU l := ⟨_, rfl⟩
    obtain ⟨U, hU⟩ := hU
    have HF : Hid (fillU (l.drop (rd l).2.1) (min (rd l).1 (8 * (l.drop (rd l).2.1).length)) = U) := hide hU.symm
    have HOk : Hid (okR l ↔ tell (rd l).1 U = l) := hide ⟨fun h => by rw [hU]; exact h.2.2, fun h => ⟨hE, hN, by rw [← hU]; exact h⟩⟩
    have HPost : Hid (∀ e w', (w.grownBy w' none ∧ ((¬ tell (rd l).1 U = l ∧ e = .returned (.tuple #[.pointer none, .int .i64 52])) ∨ (tell (rd l).1 U = l ∧ ∃ b v1 v2, e = .returned (.tuple #[.pointer (some ⟨b, 0, none⟩), .int .i64 0]) ∧ RmAt w' w.heap.size b (rd l).1 v1 v2 U U))) → RReadPost w l e w') := hide (fun e w' h => by
      obtain ⟨h1, h2⟩ := h
      refine ⟨h1, ?_⟩
      rcases h2 with ⟨h2, h3⟩ | ⟨h2, b, v1, v2, h3, h4⟩
      · exact .inl ⟨fun h => h2 ((unhide HOk).1 h), h3⟩
      · exact .inr ⟨(unhide HOk).2 h2, b, v1, v2, h3, by rw [← hU]; exact h4⟩)
    refine Calls.mono ?_ (fun e w' h => unhide HPost e w' h)
    have RU := hide (rUint_any v l w hv)
    rw [hE] at RU
    obtain ⟨B, hB⟩ : ∃ B, B = (rd l).1 := ⟨_, rfl⟩
    obtain ⟨k, hkk⟩ : ∃ k, k = (rd l).2.1 := ⟨_, rfl⟩
    rw [← hB, ← hkk] at RU
    rw [← hB]
    rw [← hB] at hN HF
    rw [← hkk] at HF hk
    obtain ⟨n, hn⟩ : ∃ n, n = l.length := ⟨_, rfl⟩
    rw [← hn] at hk hve h1
    have hk1 := hk.1
    have hk2 := hk.2.1
    have hk10 : (k : Int) ≤ 10 := by omega
    have hnI : (n : Int) ≤ 2000000 := by omega
    have hBI : (B : Int) ≤ 512 := by omega
    have HNn := hide hn
    obtain ⟨d, hd⟩ : ∃ d, d = l.drop k := ⟨_, rfl⟩
    have HDl : Hid (d.length = n - k) := hide (by rw [hd, List.length_drop, hn])
    have HDd := hide hd
    rw [← hd] at HF
    obtain ⟨m, hm⟩ : ∃ m, m = min B (8 * d.length) := ⟨_, rfl⟩
    have Hm := hide hm
    rw [← hm] at HF
    have hmB : m ≤ B := by omega
    have hmn : m ≤ 8 * (n - k) := by have := unhide HDl; omega
    have hmx : m = B ∨ m = 8 * (n - k) := by have := unhide HDl; omega
    have HMx := hide hmx
    have HMn := hide hmn
    subst hve
    clear hc hb HOk HPost hU hB hkk hn hrf hE hk hd hm hmn hmx h1 h2
    go_enter Try.func21, Try.ntmps21
    go_wp2_with fail
    refine (unhide RU).mono ?_
    rintro e w1 ⟨rfl, b1⟩
    have G1 := hide (grown_of_below b1)
    clear b1
    go_wp2_with fail
    refine (rNew_any B w1 hN).mono ?_
    rintro e w2 ⟨b, v1, v2, rfl, m2, g2⟩
    have M2 := hide (m2.low (unhide G1).size)
    have G2 : Hid (w.grownBy w2 none) := hide ((unhide G1).trans g2)
    clear m2 g2 G1
    go_wp2
    go_loopw [8] (fun i wr => ∃ j : Nat, i = .int .i64 (j : Int) ∧ j ≤ m ∧ Hid (RmAt wr w.heap.size b B v1 v2 (fillU d j) none?) ∧ Hid (w.grownBy wr none)) (fun i _ => m - (intOf i).toNat)
    case atStart => exact ⟨0, rfl, by omega, by rw [fillU_zero]; exact M2, G2⟩
    case round =>
      obtain ⟨j, rfl, hj, HR, HG⟩ := hrel
      clear M2 G2
      by_cases hlt : j < m
      · have hmn := unhide HMn
        have hlt1 : (j : Int) < (B : Int) := by omega
        have hlt2 : (k : Int) + (j : Int) / 8 < (n : Int) := by omega
        have hq0 : (0 : Int) ≤ (k : Int) + (j : Int) / 8 := by omega
        have hj5 : (j : Int) < 512 := by omega
        have hqd : j / 8 < d.length := by have := unhide HDl; omega
        have HQd := hide hqd
        obtain ⟨ao', cap', e, _, _, h4⟩ := (unhide HV).grownN (unhide HG)
        injection e with e1 e2 e3
        clear e2 e3
        subst e1
        obtain ⟨vb', off', e, hvb, hc⟩ := h4 (by have := unhide HNn; omega)
        injection e with e
        injection e with e1 e2 e3
        subst e1 e2
        have cB := hc (k + j / 8) (by have := unhide HNn; omega)
        obtain ⟨c, hcc⟩ : ∃ c, c = l[k + j / 8]'(by have := unhide HNn; omega) := ⟨_, rfl⟩
        rw [← hcc] at cB
        have HCC : Hid (c = d[j / 8]'hqd) := hide (by
          have hd := unhide HDd
          subst hd
          rw [List.getElem_drop]
          exact hcc)
        have hcl : c.toNat < 256 := c.toNat_lt
        obtain ⟨g1, cp1, hv1, _, _, hf1⟩ := (unhide HR).now.form
        obtain ⟨g, hg1, hgN, hgl, hgz, hgc⟩ := hf1 (by omega)
        subst hg1
        have r0 := (unhide HR).c0
        rw [hv1] at r0
        have cN := hgc j (by omega)
        have cF := hgz j
        have HS0 : Hid (RmAt wr w.heap.size b B (.slice (some ⟨g, 0, none⟩) B cp1) v2 (fillU d j) none?) := hide (by rw [← hv1]; exact unhide HR)
        have HV1 := hide hv1
        have HgN := hide hgN
        clear hc h4 hcc hf1 hgc hgz hv1 hgN hmn
        have HR2 : Hid (RmAt (wr.setCell ⟨g, j, none⟩ (.bool (bitR d j))) w.heap.size b B v1 v2 (fillU d (j + 1)) none?) := hide (by
          have h := (unhide HS0).setNow j (bitR d j)
          rw [fillU_step] at h
          rw [unhide HV1]
          exact h)
        have HG2 : Hid (w.grownBy (wr.setCell ⟨g, j, none⟩ (.bool (bitR d j))) none) := hide (own_stepW (unhide HG) (unhide HgN) (setCell_grown wr g j _))
        clear HS0 HV1 HgN
        go_wp2
        go_loop [9, 10] (fun x i => ∃ t y : Nat, i = .int .i64 (t : Int) ∧ t ≤ j % 8 ∧ x = .int .i64 (y : Int) ∧ y < 256 ∧ Hid (y = c.toNat / 2 ^ t)) (fun _ i => j % 8 - (intOf i).toNat)
        case atStart => exact ⟨0, c.toNat, rfl, by omega, rfl, hcl, hide (by simp)⟩
        case round =>
          obtain ⟨t, y, rfl, ht, rfl, hy, HY⟩ := hrel
          by_cases htl : t < j % 8
          · have htl' : (t : Int) < (j : Int) % 8 := by omega
            have HY2 : Hid (y / 2 = c.toNat / 2 ^ (t + 1)) := hide (by rw [unhide HY]; exact half_step _ _)
            go_wp2
            go_round
            case rel => exact ⟨t + 1, y / 2, by go_num, by omega, by go_num, by omega, HY2⟩
            case measure => simp [intOf]; omega
          · have htl' : ¬ (t : Int) < (j : Int) % 8 := by omega
            have hte : t = j % 8 := by omega
            rw [hte] at HY
            have hbit : ((y : Int) % 2 == 1) = bitR d j := odd_bit d j c (unhide HQd) (unhide HCC) y (unhide HY)
            clear hte htl ht
            go_wp2
            go_roundw
            case rel => exact ⟨j + 1, by go_num, by omega, HR2, HG2⟩
            case measure => simp [intOf]; omega
      · have hmx := unhide HMx
        have hjm : j = m := by omega
        rw [hjm, unhide HF] at HR
        have HLL : Hid (∀ K : Prop, ((¬ (j : Int) < (B : Int)) → K) → (((j : Int) < (B : Int) ∧ ¬ (k : Int) + (j : Int) / 8 < (n : Int)) → K) → K) := hide (fun K h1 h2 => by
          by_cases e : (j : Int) < (B : Int)
          · exact h2 ⟨e, by omega⟩
          · exact h1 e)
        have MD := hide ((unhide HR).grown (show wr.grownBy wr.drew none from ⟨rfl, rfl, rfl, Nat.le_refl _, fun _ _ _ => rfl⟩))
        have GD : Hid (w.grownBy wr.drew none) := hide ⟨(unhide HG).os, (unhide HG).tape, (unhide HG).output, (unhide HG).size, (unhide HG).block⟩
        have s0 := str_of ((unhide HV).grownN (unhide GD))
        clear hmx hjm hlt hj
        by_cases heq0 : tell B U = l
        · have HQ := hide heq0
          obtain ⟨T, hT⟩ : ∃ T, T = tell B U := ⟨_, rfl⟩
          have RB : Hid (Calls Try.prog 32 #[.pointer (some ⟨b, 0, none⟩)] wr.drew fun e w' => ∃ v, e = .returned v ∧ Own w' wr.drew.heap.size v T ∧ wr.drew.grownBy w' none) := hide (by rw [hT]; exact rBytes_any wr.drew w.heap.size b B v1 v2 U none? (unhide MD))
          rw [← hT] at heq0
          have hbq : (T == l) = true := beq_iff_eq.2 heq0
          clear heq0 hT
          refine unhide HLL _ ?_ ?_
          all_goals intro hx
          all_goals try obtain ⟨hx1, hx2⟩ := hx
          all_goals
            go_upto_region 14 with fail
            go_region_law (first | (go_simp; go_wp2_with (first
              | (go_at_call 32; refine (unhide RB).mono ?_; rintro e w7 ⟨v7, rfl, o7, g7⟩; have s7 := str_of (Own.sl o7); have G7 : Hid (w.grownBy w7 none) := hide ((unhide GD).trans g7); have M7 := hide ((unhide MD).grown g7); have s77 := str_of ((unhide HV).grownN (unhide G7)); clear o7 g7)
              | fail)))
            all_goals
              clear s0 RB MD GD HR HG
              go_wp2_with fail
              refine (rCommit_any w7 w.heap.size b B v1 v2 U none? (unhide M7) (unhide G7).size).mono ?_
              rintro e w8 ⟨⟨y, rfl⟩, v3, m8, g8⟩
              have M8 := hide m8
              have G8 : Hid (w.grownBy w8 none) := hide (own_stepW (unhide G7) (unhide M7).base g8)
              clear m8 g8
              go_wp2
              go_ret2
              exact ⟨unhide G8, .inr ⟨unhide HQ, b, v1, v3, rfl, unhide M8⟩⟩
        · have HQ := hide heq0
          obtain ⟨T, hT⟩ : ∃ T, T = tell B U := ⟨_, rfl⟩
          have RB : Hid (Calls Try.prog 32 #[.pointer (some ⟨b, 0, none⟩)] wr.drew fun e w' => ∃ v, e = .returned v ∧ Own w' wr.drew.heap.size v T ∧ wr.drew.grownBy w' none) := hide (by rw [hT]; exact rBytes_any wr.drew w.heap.size b B v1 v2 U none? (unhide MD))
          rw [← hT] at heq0
          have hbq : (T == l) = false := beq_eq_false_iff_ne.2 heq0
          clear heq0 hT
          refine unhide HLL _ ?_ ?_
          all_goals intro hx
          all_goals try obtain ⟨hx1, hx2⟩ := hx
          all_goals
            go_upto_region 14 with fail
            go_region_law (first | (go_simp; go_wp2_with (first
              | (go_at_call 32; refine (unhide RB).mono ?_; rintro e w7 ⟨v7, rfl, o7, g7⟩; have s7 := str_of (Own.sl o7); have G7 : Hid (w.grownBy w7 none) := hide ((unhide GD).trans g7); have M7 := hide ((unhide MD).grown g7); have s77 := str_of ((unhide HV).grownN (unhide G7)); clear o7 g7)
              | fail)))
            all_goals go_wp2
            all_goals go_ret2
            all_goals exact ⟨unhide G7, .inl ⟨unhide HQ, rfl⟩⟩
  · have HNo : Hid (¬ okR l) := hide (fun h => hok ⟨h.1, h.2.1⟩)
    have RU := hide (rUint_any v l w hv)
    have hb1 := hrf.1
    obtain ⟨B, hB⟩ : ∃ B, B = (rd l).1 := ⟨_, rfl⟩
    obtain ⟨k, hkk⟩ : ∃ k, k = (rd l).2.1 := ⟨_, rfl⟩
    obtain ⟨E, hE⟩ : ∃ E, E = (rd l).2.2 := ⟨_, rfl⟩
    rw [← hB, ← hkk, ← hE] at RU
    rw [← hB, ← hE] at hok
    rw [← hB] at hb1
    clear hv hrf hB hkk hE
    by_cases hE : E = 0
    · subst hE
      have hBn : ¬ B ≤ 512 := fun h => hok ⟨rfl, h⟩
      have hBI : (512 : Int) < (B : Int) := by omega
      clear hok hBn
      go_enter Try.func21, Try.ntmps21
      go_wp2_with fail
      refine (unhide RU).mono ?_
      rintro e w1 ⟨rfl, b1⟩
      have G1 := hide (grown_of_below b1)
      clear b1
      go_wp2
      go_ret2
      exact ⟨unhide G1, .inl ⟨unhide HNo, rfl⟩⟩
    · have hEI : ((E : Int) == 0) = false := beq_eq_false_iff_ne.2 (by omega)
      have hEn : ¬ (E : Int) = 0 := by omega
      clear hok hE
      go_enter Try.func21, Try.ntmps21
      go_wp2_with fail
      refine (unhide RU).mono ?_
      rintro e w1 ⟨rfl, b1⟩
      have G1 := hide (grown_of_below b1)
      clear b1
      go_wp2
      go_ret2
      exact ⟨unhide G1, .inl ⟨unhide HNo, rfl⟩⟩

end Go.Proofs.Ytmnmciajldoabaa
