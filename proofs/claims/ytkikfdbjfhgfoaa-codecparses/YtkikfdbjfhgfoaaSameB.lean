/-
  DERIVED. The walks of SameEvent, SameBatch.
-/
import Derived.Test.YtkikfdbjfhgfoaaBat
namespace Go.Proofs.Ytkikfdbjfhgfoaa
open Go.RowKit
set_option linter.unusedVariables false

theorem take_eq_step {α : Type} {l m : List α} {k : Nat} (hl : k < l.length) (hm : k < m.length) (h : l.take k = m.take k) (he : l[k] = m[k]) : l.take (k + 1) = m.take (k + 1) := by
  rw [List.take_succ_eq_append_getElem hl, List.take_succ_eq_append_getElem hm, h, he]

theorem FdL.drew {w : World} {v : Value} {fs : List Fld} (h : FdL w v fs) : FdL w.drew v fs := h.below ((Below.refl w.heap.size w).drew) (Nat.le_refl _)

theorem fld_ne {fn gn fs gs : List UInt8} {ft gt : Bool} {fi gi : Int} (h : ¬ (⟨fn, ft, fi, fs⟩ : Fld) = ⟨gn, gt, gi, gs⟩) : fn ≠ gn ∨ (fn = gn ∧ ft ≠ gt) ∨ (fn = gn ∧ ft = gt ∧ fi ≠ gi) ∨ (fn = gn ∧ ft = gt ∧ fi = gi ∧ fs ≠ gs) := by
  by_cases h1 : fn = gn
  · by_cases h2 : ft = gt
    · by_cases h3 : fi = gi
      · by_cases h4 : fs = gs
        · exact absurd (by rw [h1, h2, h3, h4]) h
        · exact .inr (.inr (.inr ⟨h1, h2, h3, h4⟩))
      · exact .inr (.inr (.inl ⟨h1, h2, h3⟩))
    · exact .inr (.inl ⟨h1, h2⟩)
  · exact .inl h1

set_option maxHeartbeats 4000000 in
theorem SameEvent_any (t t' : List UInt8) (ver ver' : Int) (a a' : Option Addr) (n c n' c' : Nat) (fs gs : List Fld) (w : World) (hv : FdL w (.slice a n c) fs) (hv' : FdL w (.slice a' n' c') gs) :
    Calls Try.prog 30 #[.agg (ev t ver a n c), .agg (ev t' ver' a' n' c')] w fun e w' => e = .returned (.bool (ans ((⟨t, ver, fs⟩ : Evn) = ⟨t', ver', gs⟩))) ∧ Below w.heap.size w w' := by
  obtain ⟨ao, cap, e, g1, g2, g4⟩ := id hv
  cases e
  obtain ⟨ao', cap', e, g1', g2', g4'⟩ := id hv'
  cases e
  have HB2 := hide (((Below.refl w.heap.size w).alloc (Nat.le_refl _) (.cells (ev t ver a fs.length c) 59)).alloc (by simp) (.cells (ev t' ver' a' gs.length c') 59))
  by_cases ht : t = t'
  · subst ht
    have hbt : (t == t) = true := beq_self_eq_true _
    by_cases hver : ver = ver'
    · subst hver
      have hbv : (ver != ver) = false := by simp
      by_cases hlen : fs.length = gs.length
      · obtain ⟨N, hN⟩ : ∃ N, N = fs.length := ⟨_, rfl⟩
        have HN := hide (And.intro hN (hN.trans hlen))
        have H4 := hide (And.intro g4 g4')
        rw [← hlen] at g1' HB2 ⊢
        rw [← hN] at g1 g1' HB2 ⊢
        clear g4 g4' hN hlen hv hv'
        obtain ⟨w0, hw0⟩ : ∃ w0, w0 = (w.alloc (.cells (ev t ver a N c) 59)).alloc (.cells (ev t ver a' N c') 59) := ⟨_, rfl⟩
        have s0 : w.heap.size + 1 < w0.heap.size := by rw [hw0]; simp
        have z0 : w0.cell? ⟨w.heap.size, 2, none⟩ = some (.slice a N c) := by rw [hw0]; simp
        have z1 : w0.cell? ⟨w.heap.size + 1, 2, none⟩ = some (.slice a' N c') := by rw [hw0]; simp
        have HBW : Hid (Below w.heap.size w w0) := hide (by rw [hw0]; exact unhide HB2)
        have HW0 := hide hw0
        clear hw0 HB2
        go_enter Try.func30, Try.ntmps30
        go_wp2_with fail
        rw [← unhide HW0]
        go_loopw [5] (fun i wr => ∃ k : Nat, k ≤ N ∧ i = .int .i64 k ∧ Hid (fs.take k = gs.take k) ∧ ∀ B, Below B w0 wr) (fun i _ => N - (intOf i).toNat)
        case atStart => exact ⟨0, by omega, rfl, hide (by simp), fun B => Below.refl _ _⟩
        case round =>
          obtain ⟨k, hk, rfl, HT, hbel⟩ := hrel
          have x0 := ((hbel (w.heap.size + 1)).cell (p := ⟨w.heap.size, 2, none⟩) (by simp)).trans z0
          have x1 := ((hbel (w.heap.size + 2)).cell (p := ⟨w.heap.size + 1, 2, none⟩) (by simp)).trans z1
          by_cases hlt : k < N
          · have hkf : k < fs.length := by have := (unhide HN).1; omega
            have hkg : k < gs.length := by have := (unhide HN).2; omega
            obtain ⟨b, off, rfl, hb, hc⟩ := (unhide H4).1 (by omega)
            obtain ⟨b', off', rfl, hb', hc'⟩ := (unhide H4).2 (by omega)
            obtain ⟨c0, c1, c2, c3⟩ := hc k hkf
            obtain ⟨e0, e1, e2, e3⟩ := hc' k hkg
            obtain ⟨f, hf⟩ : ∃ f, f = fs[k] := ⟨_, rfl⟩
            obtain ⟨g, hg⟩ : ∃ g, g = gs[k] := ⟨_, rfl⟩
            rw [← hf] at c0 c1 c2 c3
            rw [← hg] at e0 e1 e2 e3
            have HBc := (unhide HBW).trans (hbel w.heap.size)
            have p0 := (HBc.cell (p := ⟨b, off + k * 4, none⟩) hb).trans c0
            have p1 := (HBc.cell (p := ⟨b, off + k * 4 + 1, none⟩) hb).trans c1
            have p2 := (HBc.cell (p := ⟨b, off + k * 4 + 2, none⟩) hb).trans c2
            have p3 := (HBc.cell (p := ⟨b, off + k * 4 + 3, none⟩) hb).trans c3
            have r0 := (HBc.cell (p := ⟨b', off' + k * 4, none⟩) hb').trans e0
            have r1 := (HBc.cell (p := ⟨b', off' + k * 4 + 1, none⟩) hb').trans e1
            have r2 := (HBc.cell (p := ⟨b', off' + k * 4 + 2, none⟩) hb').trans e2
            have r3 := (HBc.cell (p := ⟨b', off' + k * 4 + 3, none⟩) hb').trans e3
            have HF := hide hf
            have HG := hide hg
            have HBX := hide hbel
            obtain ⟨fn, ft, fi, fss⟩ := f
            obtain ⟨gn, gt, gi, gss⟩ := g
            simp only at p0 p1 p2 p3 r0 r1 r2 r3
            clear hf hg hc hc' c0 c1 c2 c3 e0 e1 e2 e3 hbel HBc
            have ik : (k : Int) < (N : Int) := by omega
            by_cases hfe : (⟨fn, ft, fi, fss⟩ : Fld) = ⟨gn, gt, gi, gss⟩
            · cases hfe
              have q1 : (fn == fn) = true := beq_self_eq_true _
              have q3 : (fss == fss) = true := beq_self_eq_true _
              go_wp2_with fail
              go_quiet (fail)
              go_wp2
              go_roundw
              case rel => exact ⟨k + 1, by omega, by go_num, hide (take_eq_step hkf hkg (unhide HT) ((unhide HF).symm.trans (unhide HG))), fun B => below_drewN (unhide HBX B) _⟩
              case measure => simp [intOf]; omega
            · have HA := hide (ans_false (p := (⟨t, ver, fs⟩ : Evn) = ⟨t, ver, gs⟩) (fun h => by
                cases h
                exact hfe ((unhide HF).trans (unhide HG).symm)))
              rcases fld_ne hfe with h5 | ⟨h5, h6⟩ | ⟨h5, h6, h7⟩ | ⟨h5, h6, h7, h8⟩
              · have q1 : (fn == gn) = false := beq_eq_false_iff_ne.2 h5
                clear h5 hfe
                go_wp2_with fail
                go_quiet (fail)
                go_wp2
                go_ret
                rw [unhide HA]
                exact ⟨rfl, below_drewN ((unhide HBW).trans (unhide HBX _)) _⟩
              · subst h5
                have q1 : (fn == fn) = true := beq_self_eq_true _
                have q2 : (ft == gt) = false := beq_eq_false_iff_ne.2 h6
                clear h6 hfe
                go_wp2_with fail
                go_quiet (fail)
                go_wp2
                go_ret
                rw [unhide HA]
                exact ⟨rfl, below_drewN ((unhide HBW).trans (unhide HBX _)) _⟩
              · subst h5 h6
                have q1 : (fn == fn) = true := beq_self_eq_true _
                have q2 : (fi == gi) = false := beq_eq_false_iff_ne.2 h7
                clear h7 hfe
                go_wp2_with fail
                go_quiet (fail)
                go_wp2
                go_ret
                rw [unhide HA]
                exact ⟨rfl, below_drewN ((unhide HBW).trans (unhide HBX _)) _⟩
              · subst h5 h6 h7
                have q1 : (fn == fn) = true := beq_self_eq_true _
                have q2 : (fss == gss) = false := beq_eq_false_iff_ne.2 h8
                clear h8 hfe
                go_wp2_with fail
                go_quiet (fail)
                go_wp2
                go_ret
                rw [unhide HA]
                exact ⟨rfl, below_drewN ((unhide HBW).trans (unhide HBX _)) _⟩
          · have HA := hide (ans_true (p := (⟨t, ver, fs⟩ : Evn) = ⟨t, ver, gs⟩) (by
              have h := unhide HT
              obtain ⟨n1, n2⟩ := unhide HN
              rw [List.take_of_length_le (by omega), List.take_of_length_le (by omega)] at h
              rw [h]))
            have HBX := hide hbel
            clear hbel
            go_wp2
            go_ret
            rw [unhide HA]
            exact ⟨rfl, (unhide HBW).trans (unhide HBX _)⟩
      · have HA := hide (ans_false (p := (⟨t, ver, fs⟩ : Evn) = ⟨t, ver, gs⟩) (fun h => by cases h; exact hlen rfl))
        have hbl : ((fs.length : Int) != (gs.length : Int)) = true := by rw [bne_iff_ne]; omega
        clear g4 g4' hv hv'
        go_enter Try.func30, Try.ntmps30
        go_wp2
        go_ret
        rw [unhide HA]
        exact ⟨rfl, unhide HB2⟩
    · have HA := hide (ans_false (p := (⟨t, ver, fs⟩ : Evn) = ⟨t, ver', gs⟩) (fun h => by cases h; exact hver rfl))
      have hbv : (ver != ver') = true := by rw [bne_iff_ne]; exact hver
      clear g4 g4' hv hv' hver
      go_enter Try.func30, Try.ntmps30
      go_wp2
      go_ret
      rw [unhide HA]
      exact ⟨rfl, unhide HB2⟩
  · have HA := hide (ans_false (p := (⟨t, ver, fs⟩ : Evn) = ⟨t', ver', gs⟩) (fun h => by cases h; exact ht rfl))
    have hbt : (t == t') = false := beq_eq_false_iff_ne.2 ht
    clear g4 g4' hv hv' ht
    go_enter Try.func30, Try.ntmps30
    go_wp2
    go_ret
    rw [unhide HA]
    exact ⟨rfl, unhide HB2⟩

set_option maxHeartbeats 4000000 in
theorem SameBatch_any (s k s' k' : List UInt8) (fi fi' : Int) (a a' : Option Addr) (n c n' c' : Nat) (es gs : List Evn) (w : World) (hv : EvL w (.slice a n c) es) (hv' : EvL w (.slice a' n' c') gs) :
    Calls Try.prog 11 #[.agg (bt s k fi a n c), .agg (bt s' k' fi' a' n' c')] w fun e w' => e = .returned (.bool (ans ((⟨s, k, fi, es⟩ : Bat) = ⟨s', k', fi', gs⟩))) ∧ Below w.heap.size w w' := by
  obtain ⟨ao, cap, e, g1, g2, g4⟩ := id hv
  cases e
  obtain ⟨ao', cap', e, g1', g2', g4'⟩ := id hv'
  cases e
  have HB2 := hide (((Below.refl w.heap.size w).alloc (Nat.le_refl _) (.cells (bt s k fi a es.length c) 25)).alloc (by simp) (.cells (bt s' k' fi' a' gs.length c') 25))
  by_cases hs : s = s'
  · subst hs
    have hbs : (s == s) = true := beq_self_eq_true _
    by_cases hk : k = k'
    · subst hk
      have hbk : (k == k) = true := beq_self_eq_true _
      by_cases hfi : fi = fi'
      · subst hfi
        have hbf : (fi != fi) = false := by simp
        by_cases hlen : es.length = gs.length
        · obtain ⟨N, hN⟩ : ∃ N, N = es.length := ⟨_, rfl⟩
          have HN := hide (And.intro hN (hN.trans hlen))
          have H4 := hide (And.intro g4 g4')
          rw [← hlen] at g1' HB2 ⊢
          rw [← hN] at g1 g1' HB2 ⊢
          clear g4 g4' hN hlen hv hv'
          obtain ⟨w0, hw0⟩ : ∃ w0, w0 = (w.alloc (.cells (bt s k fi a N c) 25)).alloc (.cells (bt s k fi a' N c') 25) := ⟨_, rfl⟩
          have s0 : w.heap.size + 1 < w0.heap.size := by rw [hw0]; simp
          have z0 : w0.cell? ⟨w.heap.size, 3, none⟩ = some (.slice a N c) := by rw [hw0]; simp
          have z1 : w0.cell? ⟨w.heap.size + 1, 3, none⟩ = some (.slice a' N c') := by rw [hw0]; simp
          have HBW : Hid (Below w.heap.size w w0) := hide (by rw [hw0]; exact unhide HB2)
          have HW0 := hide hw0
          clear hw0 HB2
          go_enter Try.func11, Try.ntmps11
          go_wp2_with fail
          rw [← unhide HW0]
          go_loopw [5, 6] (fun i _ wr => ∃ q : Nat, q ≤ N ∧ i = .int .i64 q ∧ Hid (es.take q = gs.take q) ∧ Below w0.heap.size w0 wr) (fun i _ _ => N - (intOf i).toNat)
          case atStart => exact ⟨0, by omega, rfl, hide (by simp), Below.refl _ _⟩
          case round =>
            obtain ⟨q, hq, rfl, HT, hbel⟩ := hrel
            have hsw := hbel.size
            have x0 := (hbel.cell (p := ⟨w.heap.size, 3, none⟩) (by show w.heap.size < w0.heap.size; omega)).trans z0
            have x1 := (hbel.cell (p := ⟨w.heap.size + 1, 3, none⟩) s0).trans z1
            have HBc := hide ((unhide HBW).trans (hbel.mono (by omega)))
            by_cases hlt : q < N
            · have hqf : q < es.length := by have := (unhide HN).1; omega
              have hqg : q < gs.length := by have := (unhide HN).2; omega
              obtain ⟨b, off, rfl, hb, hc⟩ := (unhide H4).1 (by omega)
              obtain ⟨b', off', rfl, hb', hc'⟩ := (unhide H4).2 (by omega)
              obtain ⟨c0, c1, ea, en, ec, c2, c3⟩ := hc q hqf
              obtain ⟨e0, e1, ea', en', ec', e2, e3⟩ := hc' q hqg
              obtain ⟨f, hf⟩ : ∃ f, f = es[q] := ⟨_, rfl⟩
              obtain ⟨g, hg⟩ : ∃ g, g = gs[q] := ⟨_, rfl⟩
              rw [← hf] at c0 c1 c3
              rw [← hg] at e0 e1 e3
              have p0 := ((unhide HBc).cell (p := ⟨b, off + q * 3, none⟩) hb).trans c0
              have p1 := ((unhide HBc).cell (p := ⟨b, off + q * 3 + 1, none⟩) hb).trans c1
              have p2 := ((unhide HBc).cell (p := ⟨b, off + q * 3 + 2, none⟩) hb).trans c2
              have r0 := ((unhide HBc).cell (p := ⟨b', off' + q * 3, none⟩) hb').trans e0
              have r1 := ((unhide HBc).cell (p := ⟨b', off' + q * 3 + 1, none⟩) hb').trans e1
              have r2 := ((unhide HBc).cell (p := ⟨b', off' + q * 3 + 2, none⟩) hb').trans e2
              have HF := hide hf
              have HG := hide hg
              have HD := hide (And.intro (c3.below (unhide HBc) (Nat.le_refl _)).drew (e3.below (unhide HBc) (Nat.le_refl _)).drew)
              have HBX := hide hbel
              obtain ⟨ft, fv1, ff⟩ := f
              obtain ⟨gt, gv1, gf⟩ := g
              simp only at p0 p1 p2 r0 r1 r2
              clear hf hg hc hc' c0 c1 c2 c3 e0 e1 e2 e3 hbel
              have ik : (q : Int) < (N : Int) := by omega
              by_cases hfe : (⟨ft, fv1, ff⟩ : Evn) = ⟨gt, gv1, gf⟩
              · have HE := hide (ans_true hfe)
                have HT2 := hide (take_eq_step hqf hqg (unhide HT) ((unhide HF).symm.trans (hfe.trans (unhide HG))))
                clear hfe
                go_wp2_with fail
                first | (go_region_with (go_at_call 30; refine (SameEvent_any ft gt fv1 gv1 ea ea' en ec en' ec' ff gf _ (unhide HD).1 (unhide HD).2).mono ?_; rintro e w5 ⟨rfl, b5⟩; rw [unhide HE]; have HB5 := hide (after_drew b5); clear b5)) | fail
                all_goals
                  go_wp2
                  go_roundw
                  case rel => exact ⟨q + 1, by omega, by go_num, HT2, (unhide HBX).trans ((unhide HB5).mono hsw)⟩
                  case measure => simp [intOf]; omega
              · have HE := hide (ans_false hfe)
                have HA := hide (ans_false (p := (⟨s, k, fi, es⟩ : Bat) = ⟨s, k, fi, gs⟩) (fun h => by
                  cases h
                  exact hfe ((unhide HF).trans (unhide HG).symm)))
                clear hfe
                go_wp2_with fail
                first | (go_region_with (go_at_call 30; refine (SameEvent_any ft gt fv1 gv1 ea ea' en ec en' ec' ff gf _ (unhide HD).1 (unhide HD).2).mono ?_; rintro e w5 ⟨rfl, b5⟩; rw [unhide HE]; have HB5 := hide (after_drew b5); clear b5)) | fail
                all_goals
                  go_wp2
                  go_ret
                  rw [unhide HA]
                  exact ⟨rfl, (unhide HBc).trans ((unhide HB5).mono (unhide HBc).size)⟩
            · have HA := hide (ans_true (p := (⟨s, k, fi, es⟩ : Bat) = ⟨s, k, fi, gs⟩) (by
                have h := unhide HT
                obtain ⟨n1, n2⟩ := unhide HN
                rw [List.take_of_length_le (by omega), List.take_of_length_le (by omega)] at h
                rw [h]))
              clear hbel
              go_wp2
              go_ret
              rw [unhide HA]
              exact ⟨rfl, unhide HBc⟩
        · have HA := hide (ans_false (p := (⟨s, k, fi, es⟩ : Bat) = ⟨s, k, fi, gs⟩) (fun h => by cases h; exact hlen rfl))
          have hbl : ((es.length : Int) != (gs.length : Int)) = true := by rw [bne_iff_ne]; omega
          clear g4 g4' hv hv'
          go_enter Try.func11, Try.ntmps11
          go_wp2
          go_ret
          rw [unhide HA]
          exact ⟨rfl, unhide HB2⟩
      · have HA := hide (ans_false (p := (⟨s, k, fi, es⟩ : Bat) = ⟨s, k, fi', gs⟩) (fun h => by cases h; exact hfi rfl))
        have hbf : (fi != fi') = true := by rw [bne_iff_ne]; exact hfi
        clear g4 g4' hv hv' hfi
        go_enter Try.func11, Try.ntmps11
        go_wp2
        go_ret
        rw [unhide HA]
        exact ⟨rfl, unhide HB2⟩
    · have HA := hide (ans_false (p := (⟨s, k, fi, es⟩ : Bat) = ⟨s, k', fi', gs⟩) (fun h => by cases h; exact hk rfl))
      have hbk : (k == k') = false := beq_eq_false_iff_ne.2 hk
      clear g4 g4' hv hv' hk
      go_enter Try.func11, Try.ntmps11
      go_wp2
      go_ret
      rw [unhide HA]
      exact ⟨rfl, unhide HB2⟩
  · have HA := hide (ans_false (p := (⟨s, k, fi, es⟩ : Bat) = ⟨s', k', fi', gs⟩) (fun h => by cases h; exact hs rfl))
    have hbs : (s == s') = false := beq_eq_false_iff_ne.2 hs
    clear g4 g4' hv hv' hs
    go_enter Try.func11, Try.ntmps11
    go_wp2
    go_ret
    rw [unhide HA]
    exact ⟨rfl, unhide HB2⟩
end Go.Proofs.Ytkikfdbjfhgfoaa
