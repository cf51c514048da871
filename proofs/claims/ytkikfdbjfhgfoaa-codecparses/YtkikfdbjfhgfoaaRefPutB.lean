/-
  DERIVED. The walk of the document's PutBatch.
-/
import Derived.Test.YtkikfdbjfhgfoaaRefPutB0
namespace Go.Proofs.Ytkikfdbjfhgfoaa
open Go.RowKit
set_option linter.unusedVariables false

def HeadR (base : Nat) (w1 : World) (L : List UInt8) (u : Value) (W : World) : Prop := Own W base u L ∧ Below base w1 W
set_option maxRecDepth 100000 in
set_option maxHeartbeats 8000000 in
theorem rPutBatch_ok (s k : List UInt8) (fi : Int) (a : Option Addr) (n c : Nat) (es : List Evn) (w : World) (hs : s.length ≤ 9223372036854775807) (hv : EvL w (.slice a n c) es) (hfit : ∀ e ∈ es, fitE e) (hok : okBatch ⟨s, k, fi, es⟩) :
    Calls Try.prog 8 #[.agg (bt s k fi a n c)] w fun e w' => ∃ v', e = .returned (.tuple #[v', .int .i64 (putE ⟨s, k, fi, es⟩)]) ∧ Below w.heap.size w w' ∧ (putE ⟨s, k, fi, es⟩ = 0 → Own w' w.heap.size v' (layBt ⟨s, k, fi, es⟩)) ∧ (putE ⟨s, k, fi, es⟩ ≠ 0 → v' = .slice none 0 0) := by
  have HG := hide (And.intro (fun h => batE_ok hok h) (fun h => batE_event hok h))
  have HP : Hid (putE ⟨s, k, fi, es⟩ = if batE ⟨s, k, fi, es⟩ ≠ 0 then batE ⟨s, k, fi, es⟩ else if 2000 < (layBt ⟨s, k, fi, es⟩).length then 12 else 0) := hide rfl
  obtain ⟨h1, h2, h3, h4, h5, h6⟩ := hok
  simp only at h1 h2 h3 h4 h5 h6
  have HNm := hide (ans_true h1)
  have hs60 := h1.2
  obtain ⟨ao, cap, e, g1, g2, g4⟩ := id hv
  cases e
  obtain ⟨N, hN⟩ : ∃ N, N = es.length := ⟨_, rfl⟩
  have HG4 := hide g4
  have HFit := hide hfit
  have HN := hide hN
  have HV := hide hv
  rw [← hN] at g1 h5 h6 ⊢
  clear g4 hN hv hfit h1
  obtain ⟨w1, hw1⟩ : ∃ w1, w1 = w.alloc (.cells (bt s k fi a N c) 25) := ⟨_, rfl⟩
  have b1 : Below w.heap.size w w1 := by rw [hw1]; exact (Below.refl _ _).alloc (Nat.le_refl _) _
  have s1 : w.heap.size < w1.heap.size := by rw [hw1]; simp
  have q0 : w1.cell? ⟨w.heap.size, 0, none⟩ = some (sv s) := by rw [hw1]; simp
  have q1 : w1.cell? ⟨w.heap.size, 1, none⟩ = some (sv k) := by rw [hw1]; simp
  have q2 : w1.cell? ⟨w.heap.size, 2, none⟩ = some (.int .i64 fi) := by rw [hw1]; simp
  have q3 : w1.cell? ⟨w.heap.size, 3, none⟩ = some (.slice a N c) := by rw [hw1]; simp
  have HX : Hid (∀ W, Below w1.heap.size w1 W → W.cell? ⟨w.heap.size, 0, none⟩ = some (sv s) ∧ W.cell? ⟨w.heap.size, 1, none⟩ = some (sv k) ∧ W.cell? ⟨w.heap.size, 2, none⟩ = some (.int .i64 fi) ∧ W.cell? ⟨w.heap.size, 3, none⟩ = some (.slice a N c)) := hide fun W h => ⟨(h.cell (p := ⟨w.heap.size, 0, none⟩) s1).trans q0, (h.cell (p := ⟨w.heap.size, 1, none⟩) s1).trans q1, (h.cell (p := ⟨w.heap.size, 2, none⟩) s1).trans q2, (h.cell (p := ⟨w.heap.size, 3, none⟩) s1).trans q3⟩
  have HW1 := hide hw1
  have HB1 := hide b1
  clear hw1 b1
  have hN0 : decide ((N : Int) < 1) = false := decide_eq_false (by omega)
  have hN16 : decide ((16 : Int) < (N : Int)) = false := decide_eq_false (by omega)
  go_enter Try.func8, Try.ntmps8
  go_upto_region 4 with (go_at_call 23; rw [← unhide HW1]; refine (named_any s _ hs).mono ?_; rintro e w' ⟨rfl, rfl⟩; rw [unhide HNm])
  go_cut [5] from 43 to 49 (fun u wx => HeadR w1.heap.size w1 (layT s ++ layT k) u wx)
  case first =>
    have mark1 : True := trivial
    have HL : Hid ((layT s).length + (layT k).length ≤ 140737488355328) := hide (by have := layT_len s; have := layT_len k; omega)
    go_region_law (first | (refine step_append_ext rfl (.tmp 45) (.tmp 48) rfl w1.heap.size _ (layT s) rfl (unhide HO2b) _ _ _ (layT k) rfl (unhide HO3).sl (unhide HL) (unhide HZ3) ?_; intro v4 w4 own4 e4; have HO4 := hide own4; have HB4 : Hid (Below w1.heap.size w1 w4) := hide ((unhide HB3).trans (e4.below (unhide HO2b) (unhide HZ3))); clear own4 e4) | (go_simp; go_wp2_with (first | (go_at_call 24; clear mark1; refine (rPutText_b s _ (by omega)).mono ?_; rintro e w2 ⟨g2, n2, cp2, rfl, own2, b2⟩; have b2' : Below w1.heap.size w1 w2 := after_drew b2; have HO2 : Hid (Own w2 w1.heap.size (.slice (some ⟨g2, 0, none⟩) n2 cp2) (layT s)) := hide own2; have HB2 := hide b2'; have y1 := (unhide HX w2 b2').2.1; have mark2 : True := trivial; clear own2 b2 b2') | (go_at_call 24; clear mark2; refine (rPutText_b k _ (by omega)).mono ?_; rintro e w3 ⟨g3, n3, cp3, rfl, own3, b3⟩; have HO3 := hide own3; have HB3 := hide ((unhide HB2).trans (b3.mono (unhide HB2).size)); have HO2b := hide ((unhide HO2).below b3 (Nat.le_refl _)); have HZ3 : Hid (w1.heap.size ≤ w3.heap.size) := hide (unhide HB3).size; clear own3 b3))))
    all_goals (go_wp2_with fail; go_meet)
    all_goals exact ⟨unhide HO4, unhide HB4⟩
  case rest =>
    obtain ⟨own2, b2⟩ := hcut
    have l1 := layT_len s
    have l2 := layT_len k
    have l3 := lay_len fi.toNat
    have l4 := lay_len N
    have hwf : IntKind.u64.wrap fi = fi := by rw [IntKind.wrap_u64]; omega
    have hwN : IntKind.u64.wrap (N : Int) = (N : Int) := by rw [IntKind.wrap_u64]; omega
    have p2 := (unhide HX _ b2).2.2.1
    obtain ⟨A, hA⟩ : ∃ A, A = layT s ++ layT k := ⟨_, rfl⟩
    rw [← hA] at own2
    have lA : A.length ≤ 140 := by rw [hA, List.length_append]; omega
    have HA := hide hA
    have HO2 := hide own2
    have HB2 := hide b2
    rename World => w2
    clear hA
    have z2 : w1.heap.size ≤ w2.heap.size := b2.size
    clear own2 b2 q0 q1 q2
    go_wp2_with fail
    refine (rPutUint_b _ fi.toNat _ (by omega) (by first | with_reducible rfl | omega)).mono ?_
    rintro e w3 ⟨g3, n3, cp3, rfl, own3, b3⟩
    have HO3 := hide own3
    have HO2b := hide ((unhide HO2).below b3 (Nat.le_refl _))
    have HB3 := hide ((unhide HB2).trans (b3.mono z2))
    have z3 : w1.heap.size ≤ w3.heap.size := (unhide HB3).size
    clear own3 b3 HO2 HB2 p2
    go_wp2_with (at_builtin; refine wpList_append_ext rfl (.tmp 50) (.tmp 54) rfl w1.heap.size _ A rfl (unhide HO2b) _ _ _ (lay fi.toNat) rfl (unhide HO3).sl ?hlen z3 ?_)
    case hlen => omega
    intro v4 w4 own4 e4
    obtain ⟨B, hB⟩ : ∃ B, B = A ++ lay fi.toNat := ⟨_, rfl⟩
    rw [← hB] at own4
    have lB : B.length ≤ 150 := by rw [hB, List.length_append]; omega
    have HBB := hide hB
    clear hB
    have HO4 := hide own4
    have HB4 := hide ((unhide HB3).trans (e4.below (unhide HO2b) z3))
    have p3 := (unhide HX _ (unhide HB4)).2.2.2
    have z4 : w1.heap.size ≤ w4.heap.size := (unhide HB4).size
    clear own4 e4 HO3 HO2b HB3
    go_wp2_with fail
    refine (rPutUint_b _ N _ (by omega) (by first | with_reducible rfl | omega)).mono ?_
    rintro e w5 ⟨g5, n5, cp5, rfl, own5, b5⟩
    have HO5 := hide own5
    have HO4b := hide ((unhide HO4).below b5 (Nat.le_refl _))
    have HB5 := hide ((unhide HB4).trans (b5.mono z4))
    have z5 : w1.heap.size ≤ w5.heap.size := (unhide HB5).size
    clear own5 b5 HO4 HB4 p3
    go_wp2_with (at_builtin; refine wpList_append_ext rfl (.tmp 56) (.tmp 61) rfl w1.heap.size _ B rfl (unhide HO4b) _ _ _ (lay N) rfl (unhide HO5).sl ?hlen2 z5 ?_)
    case hlen2 => omega
    intro v6 w6 own6 e6
    obtain ⟨L, hL⟩ : ∃ L, L = B ++ lay N := ⟨_, rfl⟩
    rw [← hL] at own6
    have hLl : L.length ≤ 200 := by rw [hL, List.length_append]; omega
    have HL : Hid (L = layT s ++ layT k ++ lay fi.toNat ++ lay N) := hide (by rw [hL, unhide HBB, unhide HA])
    have HO6 := hide own6
    have HB6 := hide ((unhide HB5).trans (e6.below (unhide HO4b) z5))
    clear own6 e6 HO5 HO4b HB5 hL l1 l2 l3 l4 hN0 hN16 HA HBB lA lB
    go_wp2_with fail
    go_loopw [5, 6] (fun u i wr => ∃ q : Nat, q ≤ N ∧ i = .int .i64 (q : Int) ∧ Hid (Own wr w1.heap.size u (L ++ laysL layEv (es.take q))) ∧ Hid (Below w1.heap.size w1 wr) ∧ Hid (∀ j, j < q → ∀ e, es[j]? = some e → okEv e)) (fun _ i _ => N - (intOf i).toNat)
    case atStart => exact ⟨0, by omega, rfl, hide (by simpa [laysL] using unhide HO6), HB6, hide (fun j hj => by omega)⟩
    case round =>
      obtain ⟨q, hq, rfl, HO, HB, HJ⟩ := hrel
      clear HO6 HB6
      have x3 := (unhide HX _ (unhide HB)).2.2.2
      have zr : w1.heap.size ≤ wr.heap.size := (unhide HB).size
      by_cases hlt : q < N
      · have hltI : (q : Int) < (N : Int) := by omega
        have hql : q < es.length := by have := unhide HN; omega
        have HBw : Hid (Below w.heap.size w wr) := hide ((unhide HB1).trans ((unhide HB).mono (by omega)))
        obtain ⟨b, off, rfl, hbl, hc⟩ := unhide HG4 (by omega)
        obtain ⟨c0, c1, ea, en, ec, c2, c3⟩ := hc q hql
        obtain ⟨f, hf⟩ : ∃ f, f = es[q] := ⟨_, rfl⟩
        rw [← hf] at c0 c1 c3
        have d0 := ((unhide HBw).cell (p := ⟨b, off + q * 3, none⟩) hbl).trans c0
        have d1 := ((unhide HBw).cell (p := ⟨b, off + q * 3 + 1, none⟩) hbl).trans c1
        have d2 := ((unhide HBw).cell (p := ⟨b, off + q * 3 + 2, none⟩) hbl).trans c2
        have HF : Hid (es[q]? = some f) := hide (by rw [hf]; exact List.getElem?_eq_getElem hql)
        have HFO := hide (unhide HFit f (by rw [hf]; exact List.getElem_mem hql))
        have HFd := hide c3
        have HT : Hid (laysL layEv (es.take (q + 1)) = laysL layEv (es.take q) ++ layEv f) := hide (by rw [take_succ_get es q hql, laysL_snoc, hf])
        obtain ⟨ft, fver, ff⟩ := f
        simp only at d0 d1 d2 HFd
        clear hf hc c0 c1 c2 c3
        go_wp2_with fail
        obtain ⟨w7, hw7⟩ : ∃ w7, w7 = wr.alloc (.cells (ev ft fver ea en ec) 59) := ⟨_, rfl⟩
        have e7 : Ext wr w7 u5 u5 := by rw [hw7]; exact (Ext.refl _ _).alloc _
        have hne := (unhide HO).new_ne (Nat.le_refl _)
        have t7 : wr.heap.size < w7.heap.size := by rw [hw7]; simp
        have y0 : w7.cell? ⟨wr.heap.size, 0, none⟩ = some (sv ft) := by rw [hw7]; simp
        have y1 : w7.cell? ⟨wr.heap.size, 1, none⟩ = some (.int .i64 fver) := by rw [hw7]; simp
        have y2 : w7.cell? ⟨wr.heap.size, 2, none⟩ = some (.slice ea en ec) := by rw [hw7]; simp
        have HO7 : Hid (Own w7 w1.heap.size u5 (L ++ laysL layEv (es.take q))) := hide (by rw [hw7]; exact World.ownsRow.alloc (unhide HO) _)
        have HB7 : Hid (Below w1.heap.size w1 w7) := hide (by rw [hw7]; exact (unhide HB).alloc zr _)
        have HY : Hid (∀ W, Below w7.heap.size w7 W → W.cell? ⟨wr.heap.size, 0, none⟩ = some (sv ft) ∧ W.cell? ⟨wr.heap.size, 1, none⟩ = some (.int .i64 fver) ∧ W.cell? ⟨wr.heap.size, 2, none⟩ = some (.slice ea en ec)) := hide fun W h => ⟨(h.cell (p := ⟨wr.heap.size, 0, none⟩) t7).trans y0, (h.cell (p := ⟨wr.heap.size, 1, none⟩) t7).trans y1, (h.cell (p := ⟨wr.heap.size, 2, none⟩) t7).trans y2⟩
        rw [← hw7]
        clear hw7
        refine (rCheck_any ft fver ea en ec ff w7 (unhide HFO).1 ((unhide HFd).below ((unhide HB1).trans ((unhide HB7).mono (by omega))) (Nat.le_refl _)) (fun g hg => ((unhide HFO).2 g hg).1)).mono ?_
        rintro e w8 ⟨rfl, b8⟩
        by_cases hok : okEvent ft fver ff
        · rw [chk_ok hok]
          have HJ2 : Hid (∀ j, j < q + 1 → ∀ e, es[j]? = some e → okEv e) := hide (fun j hj e he => by
            by_cases h : j < q
            · exact unhide HJ j h e he
            · have : j = q := by omega
              subst this
              rw [unhide HF] at he
              cases he
              exact hok)
          have hM : (laysL layEv (es.take q)).length ≤ 5000 * 16 := by
            have := laysL_len (g := layEv) (m := 5000) (es.take q) (fun g hg => by
              obtain ⟨j, hj, rfl⟩ := List.mem_iff_getElem.1 hg
              rw [List.length_take] at hj
              rw [List.getElem_take]
              exact layEv_len (unhide HJ j (by omega) _ (List.getElem?_eq_getElem (by omega))))
            rw [List.length_take] at this
            omega
          obtain ⟨M, hMe⟩ : ∃ M, M = L ++ laysL layEv (es.take q) := ⟨_, rfl⟩
          rw [← hMe] at HO7
          have lM : M.length ≤ 81000 := by rw [hMe, List.length_append]; omega
          have HM := hide hMe
          have HYE : Hid (∀ W u, Ext w7 W u5 u → W.cell? ⟨wr.heap.size, 0, none⟩ = some (sv ft) ∧ W.cell? ⟨wr.heap.size, 1, none⟩ = some (.int .i64 fver) ∧ W.cell? ⟨wr.heap.size, 2, none⟩ = some (.slice ea en ec)) := hide fun W u h => ⟨(h.cell (p := ⟨wr.heap.size, 0, none⟩) t7 hne).trans y0, (h.cell (p := ⟨wr.heap.size, 1, none⟩) t7 hne).trans y1, (h.cell (p := ⟨wr.heap.size, 2, none⟩) t7 hne).trans y2⟩
          have z7 : w1.heap.size ≤ w7.heap.size := (unhide HB7).size
          obtain ⟨o1, o2, o3, o4, o5⟩ := hok
          have hft := o1.2
          have HOK5 := hide (okAt_field o5)
          have HN' : Hid (∀ f ∈ ff, fitN f) := hide (fun f hf => ((unhide HFO).2 f hf).2)
          have X8 := hide (ext_below b8 u5)
          have HO8 := hide ((unhide HO7).below b8 (Nat.le_refl _))
          have z8 : w1.heap.size ≤ w8.heap.size := by have := b8.size; omega
          have x0 := (unhide HYE _ _ (unhide X8)).1
          have l5 := layT_len ft
          have l6 := lay_len fver.toNat
          have l7 := lay_len ff.length
          have hwv : IntKind.u64.wrap fver = fver := by rw [IntKind.wrap_u64]; omega
          have hwn : IntKind.u64.wrap (ff.length : Int) = (ff.length : Int) := by rw [IntKind.wrap_u64]; omega
          obtain rfl : en = ff.length := by obtain ⟨_, _, e, _⟩ := unhide HFd; cases e; rfl
          clear hMe hM y0 y1 y2 b8 HY HJ o1 o5 e7 hne x3 d0 d1 d2
          go_wp2_with fail
          refine (rPutText_b ft _ (by omega)).mono ?_
          rintro e w9 ⟨g9, n9, cp9, rfl, own9, b9⟩
          have HO9 := hide own9
          have HO8b := hide ((unhide HO8).below b9 (Nat.le_refl _))
          have X9 := hide ((unhide X8).trans (ext_below b9 u5))
          have z9 : w1.heap.size ≤ w9.heap.size := by have := b9.size; omega
          clear own9 b9 HO8 X8 x0
          go_wp2_with (at_builtin; refine wpList_append_ext rfl (.tmp 78) (.tmp 81) rfl w1.heap.size _ M rfl (unhide HO8b) _ _ _ (layT ft) rfl (unhide HO9).sl ?hlen3 z9 ?_)
          case hlen3 => omega
          intro v10 w10 own10 e10
          obtain ⟨M1, hM1⟩ : ∃ M1, M1 = M ++ layT ft := ⟨_, rfl⟩
          rw [← hM1] at own10
          have lM1 : M1.length ≤ 81100 := by rw [hM1, List.length_append]; omega
          have HM1 := hide hM1
          have HO10 := hide own10
          have X10 := hide ((unhide X9).trans e10)
          have z10 : w1.heap.size ≤ w10.heap.size := by have := e10.1.size; omega
          have x1 := (unhide HYE _ _ (unhide X10)).2.1
          clear own10 e10 hM1 HO9 HO8b X9
          go_wp2_with fail
          refine (rPutUint_b _ fver.toNat _ (by omega) (by first | with_reducible rfl | omega)).mono ?_
          rintro e w11 ⟨g11, n11, cp11, rfl, own11, b11⟩
          have HO11 := hide own11
          have HO10b := hide ((unhide HO10).below b11 (Nat.le_refl _))
          have X11 := hide ((unhide X10).trans (ext_below b11 v10))
          have z11 : w1.heap.size ≤ w11.heap.size := by have := b11.size; omega
          clear own11 b11 HO10 X10 x1
          go_wp2_with (at_builtin; refine wpList_append_ext rfl (.tmp 83) (.tmp 87) rfl w1.heap.size _ M1 rfl (unhide HO10b) _ _ _ (lay fver.toNat) rfl (unhide HO11).sl ?hlen4 z11 ?_)
          case hlen4 => omega
          intro v12 w12 own12 e12
          obtain ⟨M2, hM2⟩ : ∃ M2, M2 = M1 ++ lay fver.toNat := ⟨_, rfl⟩
          rw [← hM2] at own12
          have lM2 : M2.length ≤ 81200 := by rw [hM2, List.length_append]; omega
          have HM2 := hide hM2
          have HO12 := hide own12
          have X12 := hide ((unhide X11).trans e12)
          have z12 : w1.heap.size ≤ w12.heap.size := by have := e12.1.size; omega
          have x2 := (unhide HYE _ _ (unhide X12)).2.2
          clear own12 e12 hM2 HO11 HO10b X11
          go_wp2_with fail
          refine (rPutUint_b _ ff.length _ (by omega) (by first | with_reducible rfl | omega)).mono ?_
          rintro e w13 ⟨g13, n13, cp13, rfl, own13, b13⟩
          have HO13 := hide own13
          have HO12b := hide ((unhide HO12).below b13 (Nat.le_refl _))
          have X13 := hide ((unhide X12).trans (ext_below b13 v12))
          have z13 : w1.heap.size ≤ w13.heap.size := by have := b13.size; omega
          clear own13 b13 HO12 X12 x2
          go_wp2_with (at_builtin; refine wpList_append_ext rfl (.tmp 89) (.tmp 94) rfl w1.heap.size _ M2 rfl (unhide HO12b) _ _ _ (lay ff.length) rfl (unhide HO13).sl ?hlen5 z13 ?_)
          case hlen5 => omega
          intro v14 w14 own14 e14
          obtain ⟨M3, hM3⟩ : ∃ M3, M3 = M2 ++ lay ff.length := ⟨_, rfl⟩
          rw [← hM3] at own14
          have lM3 : M3.length ≤ 81300 := by rw [hM3, List.length_append]; omega
          have HM3 : Hid (M3 = M ++ (layT ft ++ lay fver.toNat ++ lay ff.length)) := hide (by rw [hM3, unhide HM2, unhide HM1]; simp)
          have HO14 := hide own14
          have X14 := hide ((unhide X13).trans e14)
          obtain ⟨F, hF⟩ : ∃ F, F = ff.length := ⟨_, rfl⟩
          have HFl := hide hF
          clear own14 e14 hM3 HO13 HO12b X13 HM1 HM2 l5 l6 l7
          rw [← hF] at o4
          rw [← hF] at HYE HFd
          rw [← hF]
          clear hF
          obtain ⟨eb, heb⟩ : ∃ eb, eb = wr.heap.size := ⟨_, rfl⟩
          rw [← heb] at HYE
          rw [← heb] at t7
          rw [← heb]
          have HWB : Hid (∀ W u, Ext w7 W u5 u → Below w1.heap.size w1 W) := hide (fun W u h => (unhide HB7).trans (h.below (unhide HO7) z7))
          obtain ⟨ux, hux⟩ : ∃ ux : Value, ux = u5 := ⟨_, rfl⟩
          rw [← hux] at HYE
          rw [← hux] at HWB
          rw [← hux] at X14
          clear hux heb HO HB HBw zr z8 z9 z10 z11 z12 z13 HO7 HB7
          go_wp2_with fail
          go_loopw [5, 8] (fun u i W => ∃ m : Nat, m ≤ F ∧ i = .int .i64 (m : Int) ∧ Hid (Own W w1.heap.size u (M3 ++ laysL layFld (ff.take m))) ∧ Hid (Ext w7 W ux u)) (fun _ i _ => F - (intOf i).toNat)
          case atStart => exact ⟨0, by omega, rfl, hide (by simpa [laysL] using unhide HO14), X14⟩
          case round =>
            obtain ⟨m, hm, rfl, HOm, HXm⟩ := hrel
            clear HO14 X14
            have x2 := (unhide HYE _ _ (unhide HXm)).2.2
            have zm : w1.heap.size ≤ wr.heap.size := (unhide HWB _ _ (unhide HXm)).size
            by_cases hlt2 : m < F
            · have hlt2I : (m : Int) < (F : Int) := by omega
              have hmf : m < ff.length := by have := unhide HFl; omega
              obtain ⟨fao, fcap, fe, f1, f2, f4⟩ := unhide HFd
              injection fe with fe1 fe2 fe3
              obtain ⟨fb, foff, hfa, hfbl, hfc⟩ := f4 (by omega)
              have hF16 : (F : Int) ≤ 16 := by omega
              obtain ⟨k0, k1, k2, k3⟩ := hfc m hmf
              obtain ⟨f, hf⟩ : ∃ f, f = ff[m] := ⟨_, rfl⟩
              rw [← hf] at k0 k1 k2 k3
              have HBm : Hid (Below w.heap.size w wr) := hide ((unhide HB1).trans ((unhide HWB _ _ (unhide HXm)).mono (by omega)))
              have d0 := ((unhide HBm).cell (p := ⟨fb, foff + m * 4, none⟩) hfbl).trans k0
              have d1 := ((unhide HBm).cell (p := ⟨fb, foff + m * 4 + 1, none⟩) hfbl).trans k1
              have d2 := ((unhide HBm).cell (p := ⟨fb, foff + m * 4 + 2, none⟩) hfbl).trans k2
              have d3 := ((unhide HBm).cell (p := ⟨fb, foff + m * 4 + 3, none⟩) hfbl).trans k3
              have hmem : f ∈ ff := by rw [hf]; exact List.getElem_mem hmf
              have hokf := unhide HOK5 f hmem
              have hfitf := unhide HN' f hmem
              have HT2 : Hid (laysL layFld (ff.take (m + 1)) = laysL layFld (ff.take m) ++ layFld f) := hide (by rw [take_succ_get ff m hmf, laysL_snoc, hf])
              have lK : (laysL layFld (ff.take m)).length ≤ 300 * 16 := by
                have := laysL_len (g := layFld) (m := 300) (ff.take m) (fun g hg => layFld_len (unhide HOK5 g (List.mem_of_mem_take hg)))
                rw [List.length_take] at this
                omega
              obtain ⟨K, hK⟩ : ∃ K, K = M3 ++ laysL layFld (ff.take m) := ⟨_, rfl⟩
              rw [← hK] at HOm
              have lKK : K.length ≤ 87000 := by rw [hK, List.length_append]; omega
              have HK := hide hK
              have HLF : Hid (layFld f = layT f.name ++ (if f.text then 1 :: layT f.s else 0 :: lay (zig f.n))) := hide rfl
              obtain ⟨fn, ft2, fi2, fs2⟩ := f
              simp only at d0 d1 d2 d3 HLF
              obtain ⟨p1, p2, p3⟩ := hokf
              have hfn := p1.2
              unfold fitN at hfitf
              simp only at p2 p3 hfn hfitf
              rw [hfa] at fe1
              subst fe1
              clear fe2 fe3 f1 f2 f4 hfc k0 k1 k2 k3 hf hK lK hmem p1 hfa
              obtain ⟨w15, hw15⟩ : ∃ w15, w15 = wr.alloc (.cells (fv ⟨fn, ft2, fi2, fs2⟩) 62) := ⟨_, rfl⟩
              have e15 : Ext wr w15 u5 u5 := by rw [hw15]; exact (Ext.refl _ _).alloc _
              have hne15 := (unhide HOm).new_ne (Nat.le_refl _)
              have t15 : wr.heap.size < w15.heap.size := by rw [hw15]; simp
              have y1 : w15.cell? ⟨wr.heap.size, 1, none⟩ = some (.bool ft2) := by rw [hw15]; simp
              have y2 : w15.cell? ⟨wr.heap.size, 2, none⟩ = some (.int .i64 fi2) := by rw [hw15]; simp
              have y3 : w15.cell? ⟨wr.heap.size, 3, none⟩ = some (sv fs2) := by rw [hw15]; simp
              have HO15 : Hid (Own w15 w1.heap.size u5 K) := hide (by rw [hw15]; exact World.ownsRow.alloc (unhide HOm) _)
              have X15 := hide ((unhide HXm).trans e15)
              have HZE : Hid (∀ W u, Ext w15 W u5 u → W.cell? ⟨wr.heap.size, 1, none⟩ = some (.bool ft2) ∧ W.cell? ⟨wr.heap.size, 2, none⟩ = some (.int .i64 fi2) ∧ W.cell? ⟨wr.heap.size, 3, none⟩ = some (sv fs2)) := hide fun W u h => ⟨(h.cell (p := ⟨wr.heap.size, 1, none⟩) t15 hne15).trans y1, (h.cell (p := ⟨wr.heap.size, 2, none⟩) t15 hne15).trans y2, (h.cell (p := ⟨wr.heap.size, 3, none⟩) t15 hne15).trans y3⟩
              have HW15 := hide hw15
              have l5 := layT_len fn
              clear hw15 e15 y1 y2 y3 hne15 HOm HXm
              go_wp2_with fail
              rw [← unhide HW15]
              refine (rPutText_b fn _ (by omega)).mono ?_
              rintro e w16 ⟨g16, n16, cp16, rfl, own16, b16⟩
              have HO16 := hide own16
              have HO15b := hide ((unhide HO15).below b16 (Nat.le_refl _))
              have X16 := hide (ext_below b16 u5)
              have z16 : w1.heap.size ≤ w16.heap.size := by have := b16.size; omega
              clear own16 b16 HO15 d0 d1 d2 d3 x2
              go_wp2_with (at_builtin; refine wpList_append_ext rfl (.tmp 108) (.tmp 111) rfl w1.heap.size _ K rfl (unhide HO15b) _ _ _ (layT fn) rfl (unhide HO16).sl ?hlen6 z16 ?_)
              case hlen6 => omega
              intro v17 w17 own17 e17
              obtain ⟨K1, hK1⟩ : ∃ K1, K1 = K ++ layT fn := ⟨_, rfl⟩
              rw [← hK1] at own17
              have lK1 : K1.length ≤ 87100 := by rw [hK1, List.length_append]; omega
              have HK1 := hide hK1
              have HO17 := hide own17
              have X17 := hide ((unhide X16).trans e17)
              have z17 : w1.heap.size ≤ w17.heap.size := by have := e17.1.size; omega
              obtain ⟨c1, c2, c3⟩ := unhide HZE _ _ (unhide X17)
              clear own17 e17 hK1 HO16 HO15b X16
              have hA : ∀ o, Ext w17 (w17.alloc o).drew v17 v17 := fun o => ((Ext.refl w17 v17).alloc o).drew
              have c2a : ∀ o, (w17.alloc o).cell? ⟨wr.heap.size, 2, none⟩ = some (.int .i64 fi2) := fun o => (unhide HZE _ _ ((unhide X17).trans (hA o))).2.1
              have c3a : ∀ o, (w17.alloc o).cell? ⟨wr.heap.size, 3, none⟩ = some (sv fs2) := fun o => (unhide HZE _ _ ((unhide X17).trans (hA o))).2.2
              have HA' := hide hA
              clear hA
              have FIN : Hid (∀ v20 w20, Ext w17 w20 v17 v20 → Own w20 w1.heap.size v20 (K1 ++ (if ft2 then 1 :: layT fs2 else 0 :: lay (zig fi2))) → Own w20 w1.heap.size v20 (M3 ++ laysL layFld (ff.take (m + 1))) ∧ Ext w7 w20 ux v20) := hide (fun v20 w20 e20 o20 => by
                refine ⟨?_, (unhide X15).trans ((unhide X17).trans e20)⟩
                rw [unhide HT2, ← List.append_assoc, ← unhide HK, unhide HLF, ← List.append_assoc, ← unhide HK1]
                exact o20)
              cases ft2 with
              | true =>
                have hs2 := (p2 rfl).1
                have ls2 := layT_len fs2
                go_wp2_with fail
                go_region_law (first | (refine step_append_ext rfl (.tmp 115) (.tmp 116) rfl w1.heap.size _ K1 rfl ?own _ _ _ [1] rfl ?sl ?hlen ?hbb ?_; (case own => exact World.ownsRow.alloc (unhide HO17) _); (case sl => exact Sl.drew (Sl.new w17 [1] (by simp [maxLen]) (0, 0))); (case hlen => simp; omega); (case hbb => simp; omega); intro v18 w18 own18 e18; have HO18 := hide own18; have E18 := hide ((unhide HA' _).trans e18); have z18 : w1.heap.size ≤ w18.heap.size := (by have := (unhide E18).1.size; omega); have cb := (unhide HZE _ _ ((unhide X17).trans (unhide E18))).2.2; clear own18 e18) | (refine step_append_ext rfl (.tmp 117) (.tmp 120) rfl w1.heap.size _ (K1 ++ [1]) rfl (unhide HO18b) _ _ _ (layT fs2) rfl (unhide HO19).sl ?hlen7 z19 ?_; (case hlen7 => simp; omega); intro v20 w20 own20 e20; have F20 := hide (unhide FIN v20 w20 ((unhide E19).trans e20) (by simpa using own20)); clear own20 e20) | (go_simp; go_wp2_with (first | (go_at_call 24; refine (rPutText_b fs2 _ (by omega)).mono ?_; rintro e w19 ⟨g19, n19, cp19, rfl, own19, b19⟩; have HO19 := hide own19; have HO18b := hide ((unhide HO18).below b19 (Nat.le_refl _)); have E19 := hide ((unhide E18).trans (ext_below b19 v18)); have z19 : w1.heap.size ≤ w19.heap.size := (by have := b19.size; omega); clear own19 b19) | fail)))
                all_goals
                  clear HZE HA' FIN HO17 X17 c1 c2 c3 c2a c3a cb HO19 HO18 HO18b E18 E19
                  go_wp2
                  go_roundw
                  case rel => exact ⟨m + 1, by omega, by go_num, hide (unhide F20).1, hide (unhide F20).2⟩
                  case measure => simp [intOf]; omega
              | false =>
                have ls2 := lay_len (zig fi2)
                go_wp2_with fail
                go_region_law (first | (refine step_append_ext rfl (.tmp 122) (.tmp 123) rfl w1.heap.size _ K1 rfl ?own _ _ _ [0] rfl ?sl ?hlen ?hbb ?_; (case own => exact World.ownsRow.alloc (unhide HO17) _); (case sl => exact Sl.drew (Sl.new w17 [0] (by simp [maxLen]) (0, 0))); (case hlen => simp; omega); (case hbb => simp; omega); intro v18 w18 own18 e18; have HO18 := hide own18; have E18 := hide ((unhide HA' _).trans e18); have z18 : w1.heap.size ≤ w18.heap.size := (by have := (unhide E18).1.size; omega); have cb := (unhide HZE _ _ ((unhide X17).trans (unhide E18))).2.1; clear own18 e18) | (refine step_append_ext rfl (.tmp 124) (.tmp 127) rfl w1.heap.size _ (K1 ++ [0]) rfl (unhide HO18b) _ _ _ (lay (zig fi2)) rfl (unhide HO19).sl ?hlen7 z19 ?_; (case hlen7 => simp; omega); intro v20 w20 own20 e20; have F20 := hide (unhide FIN v20 w20 ((unhide E19).trans e20) (by simpa using own20)); clear own20 e20) | (go_simp; go_wp2_with (first | (go_at_call 27; refine (rPutInt_b fi2 _ hfitf.1 hfitf.2).mono ?_; rintro e w19 ⟨g19, n19, cp19, rfl, own19, b19⟩; have HO19 := hide own19; have HO18b := hide ((unhide HO18).below b19 (Nat.le_refl _)); have E19 := hide ((unhide E18).trans (ext_below b19 v18)); have z19 : w1.heap.size ≤ w19.heap.size := (by have := b19.size; omega); clear own19 b19) | fail)))
                all_goals
                  clear HZE HA' FIN HO17 X17 c1 c2 c3 c2a c3a cb HO19 HO18 HO18b E18 E19
                  go_wp2
                  go_roundw
                  case rel => exact ⟨m + 1, by omega, by go_num, hide (unhide F20).1, hide (unhide F20).2⟩
                  case measure => simp [intOf]; omega
            · have hlt2I : ¬ (m : Int) < (F : Int) := by omega
              have HE : Hid (Own wr w1.heap.size u5 (L ++ laysL layEv (es.take (q + 1)))) := hide (by
                have := unhide HOm
                rw [List.take_of_length_le (by have := unhide HFl; omega), unhide HM3, unhide HM] at this
                rw [unhide HT]
                have e : layEv ⟨ft, fver, ff⟩ = layT ft ++ lay fver.toNat ++ lay ff.length ++ laysL layFld ff := rfl
                rw [e]
                simpa using this)
              have HBE := hide (unhide HWB _ _ (unhide HXm))
              clear HOm HXm
              go_wp2
              go_roundw
              case rel => exact ⟨q + 1, by omega, by go_num, HE, HBE, HJ2⟩
              case measure => simp [intOf]; omega
        · rw [chk_bad hok]
          have HA := hide ((unhide HG).2 (fun h => hok (h _ (List.mem_of_getElem? (unhide HF)))))
          have HR : Hid (putE ⟨s, k, fi, es⟩ = 13) := hide (by rw [unhide HP, unhide HA]; simp)
          have HB8 := hide ((unhide HB1).trans (((unhide HB7).trans (b8.mono (unhide HB7).size)).mono (by omega)))
          clear hok b8
          go_wp2
          go_ret2
          rw [unhide HR]
          exact ⟨_, rfl, unhide HB8, (fun h => by cases h), fun _ => rfl⟩
      · have hltI : ¬ (q : Int) < (N : Int) := by omega
        have HA := hide ((unhide HG).1 (fun e he => by
          obtain ⟨j, hj, e2⟩ := List.mem_iff_getElem.1 he
          exact unhide HJ j (by have := unhide HN; simp only at hj; omega) e (by rw [← e2]; exact List.getElem?_eq_getElem hj)))
        have HR : Hid (Own wr w1.heap.size u5 (layBt ⟨s, k, fi, es⟩)) := hide (by
          have := unhide HO
          rw [List.take_of_length_le (by have := unhide HN; omega), unhide HL] at this
          have e : layBt ⟨s, k, fi, es⟩ = layT s ++ layT k ++ lay fi.toNat ++ lay es.length ++ laysL layEv es := rfl
          rw [e, ← unhide HN]; exact this)
        obtain ⟨T, hT⟩ : ∃ T, T = layBt ⟨s, k, fi, es⟩ := ⟨_, rfl⟩
        rw [← hT] at HR
        obtain ⟨a2, c2, hu, q4, q5, _⟩ := (unhide HR).sl
        obtain ⟨X, hX⟩ : ∃ X, X = T.length := ⟨_, rfl⟩
        unfold maxLen at q5
        rw [← hX] at hu q4
        subst hu
        have HBE := hide ((unhide HB1).trans ((unhide HB).mono (by omega)))
        by_cases h20 : 2000 < X
        · have HR2 : Hid (putE ⟨s, k, fi, es⟩ = 12) := hide (by rw [unhide HP, unhide HA, if_neg (by simp), ← hT, if_pos (by omega)])
          clear hT hX
          go_wp2
          go_ret2
          rw [unhide HR2]
          exact ⟨_, rfl, unhide HBE, (fun h => by cases h), fun _ => rfl⟩
        · have HR2 : Hid (putE ⟨s, k, fi, es⟩ = 0) := hide (by rw [unhide HP, unhide HA, if_neg (by simp), ← hT, if_neg (by omega)])
          have HTT := hide hT
          clear hT hX
          go_wp2
          go_ret2
          rw [unhide HR2]
          refine ⟨_, rfl, unhide HBE, fun _ => ?_, fun h => absurd rfl h⟩
          rw [← unhide HTT]
          exact (unhide HR).mono (by omega)
theorem rPutBatch_any (s k : List UInt8) (fi : Int) (a : Option Addr) (n c : Nat) (es : List Evn) (w : World) (hs : s.length ≤ 9223372036854775807) (hv : EvL w (.slice a n c) es) (hfit : ∀ e ∈ es, fitE e) :
    Calls Try.prog 8 #[.agg (bt s k fi a n c)] w fun e w' => ∃ v', e = .returned (.tuple #[v', .int .i64 (putE ⟨s, k, fi, es⟩)]) ∧ Below w.heap.size w w' ∧ (putE ⟨s, k, fi, es⟩ = 0 → Own w' w.heap.size v' (layBt ⟨s, k, fi, es⟩)) ∧ (putE ⟨s, k, fi, es⟩ ≠ 0 → v' = .slice none 0 0) := by
  by_cases h : okBatch ⟨s, k, fi, es⟩
  · exact rPutBatch_ok s k fi a n c es w hs hv hfit h
  · have e : putE ⟨s, k, fi, es⟩ = 11 := by unfold putE; rw [batE_form h]; simp
    refine (rPutBatch_form s k fi a n c es w hs hv h).mono ?_
    rintro o w' ⟨rfl, b⟩
    rw [e]
    exact ⟨_, rfl, b, (fun h => by cases h), fun _ => rfl⟩
end Go.Proofs.Ytkikfdbjfhgfoaa
