/-
  DERIVED. The walk of Apply.
-/
import Derived.Test.YtfgjbmpbailebaaDoorUpA
namespace Go.Proofs.YtfgjbmpbailebaaDoor
open Go.RowKit Go.Maps
set_option linter.unusedVariables false

/-- How many steps can still come. -/
def restA (w : World) (B : Nat) (vr : Int) (N : Nat) : Nat := N + 1 - ((intOf ((w.cell? ⟨B, 1, none⟩).getD undef) - vr) % 18446744073709551616).toNat
theorem restA_eq {w0 w : World} {B R m mp : Nat} {us : List Upc} {tp : List UInt8} {ver : Int} {v : Value} {cur : List Fld} {L : Nat} (h : ApSt w0 w B R m mp us tp ver v cur L) {vr : Int} {k : Nat} (hk : k < 1000000000000000000) (hr : I64 vr) (hv : ver = verN vr k) (N : Nat) : restA w B vr N = N + 1 - k := by
  have e : intOf ((w.cell? ⟨B, 1, none⟩).getD undef) = ver := by rw [h.cells.2.1]; rfl
  have e2 : (ver - vr) % 18446744073709551616 = (k : Int) := by
    rw [hv]
    unfold verN
    rw [wrap_eq]
    obtain ⟨h1, h2⟩ := hr
    omega
  unfold restA
  rw [e, e2]
  simp

abbrev put3 (w : World) (q : Nat) (x0 x1 x2 : Value) : World := ((w.setCell ⟨q, 0, none⟩ x0).setCell ⟨q, 1, none⟩ x1).setCell ⟨q, 2, none⟩ x2
theorem ApSt.out {w0 w : World} {B R m mp : Nat} {us : List Upc} {tp : List UInt8} {ver : Int} {v : Value} {cur : List Fld} {L : Nat} (h : ApSt w0 w B R m mp us tp ver v cur L) :
    (put3 w R (sv tp) (.int .i64 ver) v).heap[R]? = some (.cells (evv tp ver v) 26 (0, 0)) ∧ FOwn (put3 w R (sv tp) (.int .i64 ver) v) w0.heap.size v cur ∧ Below w0.heap.size w0 (put3 w R (sv tp) (.int .i64 ver) v) := by
  have e1 := heap_setCell_same w R 0 _ _ (sv tp) h.res
  have e2 := heap_setCell_same _ R 1 _ _ (.int .i64 ver) e1
  have e3 := heap_setCell_same _ R 2 _ _ v e2
  have hn := h.own.notEv h.res (by decide)
  refine ⟨e3, ?_, ?_⟩
  · exact ownsRow_setCell_other (ownsRow_setCell_other (ownsRow_setCell_other h.own (a := ⟨R, 0, none⟩) hn _) (a := ⟨R, 1, none⟩) hn _) (a := ⟨R, 2, none⟩) hn _
  · exact ((h.bel.setCell (p := ⟨R, 0, none⟩) h.geR _).setCell (p := ⟨R, 1, none⟩) h.geR _).setCell (p := ⟨R, 2, none⟩) h.geR _

theorem ap_start {w w1 w2 w3 w4 : World} {B R m mp : Nat} {us : List Upc} {tp : List UInt8} {vr : Int} {x v : Value} {fs : List Fld} {L : Nat} (b1 : Below w.heap.size w w1) (h1 : w1.heap[B]? = some (.cells (evv tp vr x) 26 (0, 0))) (h2 : w1.heap[R]? = some (.cells (evv [] 0 (.slice none 0 0)) 26 (0, 0))) (gB : w.heap.size ≤ B) (gR : w.heap.size ≤ R) (ne : R ≠ B)
    (f2 : FsSt w1 w2 m us) (c3 : ChgsAt w3 mp) (b3 : Below w2.heap.size w2 w3) (o4 : FOwn w4 w3.heap.size v fs) (b4 : Below w3.heap.size w3 w4) (hl : fs.length ≤ L) (hf : ∀ f ∈ fs, fits f) : ApSt w (w4.setCell ⟨B, 2, none⟩ v) B R m mp us tp vr v fs L := by
  have b13 : Below w1.heap.size w1 w3 := f2.bel.trans (b3.mono f2.bel.size)
  have b14 : Below w1.heap.size w1 w4 := b13.trans (b4.mono b13.size)
  have b04 : Below w.heap.size w w4 := b1.trans (b14.mono b1.size)
  have hB : w4.heap[B]? = some (.cells (evv tp vr x) 26 (0, 0)) := (b14.block B (lt_of_block h1)).trans h1
  have hR : w4.heap[R]? = some (.cells (evv [] 0 (.slice none 0 0)) 26 (0, 0)) := (b14.block R (lt_of_block h2)).trans h2
  have fm4 : FmAt w4 m us := (f2.mp.below b3 (Nat.le_refl _)).below b4 (Nat.le_refl _)
  have ch4 : ChgsAt w4 mp := c3.below b4 (Nat.le_refl _)
  refine ⟨b04.setCell (p := ⟨B, 2, none⟩) gB _, ?_, ?_, gB, gR, ne, ?_, ?_, ?_, hl, hf⟩
  · exact heap_setCell_same w4 B 2 _ _ v hB
  · exact (Below.heap_setCell w4 ⟨B, 2, none⟩ v R ne).trans hR
  · exact fm4.frame (Below.heap_setCell w4 ⟨B, 2, none⟩ v m (fm4.notEv hB))
  · exact ch4.frame (Below.heap_setCell w4 ⟨B, 2, none⟩ v mp (ch4.notEv hB))
  · exact FOwn.mono (show FOwn (w4.setCell ⟨B, 2, none⟩ v) w3.heap.size v fs from ownsRow_setCell_other o4 (a := ⟨B, 2, none⟩) (o4.notEv hB (by decide)) v) (Nat.le_trans b1.size b13.size)

theorem cell2 {W : World} {B : Nat} {x0 x1 x2 : Value} {t : TypeId} {fr : Nat × Nat} (h : W.heap[B]? = some (.cells #[x0, x1, x2] t fr)) : W.cell? ⟨B, 2, none⟩ = some x2 := (cell_of_row _ _ _ _ _ _ h).trans rfl
theorem frz2 {W : World} {B : Nat} {cs : Array Value} {t : TypeId} (h : W.heap[B]? = some (.cells cs t (0, 0))) : W.frozen? ⟨B, 2, none⟩ = false := by simp [World.frozen?, h]
/-- What Apply hands back. -/
def ApPost (w : World) (tp : List UInt8) (r : Int × List Fld) (L : Nat) (e : Ending) (w' : World) : Prop :=
  ∃ v, e = .returned (.agg (evv tp r.1 v)) ∧ FOwn w' w.heap.size v r.2 ∧ r.2.length ≤ L ∧ (∀ f ∈ r.2, fits f) ∧ Below w.heap.size w w'

set_option maxHeartbeats 16000000 in
theorem Apply_any (a : Option Addr) (n c : Nat) (us : List Upc) (tp : List UInt8) (vr : Int) (fa : Option Addr) (fc : Nat) (fs : List Fld) (L : Nat) (w : World) (hv : UpL w (.slice a n c) us) (hfit : ∀ u ∈ us, fitU u) (hlen : us.length < 1000000000000000000)
    (hf : FdN w fa fc fs) (hff : ∀ f ∈ fs, fits f) (hL : fs.length ≤ L) (h16 : 16 ≤ L) (hL2 : (L + 1) * 48 ≤ 140737488355328) (htp : tp.length ≤ 9223372036854775807) (hvr : I64 vr) (hva : Vars w) :
    Calls Tryd.prog 8 #[.slice a n c, .agg (evv tp vr (.slice fa fs.length fc))] w (ApPost w tp (applyU us tp vr fs) L) := by
  obtain ⟨rfl, hl1, hl2⟩ := hv.len
  have hcl := fdn_len hf
  have hb0 : Below w.heap.size w (w.alloc (.cells (evv tp vr (.slice fa fs.length fc)) 26)) := (Below.refl _ _).alloc (Nat.le_refl _) _
  have hb1 := hb0.alloc hb0.size (.cells (evv [] 0 (.slice none 0 0)) 26)
  have hR1 : ((w.alloc (.cells (evv tp vr (.slice fa fs.length fc)) 26)).alloc (.cells (evv [] 0 (.slice none 0 0)) 26)).heap[w.heap.size + 1]? = some (.cells (evv [] 0 (.slice none 0 0)) 26 (0, 0)) := by
    have := heap_alloc_new (w.alloc (.cells (evv tp vr (.slice fa fs.length fc)) 26)) (.cells (evv [] 0 (.slice none 0 0)) 26)
    rwa [show (w.alloc (.cells (evv tp vr (.slice fa fs.length fc)) 26)).heap.size = w.heap.size + 1 by simp] at this
  have hB1 : ((w.alloc (.cells (evv tp vr (.slice fa fs.length fc)) 26)).alloc (.cells (evv [] 0 (.slice none 0 0)) 26)).heap[w.heap.size]? = some (.cells (evv tp vr (.slice fa fs.length fc)) 26 (0, 0)) :=
    (((Below.refl (w.alloc (.cells (evv tp vr (.slice fa fs.length fc)) 26)).heap.size _).alloc (Nat.le_refl _) (.cells (evv [] 0 (.slice none 0 0)) 26)).block w.heap.size (by simp)).trans (heap_alloc_new _ _)
  obtain ⟨w1, hw1⟩ : ∃ w1, w1 = (w.alloc (.cells (evv tp vr (.slice fa fs.length fc)) 26)).alloc (.cells (evv [] 0 (.slice none 0 0)) 26) := ⟨_, rfl⟩
  have HW1 := hide hw1
  rw [← hw1] at hb1 hR1 hB1
  obtain ⟨B, hB⟩ : ∃ B, B = w.heap.size := ⟨_, rfl⟩
  obtain ⟨R, hR⟩ : ∃ R, R = w.heap.size + 1 := ⟨_, rfl⟩
  have HBe := hide hB
  have HRe := hide hR
  rw [← hB] at hB1
  rw [← hR] at hR1
  have HB1 := hide hb1
  have HBox := hide hB1
  have HRes := hide hR1
  have HGe : Hid (w.heap.size ≤ B ∧ w.heap.size ≤ R ∧ R ≠ B) := hide (by omega)
  have HV := hide hv
  have HFit := hide hfit
  have HVa := hide hva
  have HF := hide hf
  have HFf := hide hff
  have HFi := hide (firsts_any a us.length c us w1 (hv.below hb1 (Nat.le_refl _)) hfit hlen)
  have HCl : Hid (∀ W, Below w.heap.size w W → Calls Tryd.prog 19 #[.slice fa fs.length fc] W fun e w' => ∃ v, e = .returned v ∧ FOwn w' W.heap.size v fs ∧ Below W.heap.size W w') := hide (fun W hW => Clone_fld fa fc fs W (hf.below hW (Nat.le_refl _)) (by omega))
  obtain ⟨N, hN⟩ : ∃ N, N = us.length := ⟨_, rfl⟩
  have HN := hide hN
  rw [← hN] at HFi hl1 hlen ⊢
  have HVr := hide hvr
  have HT : Hid (∀ ver, I64 ver → okKey tp ver) := hide (fun ver h => ⟨htp, h⟩)
  obtain ⟨nf, hnf⟩ : ∃ nf, nf = fs.length := ⟨_, rfl⟩
  have HNf := hide hnf
  rw [← hnf] at HCl hcl ⊢
  rw [← hnf] at HBox
  clear hb0 hb1 hR1 hB1 hw1 hB hR hv hfit hva hf hff hN hvr hnf
  go_enter Tryd.func8, Tryd.ntmps8
  go_upto_region 1 with fail
  rw [show (w.alloc (.cells (evv tp vr (.slice fa nf fc)) 26)).alloc (.cells #[Value.string ⟨#[]⟩, .int .i64 0, .slice none 0 0] 26) = w1 by rw [unhide HW1, unhide HNf]]
  rw [← unhide HRe, ← unhide HBe]
  go_wp2_with (first | (go_at_call 17; refine (unhide HFi).mono ?_; rintro e w2 ⟨m, rfl, f2⟩; have HF2 := hide f2; clear f2) | (go_at_call 18; refine (newChanges_any w2).mono ?_; rintro e w3 ⟨mp, rfl, c3, g3, b3⟩; have HC3 := hide c3; have HB3 := hide b3; have hb13 := (unhide HF2).bel.trans (b3.mono (unhide HF2).bel.size); have HB03 := hide ((unhide HB1).trans (hb13.mono (unhide HB1).size)); have x2 := cell2 ((hb13.block B (lt_of_block (unhide HBox))).trans (unhide HBox)); have HBx3 := hide ((hb13.block B (lt_of_block (unhide HBox))).trans (unhide HBox)); clear c3 g3 b3 hb13) | (go_at_call 19; refine (unhide HCl _ (unhide HB03)).mono ?_; rintro e w4 ⟨v4, rfl, o4, b4⟩; obtain ⟨va4, vc4, rfl, -⟩ := o4.fdn; have HA := hide (ap_start (L := L) (unhide HB1) (unhide HBox) (unhide HRes) (unhide HGe).1 (unhide HGe).2.1 (unhide HGe).2.2 (unhide HF2) (unhide HC3) (unhide HB3) o4 b4 hL (unhide HFf)); have hbx4 := (b4.block B (lt_of_block (unhide HBx3))).trans (unhide HBx3); have y2 := cell2 hbx4; have yf := frz2 hbx4; clear o4 b4 hbx4))
  clear x2 y2 yf
  go_loopw [7, 8, 10, 11, 12] (fun _ _ _ _ _ wr => ∃ (k : Nat) (ver : Int) (v : Value) (cur : List Fld), Hid (Stp us tp vr fs k cur) ∧ Hid (ver = verN vr k) ∧ Hid (ApSt w wr B R m mp us tp ver v cur L)) (fun _ _ _ _ _ wr => restA wr B vr N)
  case atStart => exact ⟨0, vr, _, fs, hide (Stp.start (unhide HVr).1 (unhide HVr).2), hide (verN_zero (unhide HVr).1 (unhide HVr).2).symm, HA⟩
  case round =>
    obtain ⟨k, ver, v, cur, HSp, HVe, HAp⟩ := hrel
    obtain ⟨va, vc, rfl, -⟩ := (unhide HAp).own.fdn
    clear HA HFi HCl HF2 HC3 HB3 HB03 HBx3 HB1 HBox HRes HW1
    have hi64 : I64 ver := by rw [unhide HVe]; exact verN_range vr k
    have hok := unhide HT ver hi64
    obtain ⟨x0, x1, x2, xf⟩ := (unhide HAp).cells
    have lk := (unhide HAp).fm.look hok
    obtain ⟨q, hq⟩ : ∃ q, q = idxU us tp ver := ⟨_, rfl⟩
    rw [← hq] at lk
    cases hh : hasU us tp ver with
    | false =>
      have hfn : findU us tp ver = none := by
        have := hasU_find us tp ver
        rw [hh] at this
        cases hc : findU us tp ver with
        | none => rfl
        | some _ => rw [hc] at this; cases this
      have HE := hide ((unhide HSp).ends (by rw [← unhide HVe]; exact hfn))
      rw [← unhide HVe] at HE
      rw [hh] at lk
      obtain ⟨y0, y1, y2, yf⟩ := (unhide HAp).resc
      have HO := hide (unhide HAp).out
      have HLf := hide (show cur.length ≤ L ∧ ∀ f ∈ cur, fits f from ⟨(unhide HAp).len, (unhide HAp).fit⟩)
      rw [unhide HE]
      clear hq hh hfn hi64 hok
      go_wp2_with fail
      exact bodyPost_ret (results_cell_row rfl _ _ R 26 (evv tp ver (.slice va cur.length vc)) (0, 0) _ rfl (unhide HO).1 Tryd.underlying26 rfl sizeEvent) rfl ⟨_, rfl, (unhide HO).2.1, (unhide HLf).1, (unhide HLf).2, (unhide HO).2.2⟩
    | true =>
      obtain ⟨⟨ut, uf, chs⟩, hui, hfu, -⟩ := idxU_at hh
      rw [← hq] at hui
      rw [hh] at lk
      have HNs := hide ((unhide HSp).next (by have := unhide HN; omega) (by rw [← unhide HVe]; exact hfu))
      simp only at HNs
      have hqN : q < N := by have := unhide HN; have := (List.getElem?_eq_some_iff.1 hui).1; omega
      have hqi : ¬ ((q : Int) < 0) := by omega
      obtain ⟨b, off, rfl, hat⟩ := (unhide HV).at hui
      obtain ⟨-, -, ca, cc, d2, hch⟩ := hat
      simp only at d2 hch
      have d2' := cell_kept (unhide HAp).bel (Nat.le_refl _) d2
      have HCh := hide hch
      have hcln := hch.len
      have HCf := hide (unhide HFit _ (List.mem_of_getElem? hui)).2.2
      simp only at HCf
      obtain ⟨M, hM⟩ : ∃ M, M = chs.length := ⟨_, rfl⟩
      have HM := hide hM
      rw [← hM] at d2' hcln
      have HK : Hid (k < 1000000000000000000) := hide (by have := (unhide HSp).le; have := unhide HN; omega)
      clear hq hh hfu hui d2 hch hM
      have hcl2 := hcln.2
      clear hcln
      go_wp2_with fail
      rename World => W0
      go_loopw [10, 11, 12, 39] (fun _ _ _ j wr => ∃ (i : Nat) (v2 : Value) (cur2 : List Fld), i ≤ M ∧ j = .int .i64 i ∧ Hid (cur2 = (chs.take i).foldl doC cur) ∧ Hid (ApSt w wr B R m mp us tp ver v2 cur2 L)) (fun _ _ _ j _ => M - (intOf j).toNat)
      case atStart => exact ⟨0, _, cur, by omega, rfl, hide rfl, HAp⟩
      case round =>
        obtain ⟨i, v2, cur2, hi, rfl, HCu, HA2⟩ := hrel
        obtain ⟨va2, vc2, rfl, -⟩ := (unhide HA2).own.fdn
        clear lk x0 x1 x2 xf d2'
        by_cases hlt : i < M
        · obtain ⟨⟨kd, cn, ct, ⟨fn, ft, fi, fss⟩⟩, hci⟩ : ∃ c, chs[i]? = some c := ⟨_, List.getElem?_eq_getElem (by have := unhide HM; omega)⟩
          have hfc := unhide HCf _ (List.mem_of_getElem? hci)
          have hkd : I64 kd := hfc.2.2.2.2.2
          have HFc := hide hfc
          obtain ⟨cb, coff, rfl, hcat⟩ := ((unhide HCh).below (unhide HA2).bel (Nat.le_refl _)).at hci
          obtain ⟨e0, e1, e2, e3, e4, e5, e6⟩ := hcat
          simp only at e0 e1 e2 e3 e4 e5 e6
          have HTs := hide (take_snocC hci cur)
          rw [← unhide HCu] at HTs
          have hsz := (unhide HA2).bel.size
          have hl2 : (cur2.length + 1) * 48 ≤ 140737488355328 := by have := (unhide HA2).len; omega
          clear hfc hci
          go_upto_region 9 with fail
          have hb6 : Below wr.heap.size wr (wr.alloc (.cells (cgv ⟨kd, cn, ct, ⟨fn, ft, fi, fss⟩⟩) 49)) := (Below.refl _ _).alloc (Nat.le_refl _) _
          have HX6 := hide (CBx.new wr ⟨kd, cn, ct, ⟨fn, ft, fi, fss⟩⟩)
          have HA6 := hide ((unhide HA2).grown hb6)
          obtain ⟨w6, hw6⟩ : ∃ w6, w6 = wr.alloc (.cells (cgv ⟨kd, cn, ct, ⟨fn, ft, fi, fss⟩⟩) 49) := ⟨_, rfl⟩
          rw [show wr.alloc (.cells #[Value.int .i64 kd, .string ⟨cn.toArray⟩, .string ⟨ct.toArray⟩, .string ⟨fn.toArray⟩, .bool ft, .int .i64 fi, .string ⟨fss.toArray⟩] 49) = w6 from hw6.symm]
          rw [← hw6] at HX6 HA6
          obtain ⟨p6, hp6⟩ : ∃ p6, p6 = wr.heap.size := ⟨_, rfl⟩
          rw [← hp6] at HX6 ⊢
          clear hb6 hw6 hp6 e0 e1 e2 e3 e4 e5 e6 hsz
          obtain ⟨z0, z1, z2, z3, z4, z5, z6⟩ := (unhide HX6).cells
          simp only at z0 z1 z2 z3 z4 z5 z6
          obtain ⟨x0, x1, x2, xf⟩ := (unhide HA6).cells
          have lk2 := (unhide HA6).ch.look hkd
          cases hk : isC kd with
          | false =>
            have HNx := hide ((unhide HTs).trans (doC_none (c := ⟨kd, cn, ct, ⟨fn, ft, fi, fss⟩⟩) hk))
            rw [hk] at lk2
            obtain ⟨fz, hfz⟩ : ∃ fz, fz = fnC kd := ⟨_, rfl⟩
            rw [← hfz] at lk2
            clear hk hfz
            go_wp2_with fail
            go_roundw
            case rel => exact ⟨i + 1, _, cur2, by omega, by go_num, hide (unhide HNx).symm, HA6⟩
            case measure => simp [intOf]; omega
          | true =>
            have HDl := hide (doC_len (c := ⟨kd, cn, ct, ⟨fn, ft, fi, fss⟩⟩) (unhide HA6).len h16)
            have HDf := hide (doC_fits (c := ⟨kd, cn, ct, ⟨fn, ft, fi, fss⟩⟩) (unhide HFc) (unhide HA6).fit)
            have HNx := hide (unhide HTs).symm
            rw [hk] at lk2
            rcases isC_some hk with rfl | rfl | rfl | rfl | rfl
            all_goals clear hk
            · rw [show fnC 1 = fnV 30 from rfl] at lk2
              have HDo := hide ((do_any ⟨1, cn, ct, ⟨fn, ft, fi, fss⟩⟩ cur2 _ w.heap.size w6 (unhide HA6).own (unhide HA6).bel.size hl2 (unhide HA6).fit ((unhide HVa).below (unhide HA6).bel (Nat.le_refl _))).1 rfl)
              go_wp2_with (go_at_call 30; refine (unhide HDo).mono ?_; rintro e w7 ⟨v7, rfl, o7, b7⟩; obtain ⟨va7, vc7, rfl, -⟩ := o7.fdn; have HA7 := hide ((unhide HA6).setF b7 o7 (unhide HDl) (unhide HDf)); obtain ⟨u0, u1, u2, uf⟩ := ((unhide HA6).grown b7).cells; clear b7 o7)
              go_roundw
              case rel => exact ⟨i + 1, _, doC cur2 ⟨1, cn, ct, ⟨fn, ft, fi, fss⟩⟩, by omega, by go_num, HNx, HA7⟩
              case measure => simp [intOf]; omega
            · rw [show fnC 2 = fnV 31 from rfl] at lk2
              have HDo := hide ((do_any ⟨2, cn, ct, ⟨fn, ft, fi, fss⟩⟩ cur2 _ w.heap.size w6 (unhide HA6).own (unhide HA6).bel.size hl2 (unhide HA6).fit ((unhide HVa).below (unhide HA6).bel (Nat.le_refl _))).2.1 rfl)
              go_wp2_with (go_at_call 31; refine (unhide HDo).mono ?_; rintro e w7 ⟨v7, rfl, o7, b7⟩; obtain ⟨va7, vc7, rfl, -⟩ := o7.fdn; have HA7 := hide ((unhide HA6).setF b7 o7 (unhide HDl) (unhide HDf)); obtain ⟨u0, u1, u2, uf⟩ := ((unhide HA6).grown b7).cells; clear b7 o7)
              go_roundw
              case rel => exact ⟨i + 1, _, doC cur2 ⟨2, cn, ct, ⟨fn, ft, fi, fss⟩⟩, by omega, by go_num, HNx, HA7⟩
              case measure => simp [intOf]; omega
            · rw [show fnC 3 = fnV 33 from rfl] at lk2
              have HDo := hide ((do_any ⟨3, cn, ct, ⟨fn, ft, fi, fss⟩⟩ cur2 _ w.heap.size w6 (unhide HA6).own (unhide HA6).bel.size hl2 (unhide HA6).fit ((unhide HVa).below (unhide HA6).bel (Nat.le_refl _))).2.2.1 rfl)
              go_wp2_with (go_at_call 33; refine (unhide HDo).mono ?_; rintro e w7 ⟨v7, rfl, o7, b7⟩; obtain ⟨va7, vc7, rfl, -⟩ := o7.fdn; have HA7 := hide ((unhide HA6).setF b7 o7 (unhide HDl) (unhide HDf)); obtain ⟨u0, u1, u2, uf⟩ := ((unhide HA6).grown b7).cells; clear b7 o7)
              go_roundw
              case rel => exact ⟨i + 1, _, doC cur2 ⟨3, cn, ct, ⟨fn, ft, fi, fss⟩⟩, by omega, by go_num, HNx, HA7⟩
              case measure => simp [intOf]; omega
            · rw [show fnC 4 = fnV 34 from rfl] at lk2
              have HDo := hide ((do_any ⟨4, cn, ct, ⟨fn, ft, fi, fss⟩⟩ cur2 _ w.heap.size w6 (unhide HA6).own (unhide HA6).bel.size hl2 (unhide HA6).fit ((unhide HVa).below (unhide HA6).bel (Nat.le_refl _))).2.2.2.1 rfl)
              go_wp2_with (go_at_call 34; refine (unhide HDo).mono ?_; rintro e w7 ⟨v7, rfl, o7, b7⟩; obtain ⟨va7, vc7, rfl, -⟩ := o7.fdn; have HA7 := hide ((unhide HA6).setF b7 o7 (unhide HDl) (unhide HDf)); obtain ⟨u0, u1, u2, uf⟩ := ((unhide HA6).grown b7).cells; clear b7 o7)
              go_roundw
              case rel => exact ⟨i + 1, _, doC cur2 ⟨4, cn, ct, ⟨fn, ft, fi, fss⟩⟩, by omega, by go_num, HNx, HA7⟩
              case measure => simp [intOf]; omega
            · rw [show fnC 5 = fnV 35 from rfl] at lk2
              have HDo := hide ((do_any ⟨5, cn, ct, ⟨fn, ft, fi, fss⟩⟩ cur2 _ w.heap.size w6 (unhide HA6).own (unhide HA6).bel.size hl2 (unhide HA6).fit ((unhide HVa).below (unhide HA6).bel (Nat.le_refl _))).2.2.2.2 rfl)
              go_wp2_with (go_at_call 35; refine (unhide HDo).mono ?_; rintro e w7 ⟨v7, rfl, o7, b7⟩; obtain ⟨va7, vc7, rfl, -⟩ := o7.fdn; have HA7 := hide ((unhide HA6).setF b7 o7 (unhide HDl) (unhide HDf)); obtain ⟨u0, u1, u2, uf⟩ := ((unhide HA6).grown b7).cells; clear b7 o7)
              go_roundw
              case rel => exact ⟨i + 1, _, doC cur2 ⟨5, cn, ct, ⟨fn, ft, fi, fss⟩⟩, by omega, by go_num, HNx, HA7⟩
              case measure => simp [intOf]; omega
        · have hcm : cur2 = chs.foldl doC cur := by rw [unhide HCu, List.take_of_length_le (by have := unhide HM; omega)]
          rw [← hcm] at HNs
          obtain ⟨x0, x1, x2, xf⟩ := (unhide HA2).cells
          obtain ⟨ver2, hw⟩ : ∃ ver2, IntKind.i64.wrap (ver + 1) = ver2 := ⟨_, rfl⟩
          have HV2 : Hid (ver2 = verN vr (k + 1)) := hide (by rw [← hw, ← verN_next, ← unhide HVe]; rfl)
          have HA8 := hide ((unhide HA2).setV ver2)
          have HM1 := hide (restA_eq (unhide HAp) (unhide HK) (unhide HVr) (unhide HVe) N)
          have HM2 := hide (restA_eq (unhide HA8) (k := k + 1) (by have := (unhide HNs).le; have := unhide HN; omega) (unhide HVr) (unhide HV2) N)
          clear hcm
          go_wp2_with fail
          go_roundw
          case rel => exact ⟨k + 1, ver2, _, cur2, HNs, HV2, HA8⟩
          case measure => rw [unhide HM1, unhide HM2]; have := (unhide HNs).le; have := unhide HN; omega
end Go.Proofs.YtfgjbmpbailebaaDoor
