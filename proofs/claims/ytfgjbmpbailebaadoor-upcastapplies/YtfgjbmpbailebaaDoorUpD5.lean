/-
  DERIVED. The document's Apply.
-/
import Derived.Test.YtfgjbmpbailebaaDoorUpV
import Derived.Test.YtfgjbmpbailebaaDoorUpD2
import Derived.Deep.RegionLaw
namespace Go.Proofs.YtfgjbmpbailebaaDoor
open Go.RowKit Go.Maps
set_option linter.unusedVariables false

/-- Where the document's Apply stands: its event at q, its result at R. -/
structure BpSt (w0 w : World) (q R : Nat) (tp : List UInt8) (ver : Int) (v : Value) (cur : List Fld) (L : Nat) : Prop where
  bel : Below w0.heap.size w0 w
  box : w.heap[q]? = some (.cells (evv tp ver v) 26 (0, 0))
  res : w.heap[R]? = some (.cells (evv [] 0 (.slice none 0 0)) 26 (0, 0))
  geq : w0.heap.size ≤ q
  geR : w0.heap.size ≤ R
  ne : R ≠ q
  own : FOwn w w0.heap.size v cur
  len : cur.length ≤ L
  fit : ∀ f ∈ cur, fits f
theorem BpSt.grown {w0 w w' : World} {q R : Nat} {tp : List UInt8} {ver : Int} {v : Value} {cur : List Fld} {L : Nat} (h : BpSt w0 w q R tp ver v cur L) (hb : Below w.heap.size w w') : BpSt w0 w' q R tp ver v cur L :=
  ⟨h.bel.trans (hb.mono h.bel.size), (hb.block q (lt_of_block h.box)).trans h.box, (hb.block R (lt_of_block h.res)).trans h.res, h.geq, h.geR, h.ne, h.own.below hb (Nat.le_refl _), h.len, h.fit⟩
theorem BpSt.cells {w0 w : World} {q R : Nat} {tp : List UInt8} {ver : Int} {v : Value} {cur : List Fld} {L : Nat} (h : BpSt w0 w q R tp ver v cur L) : w.cell? ⟨q, 0, none⟩ = some (sv tp) ∧ w.cell? ⟨q, 1, none⟩ = some (.int .i64 ver) ∧ w.cell? ⟨q, 2, none⟩ = some v ∧ (∀ i, w.frozen? ⟨q, i, none⟩ = false) :=
  ⟨(cell_of_row _ _ _ _ _ _ h.box).trans rfl, (cell_of_row _ _ _ _ _ _ h.box).trans rfl, (cell_of_row _ _ _ _ _ _ h.box).trans rfl, fun i => by simp [World.frozen?, h.box]⟩
theorem BpSt.resc {w0 w : World} {q R : Nat} {tp : List UInt8} {ver : Int} {v : Value} {cur : List Fld} {L : Nat} (h : BpSt w0 w q R tp ver v cur L) : w.cell? ⟨R, 0, none⟩ = some (sv []) ∧ w.cell? ⟨R, 1, none⟩ = some (.int .i64 0) ∧ w.cell? ⟨R, 2, none⟩ = some (.slice none 0 0) ∧ (∀ i, w.frozen? ⟨R, i, none⟩ = false) :=
  ⟨(cell_of_row _ _ _ _ _ _ h.res).trans rfl, (cell_of_row _ _ _ _ _ _ h.res).trans rfl, (cell_of_row _ _ _ _ _ _ h.res).trans rfl, fun i => by simp [World.frozen?, h.res]⟩
theorem BpSt.setF {w0 w w' : World} {q R : Nat} {tp : List UInt8} {ver : Int} {v v' : Value} {cur cur' : List Fld} {L : Nat} (h : BpSt w0 w q R tp ver v cur L) (hb : Below w.heap.size w w') (ho : FOwn w' w0.heap.size v' cur') (hl : cur'.length ≤ L) (hf : ∀ f ∈ cur', fits f) :
    BpSt w0 (w'.setCell ⟨q, 2, none⟩ v') q R tp ver v' cur' L := by
  have g := h.grown hb
  refine ⟨g.bel.setCell (p := ⟨q, 2, none⟩) g.geq _, ?_, ?_, g.geq, g.geR, g.ne, ?_, hl, hf⟩
  · exact heap_setCell_same w' q 2 _ _ v' g.box
  · exact (Below.heap_setCell w' ⟨q, 2, none⟩ v' R g.ne).trans g.res
  · exact ownsRow_setCell_other ho (a := ⟨q, 2, none⟩) (ho.notEv g.box (by decide)) v'
theorem BpSt.setV {w0 w : World} {q R : Nat} {tp : List UInt8} {ver : Int} {v : Value} {cur : List Fld} {L : Nat} (g : BpSt w0 w q R tp ver v cur L) (ver' : Int) :
    BpSt w0 (w.setCell ⟨q, 1, none⟩ (.int .i64 ver')) q R tp ver' v cur L := by
  refine ⟨g.bel.setCell (p := ⟨q, 1, none⟩) g.geq _, ?_, ?_, g.geq, g.geR, g.ne, ?_, g.len, g.fit⟩
  · exact heap_setCell_same w q 1 _ _ (.int .i64 ver') g.box
  · exact (Below.heap_setCell w ⟨q, 1, none⟩ (.int .i64 ver') R g.ne).trans g.res
  · exact ownsRow_setCell_other g.own (a := ⟨q, 1, none⟩) (g.own.notEv g.box (by decide)) _
theorem BpSt.out {w0 w : World} {q R : Nat} {tp : List UInt8} {ver : Int} {v : Value} {cur : List Fld} {L : Nat} (h : BpSt w0 w q R tp ver v cur L) :
    (put3 w R (sv tp) (.int .i64 ver) v).heap[R]? = some (.cells (evv tp ver v) 26 (0, 0)) ∧ FOwn (put3 w R (sv tp) (.int .i64 ver) v) w0.heap.size v cur ∧ Below w0.heap.size w0 (put3 w R (sv tp) (.int .i64 ver) v) := by
  have e1 := heap_setCell_same w R 0 _ _ (sv tp) h.res
  have e2 := heap_setCell_same _ R 1 _ _ (.int .i64 ver) e1
  have e3 := heap_setCell_same _ R 2 _ _ v e2
  have hn := h.own.notEv h.res (by decide)
  refine ⟨e3, ?_, ?_⟩
  · exact ownsRow_setCell_other (ownsRow_setCell_other (ownsRow_setCell_other h.own (a := ⟨R, 0, none⟩) hn _) (a := ⟨R, 1, none⟩) hn _) (a := ⟨R, 2, none⟩) hn _
  · exact ((h.bel.setCell (p := ⟨R, 0, none⟩) h.geR _).setCell (p := ⟨R, 1, none⟩) h.geR _).setCell (p := ⟨R, 2, none⟩) h.geR _

set_option maxRecDepth 10000 in
set_option maxHeartbeats 16000000 in
theorem rvApply_any (a : Option Addr) (n c : Nat) (us : List Upc) (tp : List UInt8) (vr : Int) (fa : Option Addr) (fc : Nat) (fs : List Fld) (L : Nat) (w : World) (hv : UpL w (.slice a n c) us) (hfit : ∀ u ∈ us, fitU u) (hlen : us.length < 100000000000000000)
    (hf : FdN w fa fc fs) (hff : ∀ f ∈ fs, fits f) (hL : fs.length ≤ L) (h16 : 16 ≤ L) (hL2 : (L + 1) * 48 ≤ 140737488355328) (hvr : I64 vr) (hva : Vars w) :
    Calls Tryd.prog 9 #[.slice a n c, .agg (evv tp vr (.slice fa fs.length fc))] w (ApPost w tp (applyU us tp vr fs) L) := by
  obtain ⟨rfl, hl1, hl2⟩ := hv.len
  have hcl := fdn_len hf
  have hb0 : Below w.heap.size w (w.alloc (.cells (evv tp vr (.slice fa fs.length fc)) 26)) := (Below.refl _ _).alloc (Nat.le_refl _) _
  have hb1 := hb0.alloc hb0.size (.cells (evv [] 0 (.slice none 0 0)) 26)
  have hR1 : ((w.alloc (.cells (evv tp vr (.slice fa fs.length fc)) 26)).alloc (.cells (evv [] 0 (.slice none 0 0)) 26)).heap[w.heap.size + 1]? = some (.cells (evv [] 0 (.slice none 0 0)) 26 (0, 0)) := push2_last _ _ _ _ rfl
  have hB1 : ((w.alloc (.cells (evv tp vr (.slice fa fs.length fc)) 26)).alloc (.cells (evv [] 0 (.slice none 0 0)) 26)).heap[w.heap.size]? = some (.cells (evv tp vr (.slice fa fs.length fc)) 26 (0, 0)) := push2_first _ _ _
  obtain ⟨w1, hw1⟩ : ∃ w1, w1 = (w.alloc (.cells (evv tp vr (.slice fa fs.length fc)) 26)).alloc (.cells (evv [] 0 (.slice none 0 0)) 26) := ⟨_, rfl⟩
  have HW1 := hide hw1
  rw [← hw1] at hb1 hR1 hB1
  obtain ⟨B, hB⟩ : ∃ B, B = w.heap.size := ⟨_, rfl⟩
  obtain ⟨R, hR⟩ : ∃ R, R = w.heap.size + 1 := ⟨_, rfl⟩
  have HBe := hide hB
  have HRe := hide hR
  rw [← hB] at hB1
  rw [← hR] at hR1
  have HB1 := hide hb1
  have HBox : Hid (EBx w1 B tp vr (.slice fa fs.length fc)) := hide hB1
  have HRes := hide hR1
  have HGe : Hid (w.heap.size ≤ B ∧ w.heap.size ≤ R ∧ R ≠ B) := hide (by omega)
  have HV := hide hv
  have HFit := hide hfit
  have HVa := hide hva
  have HF1 := hide (hf.below hb1 (Nat.le_refl _))
  have HFf := hide hff
  have HFd : Hid (∀ ver W, Below w.heap.size w W → Calls Tryd.prog 20 #[.slice a us.length c, sv tp, .int .i64 ver] W fun e w' => e = .returned (.int .i64 (fndU us tp ver)) ∧ W = w') := hide (fun ver W hW => rvfind_any a us.length c us tp ver W (hv.below hW (Nat.le_refl _)) hlen)
  obtain ⟨N, hN⟩ : ∃ N, N = us.length := ⟨_, rfl⟩
  have HN := hide hN
  rw [← hN] at HFd hl1 hlen ⊢
  have HVr := hide hvr
  obtain ⟨nf, hnf⟩ : ∃ nf, nf = fs.length := ⟨_, rfl⟩
  have HNf := hide hnf
  rw [← hnf] at hcl HBox ⊢
  have hlf : fs.length * 48 ≤ 140737488355328 := by omega
  clear hb0 hb1 hR1 hB1 hw1 hB hR hv hfit hva hf hff hN hvr hnf
  go_enter Tryd.func9, Tryd.ntmps9
  go_upto_region 1 with fail
  rw [show (w.alloc (.cells (evv tp vr (.slice fa nf fc)) 26)).alloc (.cells #[Value.string ⟨#[]⟩, .int .i64 0, .slice none 0 0] 26) = w1 by rw [unhide HW1, unhide HNf]]
  rw [← unhide HRe, ← unhide HBe]
  have hs0 : w1.cell? ⟨B, 0, none⟩ = some (sv tp) ∧ w1.cell? ⟨B, 1, none⟩ = some (.int .i64 vr) ∧ w1.cell? ⟨B, 2, none⟩ = some (.slice fa nf fc) := (unhide HBox).cells
  have HSE : Hid (∀ W, Below w1.heap.size w1 W → W.cell? ⟨B, 0, none⟩ = some (sv tp) ∧ W.cell? ⟨B, 1, none⟩ = some (.int .i64 vr) ∧ W.cell? ⟨B, 2, none⟩ = some (.slice fa nf fc)) := hide (fun W hW => SE.below (x := .slice fa nf fc) hs0 hW (Nat.le_refl _))
  have HS0 := hide hs0
  have SD := hide (unhide HSE _ (Below.refl _ _).drew)
  have R1 := hide (rd1 (unhide HF1))
  have R2 := hide (rd2 (unhide HF1))
  have R3 := hide (rd3 (unhide HF1))
  have SA := hide (unhide HSE _ (unhide R1).bel)
  have SAB := hide (unhide HSE _ (unhide R2).bel)
  have SBA := hide (unhide HSE _ (unhide R3).bel)
  have SB := hide (unhide HSE _ ((Below.refl w1.heap.size w1).alloc (Nat.le_refl _) (.cells ev0 26)).drew)
  have X2 := hide (bx2 w1)
  have X3 := hide (bx3 w1)
  have hBl := (unhide HBox).lt
  have z1 : w1.heap.size ≤ w1.heap.size + 1 := by omega
  go_cut [5] from 9 to 59 (fun t5 wx => OutR w1 tp vr fs t5 wx)
  case first =>
    clear hs0
    go_region_held3 (fun w' => w'.cell? ⟨B, 0, none⟩ = some (sv tp) ∧ w'.cell? ⟨B, 1, none⟩ = some (.int .i64 vr) ∧ w'.cell? ⟨B, 2, none⟩ = some (.slice fa nf fc))
      (first | with_reducible exact unhide HS0 | with_reducible exact unhide SD | with_reducible exact unhide SA | with_reducible exact unhide SB | with_reducible exact unhide SAB | with_reducible exact unhide SBA | with_reducible exact unhide S1 | with_reducible exact keepE (unhide S1) | with_reducible exact keepE (unhide HS0) | with_reducible exact keepE (keepE (unhide HS0)) | with_reducible exact keepE (unhide SD) | with_reducible exact keepE (keepE (unhide SD)) | with_reducible exact keepE (by assumption) | with_reducible exact keepE3 (by simp <;> omega) (unhide S1) | with_reducible exact keepE3 (by simp <;> omega) (by assumption))
      ((first
        | (refine step_append_ev rfl (.tmp 13) (.tmp 15) rfl w1 _ rfl fa nf fc fs (unhide HNf) rfl (unhide R1) hlf ?_; intro v5 w5 dn; obtain ⟨va5, vc5, rfl, -⟩ := dn.own.fdn; have HDn := hide dn; have S1 := hide (unhide HSE w5 dn.bel); have z5 := dn.bel.size; clear dn)
        | (refine step_append_ev rfl (.tmp 13) (.tmp 15) rfl w1 _ rfl fa nf fc fs (unhide HNf) rfl (unhide R2) hlf ?_; intro v5 w5 dn; obtain ⟨va5, vc5, rfl, -⟩ := dn.own.fdn; obtain ⟨m0, m1, m2, mf⟩ := dn.cells (unhide X2); have HDn := hide dn; have S1 := hide (unhide HSE w5 dn.bel); have z5 := dn.bel.size; clear dn)
        | (refine step_append_ev rfl (.tmp 13) (.tmp 15) rfl w1 _ rfl fa nf fc fs (unhide HNf) rfl (unhide R3) hlf ?_; intro v5 w5 dn; obtain ⟨va5, vc5, rfl, -⟩ := dn.own.fdn; obtain ⟨m0, m1, m2, mf⟩ := dn.cells (unhide X3); have HDn := hide dn; have S1 := hide (unhide HSE w5 dn.bel); have z5 := dn.bel.size; clear dn)))
    · go_wp2
      go_meet
      exact OutR.new (unhide HDn)
    · go_wp2
      go_meet
      exact OutR.put (unhide HDn) (unhide X2) (by omega)
    · go_wp2
      go_meet
      exact OutR.put (unhide HDn) (unhide X3) (by omega)
  case rest =>
    obtain ⟨q, v, rfl, hbx, hown, hbel, hge⟩ := hcut
    have HA0 : Hid (BpSt w wc q R tp vr v fs L) := hide ⟨(unhide HB1).trans (hbel.mono (unhide HB1).size), hbx, (hbel.block R (lt_of_block (unhide HRes))).trans (unhide HRes), Nat.le_trans (unhide HB1).size hge, (unhide HGe).2.1, by have := lt_of_block (unhide HRes); omega, hown.mono (unhide HB1).size, hL, unhide HFf⟩
    clear hs0 HSE HS0 SD R1 R2 R3 SA SAB SBA SB X2 X3 hBl z1 hbx hown hbel hge HF1
    go_wp2_with fail
    go_loopw [6, 7, 8] (fun x _ _ wr => ∃ (k : Nat) (ver : Int) (v : Value) (cur : List Fld), k ≤ N ∧ x = .int .i64 k ∧ Hid (Stp us tp vr fs k cur) ∧ Hid (ver = verN vr k) ∧ Hid (BpSt w wr q R tp ver v cur L)) (fun x _ _ _ => N + 1 - (intOf x).toNat)
    case atStart => exact ⟨0, vr, _, fs, by omega, rfl, hide (Stp.start (unhide HVr).1 (unhide HVr).2), hide (verN_zero (unhide HVr).1 (unhide HVr).2).symm, HA0⟩
    case round =>
      obtain ⟨k, ver, v2, cur, hkN, rfl, HSp, HVe, HAp⟩ := hrel
      obtain ⟨va, vc, rfl, -⟩ := (unhide HAp).own.fdn
      clear HA0
      have hkN' : decide ((k : Int) ≤ (N : Int)) = true := decide_eq_true (by omega)
      obtain ⟨x0, x1, x2, xf⟩ := (unhide HAp).cells
      have HFk := hide (unhide HFd ver wr (unhide HAp).bel)
      cases hh : hasU us tp ver with
      | false =>
        have hfn : findU us tp ver = none := by
          have := hasU_find us tp ver
          rw [hh] at this
          cases hc : findU us tp ver with
          | none => rfl
          | some _ => rw [hc] at this; cases this
        have HE := hide ((unhide HSp).ends (by rw [← unhide HVe]; exact hfn))
        rw [← unhide HVe] at HE
        rw [fndU_neg hh] at HFk
        obtain ⟨y0, y1, y2, yf⟩ := (unhide HAp).resc
        have HO := hide (unhide HAp).out
        have HLf := hide (show cur.length ≤ L ∧ ∀ f ∈ cur, fits f from ⟨(unhide HAp).len, (unhide HAp).fit⟩)
        clear hh hfn
        go_wp2_with (go_at_call 20; refine (unhide HFk).mono ?_; rintro e w' ⟨rfl, rfl⟩)
        exact bodyPost_ret (results_cell_row rfl _ _ R 26 (evv tp ver (.slice va cur.length vc)) (0, 0) _ rfl (unhide HO).1 Tryd.underlying26 rfl sizeEvent) rfl ⟨_, by rw [unhide HE], by rw [unhide HE]; exact (unhide HO).2.1, by rw [unhide HE]; exact (unhide HLf).1, by rw [unhide HE]; exact (unhide HLf).2, (unhide HO).2.2⟩
      | true =>
        obtain ⟨⟨ut, uf, chs⟩, hui, hfu, -⟩ := idxU_at hh
        rw [fndU_pos hh] at HFk
        obtain ⟨qi, hqi⟩ : ∃ qi, qi = idxU us tp ver := ⟨_, rfl⟩
        rw [← hqi] at HFk hui
        have HNs := hide ((unhide HSp).next (by have := unhide HN; omega) (by rw [← unhide HVe]; exact hfu))
        simp only at HNs
        have hqN : qi < N := by have := unhide HN; have := (List.getElem?_eq_some_iff.1 hui).1; omega
        obtain ⟨b, off, rfl, hat⟩ := (unhide HV).at hui
        obtain ⟨-, -, ca, cc, d2, hch⟩ := hat
        simp only at d2 hch
        have HD2 := hide d2
        have HCh := hide hch
        have hcln := hch.len.2
        have HCf := hide (unhide HFit _ (List.mem_of_getElem? hui)).2.2
        simp only at HCf
        obtain ⟨M, hM⟩ : ∃ M, M = chs.length := ⟨_, rfl⟩
        have HM := hide hM
        rw [← hM] at HD2 hcln
        clear hqi hh hfu hui d2 hch hM
        go_wp2_with (go_at_call 20; refine (unhide HFk).mono ?_; rintro e w' ⟨rfl, rfl⟩)
        go_loopw [8] (fun j W => ∃ (i : Nat) (v2 : Value) (cur2 : List Fld), i ≤ M ∧ j = .int .i64 i ∧ Hid (cur2 = (chs.take i).foldl doC cur) ∧ Hid (BpSt w W q R tp ver v2 cur2 L)) (fun j _ => M - (intOf j).toNat)
        case atStart => exact ⟨0, _, cur, by omega, rfl, hide rfl, HAp⟩
        case round =>
          obtain ⟨i, v2, cur2, hi, rfl, HCu, HA2⟩ := hrel
          obtain ⟨va2, vc2, rfl, -⟩ := (unhide HA2).own.fdn
          clear x0 x1 x2 xf
          have d2 := cell_kept (unhide HA2).bel (Nat.le_refl _) (unhide HD2)
          obtain ⟨x0, x1, x2, xf⟩ := (unhide HA2).cells
          by_cases hlt : i < M
          · obtain ⟨⟨kd, cn, ct, ⟨fn, ft, fi, fss⟩⟩, hci⟩ : ∃ c, chs[i]? = some c := ⟨_, List.getElem?_eq_getElem (by have := unhide HM; omega)⟩
            have hfc := unhide HCf _ (List.mem_of_getElem? hci)
            obtain ⟨cb, coff, rfl, hcat⟩ := ((unhide HCh).below (unhide HA2).bel (Nat.le_refl _)).at hci
            obtain ⟨e0, e1, e2, e3, e4, e5, e6⟩ := hcat
            simp only at e0 e1 e2 e3 e4 e5 e6
            have HTs := hide (take_snocC hci cur)
            rw [← unhide HCu] at HTs
            have HNx := hide (unhide HTs).symm
            have hl2 : (cur2.length + 1) * 48 ≤ 140737488355328 := by have := (unhide HA2).len; omega
            have HDl := hide (doC_len (c := ⟨kd, cn, ct, ⟨fn, ft, fi, fss⟩⟩) (unhide HA2).len h16)
            have HDf := hide (doC_fits (c := ⟨kd, cn, ct, ⟨fn, ft, fi, fss⟩⟩) hfc (unhide HA2).fit)
            have HA2' := hide ((unhide HA2).grown (Below.refl _ _).drew)
            have HDo := hide (rvdone_any ⟨kd, cn, ct, ⟨fn, ft, fi, fss⟩⟩ cur2 _ w.heap.size wr.drew (unhide HA2').own (unhide HA2').bel.size hl2 (unhide HA2').fit ((unhide HVa).below (unhide HA2').bel (Nat.le_refl _)))
            clear hfc hci HTs
            go_upto_region 11 with fail
            go_region_law (go_simp; go_at_call 21; refine (unhide HDo).mono ?_; rintro e w7 ⟨v7, rfl, o7, b7⟩; obtain ⟨va7, vc7, rfl, -⟩ := o7.fdn; have HA7 := hide ((unhide HA2').setF b7 o7 (unhide HDl) (unhide HDf)); obtain ⟨u0, u1, u2, uf⟩ := ((unhide HA2').grown b7).cells; clear b7 o7)
            all_goals
              go_wp2
              go_roundw
              case rel => exact ⟨i + 1, _, doC cur2 ⟨kd, cn, ct, ⟨fn, ft, fi, fss⟩⟩, by omega, by go_num, HNx, HA7⟩
              case measure => simp [intOf]; omega
          · have hcm : cur2 = chs.foldl doC cur := by rw [unhide HCu, List.take_of_length_le (by have := unhide HM; omega)]
            rw [← hcm] at HNs
            obtain ⟨ver2, hw⟩ : ∃ ver2, IntKind.i64.wrap (ver + 1) = ver2 := ⟨_, rfl⟩
            have HV2 : Hid (ver2 = verN vr (k + 1)) := hide (by rw [← hw, ← verN_next, ← unhide HVe]; rfl)
            have HA8 := hide ((unhide HA2).setV ver2)
            have hk2 : k + 1 ≤ N := by have := (unhide HNs).le; have := unhide HN; omega
            clear hcm
            go_wp2_with fail
            go_roundw
            case rel => exact ⟨k + 1, ver2, _, cur2, hk2, by go_num, HNs, HV2, HA8⟩
            case measure => simp [intOf]; omega
end Go.Proofs.YtfgjbmpbailebaaDoor
