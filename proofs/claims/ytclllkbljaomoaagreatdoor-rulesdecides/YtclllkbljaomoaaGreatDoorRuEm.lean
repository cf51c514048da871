/-
  DERIVED. The document's Fold.
-/
import Derived.Test.YtclllkbljaomoaaGreatDoorRuEl
import Derived.Test.YtclllkbljaomoaaGreatDoorRuY
import Derived.Test.YtclllkbljaomoaaGreatDoorShR9
import Derived.Test.YtclllkbljaomoaaGreatDoorShR7
namespace Go.Proofs.YtclllkbljaomoaaGreatDoor
open Go.RowKit
set_option linter.unusedVariables false

/-- A sum of an Assign: by the value and the error, plain. -/
theorem setR_two (st : List UInt8) (l m cur : List Fld) (nm : List UInt8) (x : Ex) : setR st l m cur ⟨nm, x⟩ = if errO (evalE st l m x) = 0 ∧ (setF cur ⟨nm, (valO (evalE st l m x)).text, (valO (evalE st l m x)).n, (valO (evalE st l m x)).s⟩).length ≤ 16 then setF cur ⟨nm, (valO (evalE st l m x)).text, (valO (evalE st l m x)).n, (valO (evalE st l m x)).s⟩ else cur := by
  cases h : evalE st l m x with
  | error n =>
    have hn := evalE_err h
    unfold setR
    simp only [h]
    rw [if_neg (fun q => hn q.1)]
  | ok f =>
    unfold setR
    simp only [h]
    by_cases h16 : (setF cur ⟨nm, f.text, f.n, f.s⟩).length ≤ 16
    · rw [if_pos h16, if_pos ⟨rfl, h16⟩]; rfl
    · rw [if_neg h16, if_neg (fun q => h16 q.2)]

theorem fold_none {vs : List Evo} {t : List UInt8} (h : ∀ v ∈ vs, v.type ≠ t) (st : List UInt8) (l m : List Fld) : foldR vs st l t m = l := by
  unfold foldR
  rw [List.find?_eq_none.2 (fun v hv => by simpa using h v hv)]
theorem fold_some {vs : List Evo} {t : List UInt8} {k : Nat} {v : Evo} (h : ∀ j, j < k → ∀ u, vs[j]? = some u → u.type ≠ t) (hk : vs[k]? = some v) (hv : v.type = t) (st : List UInt8) (l m : List Fld) : foldR vs st l t m = v.drops.foldl dropF (v.sets.foldl (setR st l m) l) := by
  obtain ⟨hl, rfl⟩ := List.getElem?_eq_some_iff.1 hk
  unfold foldR
  rw [List.find?_eq_some_iff_getElem.2 ⟨by simpa using hv, k, hl, rfl, fun j hj => by simpa using h j hj _ (List.getElem?_eq_getElem (by omega))⟩]

/-- What the statement 'f, e := Eval(..)' leaves. -/
theorem evlr_parts {w0 W : World} {F : Fld} {N : Int} {t6 t7 : Value} (h : EvlR w0 F N t6 t7 W) : ∃ q, t6 = .pointer (some ⟨q, 0, none⟩) ∧ t7 = .int .i64 N ∧ FBox W q F ∧ Below w0.heap.size w0 W ∧ w0.heap.size ≤ q := h

set_option maxRecDepth 20000 in
set_option maxHeartbeats 16000000 in
theorem rFold_any (ha : Option Addr) (hn hc : Nat) (va : Option Addr) (vn vc : Nat) (vs : List Evo) (st : List UInt8) (la : Option Addr) (lc : Nat) (l : List Fld) (t : List UInt8) (ver : Int) (ma : Option Addr) (mc : Nat) (m : List Fld) (w : World)
    (hv : SlOf 3 EvoAt w (.slice va vn vc) vs) (hl : FdN w la lc l) (hl16 : (l.length + 1) * 48 ≤ 140737488355328) (hm : FdL w (.slice ma m.length mc) m) (hst : st.length ≤ 140737488355328) (hfs : ∀ f ∈ l, small f) (hfg : ∀ f ∈ m, small f) (hva : Vars w) :
    Calls Tryz.prog 21 #[.agg (rulV ha hn hc va vn vc), sv st, .slice la l.length lc, .agg (evtV t ver ma m.length mc)] w fun e w' => ∃ v, e = .returned v ∧ FOwn w' w.heap.size v (foldR vs st l t m) ∧ Below w.heap.size w w' := by
  obtain ⟨rfl, hl1, hl2⟩ := hv.len
  have hb1 : Below w.heap.size w (w.alloc (.cells (rulV ha hn hc va vs.length vc) 26)) := (Below.refl _ _).alloc (Nat.le_refl _) _
  have hb2 : Below w.heap.size w ((w.alloc (.cells (rulV ha hn hc va vs.length vc) 26)).alloc (.cells (evtV t ver ma m.length mc) 50)) := hb1.alloc hb1.size _
  have hR2 : ((w.alloc (.cells (rulV ha hn hc va vs.length vc) 26)).alloc (.cells (evtV t ver ma m.length mc) 50)).heap[w.heap.size]? = some (.cells (rulV ha hn hc va vs.length vc) 26 (0, 0)) := by
    have h1 : (w.alloc (.cells (rulV ha hn hc va vs.length vc) 26)).heap[w.heap.size]? = some (.cells (rulV ha hn hc va vs.length vc) 26 (0, 0)) := heap_alloc_new _ _
    have h2 : Below (w.alloc (.cells (rulV ha hn hc va vs.length vc) 26)).heap.size (w.alloc (.cells (rulV ha hn hc va vs.length vc) 26)) ((w.alloc (.cells (rulV ha hn hc va vs.length vc) 26)).alloc (.cells (evtV t ver ma m.length mc) 50)) := (Below.refl _ _).alloc (Nat.le_refl _) _
    exact (h2.block _ (lt_of_block h1)).trans h1
  have hE2 : ((w.alloc (.cells (rulV ha hn hc va vs.length vc) 26)).alloc (.cells (evtV t ver ma m.length mc) 50)).heap[w.heap.size + 1]? = some (.cells (evtV t ver ma m.length mc) 50 (0, 0)) := by
    have := heap_alloc_new (w.alloc (.cells (rulV ha hn hc va vs.length vc) 26)) (.cells (evtV t ver ma m.length mc) 50 (0, 0))
    rw [show (w.alloc (.cells (rulV ha hn hc va vs.length vc) 26)).heap.size = w.heap.size + 1 by simp] at this
    exact this
  obtain ⟨w2, hw2⟩ : ∃ w2, w2 = (w.alloc (.cells (rulV ha hn hc va vs.length vc) 26)).alloc (.cells (evtV t ver ma m.length mc) 50) := ⟨_, rfl⟩
  rw [← hw2] at hb2 hR2 hE2
  have HW := hide hw2
  have HB2 := hide hb2
  obtain ⟨B, hB⟩ : ∃ B, B = w.heap.size := ⟨_, rfl⟩
  rw [← hB] at hR2 hE2
  have HBe := hide hB
  have HR : Hid (∀ W, Below w2.heap.size w2 W → W.cell? ⟨B, 1, none⟩ = some (.slice va vs.length vc)) := hide (fun W hW => kept hW ((cell_of_row _ _ _ _ _ _ hR2).trans rfl))
  have HE : Hid (∀ W, Below w2.heap.size w2 W → W.cell? ⟨B + 1, 0, none⟩ = some (sv t) ∧ W.cell? ⟨B + 1, 2, none⟩ = some (.slice ma m.length mc)) := hide (fun W hW => ⟨kept hW ((cell_of_row _ _ _ _ _ _ hE2).trans rfl), kept hW ((cell_of_row _ _ _ _ _ _ hE2).trans rfl)⟩)
  have HVk : Hid (∀ (k : Nat) (v : Evo), vs[k]? = some v → ∃ b off, va = some ⟨b, off, none⟩ ∧ ∀ W, Below w2.heap.size w2 W → EvoAt W b (off + k * 3) v) := hide (fun k v hk => by
    obtain ⟨b, off, e, _, hat⟩ := hv.at hk
    exact ⟨b, off, e, fun W hW => hat.grown (hb2.trans (hW.mono hb2.size))⟩)
  have HL2 := hide (fun W (hW : Below w2.heap.size w2 W) => hl.below (hb2.trans (hW.mono hb2.size)) (Nat.le_refl _))
  have HEv : Hid (∀ (W : World) (x : Ex) (a : Option Addr) (c : Nat), Below w2.heap.size w2 W → ExAt W x a c → Calls Tryz.prog 13 #[.agg (exV x a c), sv st, .slice la l.length lc, .slice ma m.length mc] W fun e w' => CaughtF (evalE st l m x) e ∧ Below W.heap.size W w') := hide (fun W x a c hW hx =>
    have h0 := hb2.trans (hW.mono hb2.size)
    rEval_any st l m la lc ma mc x a c W hx (hl.1.below h0 (Nat.le_refl _)) (hm.below h0 (Nat.le_refl _)) hst hfs hfg (hva.below h0 (Nat.le_refl _)))
  obtain ⟨Lm, hLm1, hLm2, hLm3⟩ : ∃ Lm, l.length ≤ Lm ∧ 16 ≤ Lm ∧ (Lm + 1) * 48 ≤ 140737488355328 := ⟨max l.length 16, by omega, by omega, by omega⟩
  have HL16 := hide hLm1
  have HLm := hide (And.intro hLm2 hLm3)
  clear hLm1 hLm2 hLm3
  obtain ⟨NM, hNM⟩ : ∃ NM, NM = m.length := ⟨_, rfl⟩
  obtain ⟨NV, hNV⟩ : ∃ NV, NV = vs.length := ⟨_, rfl⟩
  rw [← hNM] at HEv HE ⊢
  rw [← hNV] at HR hl1 ⊢
  rw [← hNM, ← hNV] at HW
  have HNV := hide hNV
  clear hb1 hb2 hR2 hE2 hw2 hB hv hl hl16 hm hst hfs hfg hva hNM hNV
  obtain ⟨X, hX⟩ : ∃ X, X = foldR vs st l t m := ⟨_, rfl⟩
  rw [← hX]
  have HX := hide hX
  clear hX
  go_enter Tryz.func21, Tryz.ntmps21
  go_upto_region 1 with fail
  rw [show (w.alloc (.cells #[Value.slice ha hn hc, .slice va NV vc] 26)).alloc (.cells #[Value.string ⟨t.toArray⟩, .int .i64 ver, .slice ma NM mc] 50) = w2 from (unhide HW).symm]
  rw [← unhide HBe]
  have hb3 : Below w2.heap.size w2 (w2.alloc (.cells #[] 37)) := (Below.refl _ _).alloc (Nat.le_refl _) _
  have HO0 := hide (fown_empty w2)
  have HV0 := hide (unhide HL2 _ hb3)
  have HB3 := hide hb3
  clear hb3
  go_upto_region 2 with (at_builtin; refine wpList_append_flds rfl (.tmp 17) (.tmp 18) rfl w2.heap.size _ [] rfl (unhide HO0) la lc l rfl (unhide HV0) (by have := unhide HL16; have := unhide HLm; simp; omega) (unhide HB3).size ?_; intro v3 w3 own3 b3; have HF3 : Hid (FoSt Lm w2 w3 v3 l) := hide ⟨(unhide HB3).trans b3, by simpa using own3, unhide HL16⟩; clear own3 b3)
  obtain ⟨va3, vc3, rfl, -⟩ := (unhide HF3).own.fdn
  clear HO0 HV0 HB3
  go_wp2_with fail
  go_loopw [9, 10, 11, 12, 13, 14, 15, 16] (fun v9 i _ _ _ _ _ _ wr => ∃ (k : Nat), k ≤ NV ∧ i = .int .i64 k ∧ Hid (∀ j, j < k → ∀ u, vs[j]? = some u → u.type ≠ t) ∧ Hid (FoSt Lm w2 wr v9 l)) (fun _ i _ _ _ _ _ _ _ => NV - (intOf i).toNat)
  case atStart => exact ⟨0, by omega, rfl, hide (fun j hj => absurd hj (by omega)), HF3⟩
  case round =>
    clear HF3
    obtain ⟨k, hk, rfl, HNo, HF⟩ := hrel
    obtain ⟨ca1, cc1, rfl, -⟩ := (unhide HF).own.fdn
    have r1 := unhide HR wr (unhide HF).bel
    have r1n : ∀ n, (wr.drewN n).cell? ⟨B, 1, none⟩ = some (.slice va NV vc) := fun n => unhide HR _ (below_drewN (unhide HF).bel n)
    have q0n : ∀ n, (wr.drewN n).cell? ⟨B + 1, 0, none⟩ = some (sv t) := fun n => (unhide HE _ (below_drewN (unhide HF).bel n)).1
    by_cases hlt : k < NV
    · obtain ⟨⟨tp, sets, drops⟩, hv⟩ : ∃ v, vs[k]? = some v := ⟨_, List.getElem?_eq_getElem (by have := unhide HNV; omega)⟩
      obtain ⟨b, off, rfl, hat⟩ := unhide HVk k _ hv
      have HAt := hide hat
      have d0n : ∀ n, (wr.drewN n).cell? ⟨b, off + k * 3, none⟩ = some (sv tp) := fun n => (hat _ (below_drewN (unhide HF).bel n)).1
      have hki : (k : Int) < (NV : Int) := by omega
      have hk0 : ¬ (k : Int) < 0 := by omega
      clear hat
      by_cases htp : tp = t
      · subst htp
        have HXe := hide ((unhide HX).trans (fold_some (unhide HNo) hv rfl st l m))
        simp only at HXe
        clear hv HNo
        obtain ⟨-, ⟨sa, sc, d1w, hs⟩, da, dc, d2w, hd⟩ := unhide HAt w2 (Below.refl _ _)
        simp only at d1w d2w hs hd
        have d1 := kept (unhide HF).bel d1w
        have HS := hide hs
        have HD := hide hd
        have hsl := hs.len.2
        have hdl := hd.len.2
        obtain ⟨M, hM⟩ : ∃ M, M = sets.length := ⟨_, rfl⟩
        obtain ⟨Q, hQ⟩ : ∃ Q, Q = drops.length := ⟨_, rfl⟩
        rw [← hM] at d1 hsl HS
        rw [← hQ] at d2w hdl HD
        have HM := hide hM
        have HQ := hide hQ
        have HD2 := hide d2w
        clear hs hd hM hQ d1w d2w
        go_upto_region 5 with fail
        go_quiet (fail)
        have HFd := hide (fun n => (unhide HF).grown (below_drewN (Below.refl _ _) n))
        clear q0n d0n
        go_wp2_with fail
        clear r1 r1n d1
        go_loopw [9, 12, 13, 14, 15] (fun v9 i _ _ _ wq => ∃ (j : Nat) (cur : List Fld), j ≤ M ∧ i = .int .i64 j ∧ Hid (cur = (sets.take j).foldl (setR st l m) l) ∧ Hid (FoSt Lm w2 wq v9 cur)) (fun _ i _ _ _ _ => M - (intOf i).toNat)
        case atStart => exact ⟨0, l, by omega, rfl, hide rfl, hide (unhide HFd _)⟩
        case round =>
          clear HFd
          obtain ⟨j, cur, hj, rfl, HCu, HG⟩ := hrel
          obtain ⟨ca2, cc2, rfl, -⟩ := (unhide HG).own.fdn
          rename World => W1
          by_cases hlj : j < M
          · obtain ⟨⟨nm, x⟩, hsj⟩ : ∃ a, sets[j]? = some a := ⟨_, List.getElem?_eq_getElem (by have := unhide HM; omega)⟩
            have HTk := hide (take_snocA hsj st l m l)
            rw [← unhide HCu] at HTk
            obtain ⟨sb, soff, rfl, -, hat0⟩ := (unhide HS).at hsj
            obtain ⟨e0, e1, e2, e3, xa, xc, e4, hx⟩ := hat0
            simp only at e0 e1 e2 e3 e4 hx
            have HXA := hide hx
            have HSV : Hid (∀ V, Below W1.heap.size W1 V → V.cell? ⟨sb, soff + j * 5 + 1, none⟩ = some (.int .i64 x.kind) ∧ V.cell? ⟨sb, soff + j * 5 + 2, none⟩ = some (.int .i64 x.n) ∧ V.cell? ⟨sb, soff + j * 5 + 3, none⟩ = some (sv x.s) ∧ V.cell? ⟨sb, soff + j * 5 + 4, none⟩ = some (.slice xa x.args.length xc) ∧ V.cell? ⟨B + 1, 2, none⟩ = some (.slice ma NM mc)) := hide (fun V hV => by
              have hV2 := (unhide HG).bel.trans (hV.mono (unhide HG).bel.size)
              exact ⟨kept hV2 e1, kept hV2 e2, kept hV2 e3, kept hV2 e4, (unhide HE V hV2).2⟩)
            have HN0 : Hid (∀ V, Below w2.heap.size w2 V → V.cell? ⟨sb, soff + j * 5, none⟩ = some (sv nm)) := hide (fun V hV => kept hV e0)
            have HCT : Hid (∀ V, Below W1.heap.size W1 V → Calls Tryz.prog 13 #[.agg (exV x xa xc), sv st, .slice la l.length lc, .slice ma NM mc] V fun e w' => CaughtF (evalE st l m x) e ∧ Below V.heap.size V w') := hide (fun V hV => by
              have hV2 := (unhide HG).bel.trans (hV.mono (unhide HG).bel.size)
              exact unhide HEv V x xa xc hV2 ((unhide HXA).grown hV2))
            have HSR := hide (setR_two st l m cur nm x)
            obtain ⟨RX, hRX⟩ : ∃ RX, RX = evalE st l m x := ⟨_, rfl⟩
            rw [← hRX] at HCT HSR
            obtain ⟨F, hF⟩ : ∃ F, F = valO RX := ⟨_, rfl⟩
            obtain ⟨N, hN⟩ : ∃ N, N = errO RX := ⟨_, rfl⟩
            rw [← hF, ← hN] at HSR
            have HC2 : Hid (∀ V, Below W1.heap.size W1 V → Calls Tryz.prog 13 #[.agg (exV x xa xc), sv st, .slice la l.length lc, .slice ma NM mc] V fun e w' => e = .returned (.tuple #[.agg (fv F), .int .i64 N]) ∧ Below V.heap.size V w') := hide (fun V hV => (unhide HCT V hV).mono fun e w' q => ⟨by rw [hF, hN]; exact (caught_two q.1).1, q.2⟩)
            have R0 : Hid (Below W1.heap.size W1 W1.drew) := hide (Below.refl _ _).drew
            have RA : Hid (Below W1.heap.size W1 (W1.alloc (.cells (fv fld0) 37)).drew) := hide (((Below.refl _ _).alloc (Nat.le_refl _) _).drew)
            have S0 := hide (unhide HSV _ (unhide R0))
            have SA := hide (unhide HSV _ (unhide RA))
            have SB := hide (unhide HSV _ (Below.refl _ _))
            have C0 := hide (unhide HC2 _ (unhide R0))
            have CA := hide (unhide HC2 _ (unhide RA))
            have FA : Hid (FBox (W1.alloc (.cells (fv fld0) 37)).drew W1.heap.size fld0) := hide (FBox.new W1 fld0)
            have hji : (j : Int) < (M : Int) := by omega
            have hj0 : ¬ (j : Int) < 0 := by omega
            clear hx hsj e0 e1 e2 e3 e4 HCT hF hN hRX HC2 HEv HL2
            go_upto_region 10 with fail
            go_cut [13, 14] from 42 to 77 (fun t6 t7 W => EvlR W1 F N t6 t7 W)
            case first =>
              obtain ⟨fn, ft, fi, fz⟩ := F
              clear HSR HTk
              go_region_held3 (fun V => V.cell? ⟨sb, soff + j * 5 + 1, none⟩ = some (.int .i64 x.kind) ∧ V.cell? ⟨sb, soff + j * 5 + 2, none⟩ = some (.int .i64 x.n) ∧ V.cell? ⟨sb, soff + j * 5 + 3, none⟩ = some (sv x.s) ∧ V.cell? ⟨sb, soff + j * 5 + 4, none⟩ = some (.slice xa x.args.length xc) ∧ V.cell? ⟨B + 1, 2, none⟩ = some (.slice ma NM mc))
                (first | with_reducible exact unhide SB | with_reducible exact unhide S0 | with_reducible exact unhide SA | (refine unhide HSV _ ?_; first | with_reducible exact unhide B6 | with_reducible exact (unhide B6).alloc (unhide B6).size _ | exact below_put (unhide B6) (Nat.le_refl _) _ _ _ _))
                ((go_at_call 13; (first
                  | ((with_reducible refine (unhide C0).mono ?_); rintro e w6 ⟨rfl, b6⟩; have B6 := hide ((unhide R0).trans (b6.mono (unhide R0).size)); clear b6)
                  | ((with_reducible refine (unhide CA).mono ?_); rintro e w6 ⟨rfl, b6⟩; have F6 := hide ((unhide FA).below b6 (Nat.le_refl _)); have B6 := hide ((unhide RA).trans (b6.mono (unhide RA).size)); obtain ⟨m0, m1, m2, m3, m4⟩ := (unhide F6).cells; clear b6))))
              all_goals
                rename_i hh
                clear hh
                try clear m0 m1 m2 m3 m4
                go_wp2
                go_meet
                first
                  | exact EvlR.new (F := ⟨fn, ft, fi, fz⟩) (unhide B6)
                  | exact EvlR.put (F := ⟨fn, ft, fi, fz⟩) (unhide B6) (Nat.le_refl _) (unhide F6)
            case rest =>
              obtain ⟨q, rfl, rfl, hfb, hbel, hqg⟩ := hcut
              rename World => W6
              have HG6 := hide ((unhide HG).grown hbel)
              obtain ⟨fn, ft, fi, fz⟩ := F
              simp only at HSR
              obtain ⟨f0, f1, f2, f3, ff⟩ := hfb.cells
              simp only at f0 f1 f2 f3
              have n0 := unhide HN0 W6 (unhide HG6).bel
              have hf7 := hfb.put0 nm
              have hb7 : Below W1.heap.size W1 (W6.setCell ⟨q, 0, none⟩ (sv nm)) := hbel.setCell (show W1.heap.size ≤ q from hqg) _
              obtain ⟨w7, hw7⟩ : ∃ w7, w7 = W6.setCell ⟨q, 0, none⟩ (sv nm) := ⟨_, rfl⟩
              rw [← hw7] at hf7 hb7
              have HG7 := hide ((unhide HG).grown hb7)
              have HW7 := hide hw7
              have HY7 := hide hf7
              clear hfb hbel hqg hf7 hb7 hw7 HG6 R0 RA S0 SA SB C0 CA FA HSV
              go_upto_region 12 with fail
              rw [show W6.setCell ⟨q, 0, none⟩ (.string ⟨nm.toArray⟩) = w7 from (unhide HW7).symm]
              clear f0 f1 f2 f3 ff n0
              obtain ⟨f0, f1, f2, f3, ff⟩ := (unhide HY7).cells
              simp only at f0 f1 f2 f3
              obtain ⟨ca4, cc4, hcv, hfn⟩ := (unhide HG7).own.fdn
              cases hcv
              have HSt := hide (rSet_any ca2 cc2 cur ⟨nm, ft, fi, fz⟩ w7 hfn (by have := (unhide HG7).len; have := unhide HLm; omega))
              obtain ⟨K, hK⟩ : ∃ K, K = (setF cur ⟨nm, ft, fi, fz⟩).length := ⟨_, rfl⟩
              have HK := hide hK
              rw [← hK] at HSR
              clear hfn hK
              by_cases hN0 : N = 0
              · subst hN0
                by_cases h16 : K ≤ 16
                · have HNy := hide ((unhide HTk).trans ((unhide HSR).trans (if_pos ⟨rfl, h16⟩))).symm
                  have h16' : ((K : Int) ≤ 16) := by omega
                  go_upto_region 13 with (go_at_call 57; refine (unhide HSt).mono ?_; rintro e w10 ⟨v10, rfl, o10, b10⟩; have HG10 := hide ((unhide HG7).put b10 o10 (by rw [← unhide HK]; have := unhide HLm; omega)); obtain ⟨ca3, cc3, rfl, -⟩ := o10.fdn; rw [← unhide HK]; clear b10 o10)
                  clear h16
                  rw [← unhide HK] at HG10
                  go_wp2_with fail
                  go_roundw
                  case rel => exact ⟨j + 1, _, by omega, by go_num, HNy, HG10⟩
                  case measure => simp [intOf]; omega
                · have HNy := hide ((unhide HTk).trans ((unhide HSR).trans (if_neg (fun z => h16 z.2)))).symm
                  have h16' : decide ((K : Int) ≤ 16) = false := by simp; omega
                  go_upto_region 13 with (go_at_call 57; refine (unhide HSt).mono ?_; rintro e w10 ⟨v10, rfl, o10, b10⟩; have HG10 := hide ((unhide HG7).grown b10); obtain ⟨ca3, cc3, rfl, -⟩ := o10.fdn; rw [← unhide HK]; clear b10 o10)
                  clear h16
                  go_wp2_with fail
                  go_roundw
                  case rel => exact ⟨j + 1, cur, by omega, by go_num, HNy, HG10⟩
                  case measure => simp [intOf]; omega
              · have HNy := hide ((unhide HTk).trans ((unhide HSR).trans (if_neg (fun z => hN0 z.1)))).symm
                have hN1 : (N == 0) = false := by simpa using hN0
                go_upto_region 13 with (go_at_call 57; refine (unhide HSt).mono ?_; rintro e w10 ⟨v10, rfl, o10, b10⟩; have HG10 := hide ((unhide HG7).grown b10); obtain ⟨ca3, cc3, rfl, -⟩ := o10.fdn; rw [← unhide HK]; clear b10 o10)
                clear hN0
                go_wp2_with fail
                go_roundw
                case rel => exact ⟨j + 1, cur, by omega, by go_num, HNy, HG10⟩
                case measure => simp [intOf]; omega
          · have HCm : Hid (cur = sets.foldl (setR st l m) l) := hide (by rw [unhide HCu, List.take_of_length_le (by have := unhide HM; omega)])
            go_wp2_with fail
            go_loopw [9, 16] (fun v9 i wq => ∃ (i2 : Nat) (cur2 : List Fld), i2 ≤ Q ∧ i = .int .i64 i2 ∧ Hid (cur2 = (drops.take i2).foldl dropF cur) ∧ Hid (FoSt Lm w2 wq v9 cur2)) (fun _ i _ => Q - (intOf i).toNat)
            case atStart => exact ⟨0, cur, by omega, rfl, hide rfl, HG⟩
            case round =>
              obtain ⟨i2, cur2, hi2, rfl, HC2, HH⟩ := hrel
              rename World => W2
              obtain ⟨ca3, cc3, rfl, hfn⟩ := (unhide HH).own.fdn
              have r1 := unhide HR W2 (unhide HH).bel
              have d2 := kept (unhide HH).bel (unhide HD2)
              by_cases hlt2 : i2 < Q
              · obtain ⟨nm, hdi⟩ : ∃ a, drops[i2]? = some a := ⟨_, List.getElem?_eq_getElem (by have := unhide HQ; omega)⟩
                have HTk := hide (take_snocD hdi cur)
                rw [← unhide HC2] at HTk
                obtain ⟨sb, soff, rfl, -, e0⟩ := ((unhide HD).grown (fun _ _ _ _ _ => StAt.grown) (unhide HH).bel).at hdi
                unfold StAt at e0
                rw [Nat.mul_one] at e0
                have HSt := hide (rDrop_any ca3 cc3 cur2 nm W2 hfn (by have := (unhide HH).len; have := unhide HLm; omega))
                have hi2i : (i2 : Int) < (Q : Int) := by omega
                clear hdi hfn
                go_wp2_with (go_at_call 58; refine (unhide HSt).mono ?_; rintro e w10 ⟨v10, rfl, o10, b10⟩; have HF10 := hide ((unhide HH).put b10 o10 (by have := dropF_le cur2 nm; have := (unhide HH).len; omega)); obtain ⟨ca5, cc5, rfl, -⟩ := o10.fdn; clear b10 o10)
                go_roundw
                case rel => exact ⟨i2 + 1, _, by omega, by go_num, hide (unhide HTk).symm, HF10⟩
                case measure => simp [intOf]; omega
              · have HXf : Hid (X = cur2) := hide (by rw [unhide HXe, unhide HC2, List.take_of_length_le (by have := unhide HQ; omega), unhide HCm])
                go_wp2_with fail
                go_ret
                rw [unhide HXf]
                exact fo_end rfl (unhide HB2) (unhide HH)
      · have hne1 : (tp == t) = false := by simpa using htp
        have HNo2 : Hid (∀ j, j < k + 1 → ∀ u, vs[j]? = some u → u.type ≠ t) := hide (fun j hj u hu => by
          by_cases hjk : j = k
          · subst hjk
            rw [hv] at hu
            cases hu
            exact htp
          · exact unhide HNo j (by omega) u hu)
        have HF2 := hide (fun n => (unhide HF).grown (below_drewN (Below.refl _ _) n))
        clear hv
        go_upto_region 5 with fail
        go_quiet (fail)
        go_wp2_with fail
        go_roundw
        case rel => exact ⟨k + 1, by omega, by go_num, HNo2, hide (unhide HF2 _)⟩
        case measure => simp [intOf]; omega
    · have HXe : Hid (X = l) := hide ((unhide HX).trans (fold_none (fun v hv => by
        obtain ⟨j, hj⟩ := List.mem_iff_getElem?.1 hv
        have := (List.getElem?_eq_some_iff.1 hj).1
        exact unhide HNo j (by have := unhide HNV; omega) v hj) st l m))
      go_wp2_with fail
      go_ret
      rw [unhide HXe]
      exact fo_end rfl (unhide HB2) (unhide HF)
end Go.Proofs.YtclllkbljaomoaaGreatDoor
