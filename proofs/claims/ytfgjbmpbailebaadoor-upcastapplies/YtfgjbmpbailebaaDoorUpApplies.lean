/-
  DERIVED. UpcastApplies: upcasters are taken, or refused, and events brought up, as the document says; the event itself stays.
-/
import Derived.Test.YtfgjbmpbailebaaDoorUpD4
import Derived.Test.YtfgjbmpbailebaaDoorUpD5
import Derived.Test.YtfgjbmpbailebaaDoorUpQ
import Derived.Test.YtfgjbmpbailebaaDoorUpLaid
import Derived.Test.YtfgjbmpbailebaaDoorCards
import Derived.Test.YtfgjbmpbailebaaDoorTie
import Derived.SevenTiedAt
namespace Go.Proofs.YtfgjbmpbailebaaDoor
open Go.ChangeShapes Go.WideShapes Go.ChangeAt Go.RowKit
open Go.ChangeMaps (open_string shut_string)
set_option linter.unusedVariables false

/-- Where the law stands while it writes over what Apply gave: its event's box A, its fields; all that lay in W stays. -/
structure MnSt (W wr : World) (A : Nat) (a : Option Addr) (n cap : Nat) (tp : List UInt8) (v1 : Int) : Prop where
  bel : Below W.heap.size W wr
  box : EBx wr A tp v1 (.slice a n cap)
  geA : W.heap.size ≤ A
  own : ∃ R2, n = R2.length ∧ FOwn wr W.heap.size (.slice a n cap) R2
theorem MnSt.slots {W wr : World} {A : Nat} {a : Option Addr} {n cap : Nat} {tp : List UInt8} {v1 : Int} (h : MnSt W wr A a n cap tp v1) {k : Nat} (hk : k < n) : ∃ g, a = some ⟨g, 0, none⟩ ∧ (∃ x0, wr.cell? ⟨g, k * 4, none⟩ = some x0) ∧ (∃ x1, wr.cell? ⟨g, k * 4 + 1, none⟩ = some x1) ∧ (∃ x2, wr.cell? ⟨g, k * 4 + 2, none⟩ = some x2) ∧ (∃ x3, wr.cell? ⟨g, k * 4 + 3, none⟩ = some x3) ∧ (∀ i, wr.frozen? ⟨g, i, none⟩ = false) ∧
    ∀ f : Fld, MnSt W ((((wr.setCell ⟨g, k * 4, none⟩ (sv f.name)).setCell ⟨g, k * 4 + 1, none⟩ (.bool f.text)).setCell ⟨g, k * 4 + 2, none⟩ (.int .i64 f.n)).setCell ⟨g, k * 4 + 3, none⟩ (sv f.s)) A a n cap tp v1 := by
  obtain ⟨R2, rfl, ho⟩ := h.own
  have ho' := ho
  rcases ho.2 with ⟨e, h0⟩ | ⟨g, cap', cur, e, hb, hg, _⟩
  · omega
  · cases e
    obtain ⟨⟨c0, c1, c2, c3⟩, hf⟩ := ho'.slots k hk
    refine ⟨g, rfl, ⟨_, c0⟩, ⟨_, c1⟩, ⟨_, c2⟩, ⟨_, c3⟩, hf, fun f => ⟨below_fput h.bel hb k f, ?_, h.geA, R2.set k f, by simp, ?_⟩⟩
    · have hne : A ≠ g := by
        rintro rfl
        have hx : wr.heap[A]? = some (.cells (evv tp v1 (.slice (some ⟨A, 0, none⟩) R2.length cap)) 26 (0, 0)) := h.box
        rw [hg] at hx
        simp only [Option.some.injEq, Obj.cells.injEq] at hx
        exact absurd hx.2.1 (by decide)
      unfold EBx
      rw [heap_setCell_other _ ⟨g, k * 4 + 3, none⟩ _ _ hne, heap_setCell_other _ ⟨g, k * 4 + 2, none⟩ _ _ hne, heap_setCell_other _ ⟨g, k * 4 + 1, none⟩ _ _ hne, heap_setCell_other _ ⟨g, k * 4, none⟩ _ _ hne]
      exact h.box
    · exact ho'.put k hk f

set_option maxRecDepth 10000 in
set_option maxHeartbeats 16000000 in
theorem UpApplies.walk (a : Option Addr) (n c : Nat) (us : List Upc) (tp : List UInt8) (vr : Int) (fa : Option Addr) (fc : Nat) (fs : List Fld) (w : World) (hv : UpL w (.slice a n c) us) (hfit : ∀ u ∈ us, fitU u) (hlen : us.length < 10000000000000)
    (hf : FdN w fa fc fs) (hff : ∀ f ∈ fs, fits f) (hn48 : fs.length * 48 ≤ 140737488351232) (htp : tp.length ≤ 9223372036854775807) (hvr : I64 vr) (hva : Vars w) :
    Calls Tryd.prog 4 #[.slice a n c, .agg (evv tp vr (.slice fa fs.length fc))] w fun e w' => e = .returned (.bool true) ∧ Below w.heap.size w w' := by
  obtain ⟨L, hL1, hL2, hL3⟩ : ∃ L, fs.length ≤ L ∧ 16 ≤ L ∧ (L + 1) * 48 ≤ 140737488355328 := ⟨max fs.length 16, by omega, by omega, by omega⟩
  have hcl := fdn_len hf
  have hb1 : Below w.heap.size w (w.alloc (.cells (evv tp vr (.slice fa fs.length fc)) 26)) := (Below.refl _ _).alloc (Nat.le_refl _) _
  have hx1 := EBx.new w tp vr (.slice fa fs.length fc)
  obtain ⟨w1, hw1⟩ : ∃ w1, w1 = w.alloc (.cells (evv tp vr (.slice fa fs.length fc)) 26) := ⟨_, rfl⟩
  have HW1 := hide hw1
  rw [← hw1] at hb1 hx1
  obtain ⟨B, hB⟩ : ∃ B, B = w.heap.size := ⟨_, rfl⟩
  rw [← hB] at hx1
  have HBB := hide hB
  have HB1 := hide hb1
  have HX1 := hide hx1
  have HV := hide hv
  have HF := hide hf
  have HFf := hide hff
  have HFit := hide hfit
  have HVa := hide hva
  have HAw := hide (vawake_go w1 (hva.below hb1 (Nat.le_refl _)))
  have HCk : Hid (∀ W, Below w.heap.size w W → Calls Tryd.prog 11 #[.slice a n c] W fun e w' => e = .returned (.int .i64 (checkU us)) ∧ Below W.heap.size W w') := hide (fun W hW => vCheck_any a n c us W (hv.below hW (Nat.le_refl _)) hfit (by omega))
  have HCr : Hid (∀ W, Below w.heap.size w W → Calls Tryd.prog 12 #[.slice a n c] W fun e w' => e = .returned (.int .i64 (checkU us)) ∧ Below W.heap.size W w') := hide (fun W hW => rvCheck_any a n c us W (hv.below hW (Nat.le_refl _)) hfit (by omega))
  have HLa : Hid (∀ W, Below w.heap.size w W → Calls Tryd.prog 13 #[.slice a n c, sv tp] W fun e w' => e = .returned (.int .i64 (latestU us tp : Nat)) ∧ Below W.heap.size W w') := hide (fun W hW => Latest_any a n c us tp W (hv.below hW (Nat.le_refl _)) hfit (by omega) htp)
  have HLr : Hid (∀ W, Below w.heap.size w W → Calls Tryd.prog 14 #[.slice a n c, sv tp] W fun e w' => e = .returned (.int .i64 (latestU us tp : Nat)) ∧ W = w') := hide (fun W hW => rvLatest_any a n c us tp W (hv.below hW (Nat.le_refl _)) (by omega))
  have HAp : Hid (∀ W qa qc, Below w.heap.size w W → FdN W qa qc fs → Calls Tryd.prog 8 #[.slice a n c, .agg (evv tp vr (.slice qa fs.length qc))] W (ApPost W tp (applyU us tp vr fs) L)) := hide (fun W qa qc hW hq => Apply_any a n c us tp vr qa qc fs L W (hv.below hW (Nat.le_refl _)) hfit (by omega) hq hff hL1 hL2 hL3 htp hvr (hva.below hW (Nat.le_refl _)))
  have HAr : Hid (∀ W, Below w.heap.size w W → Calls Tryd.prog 9 #[.slice a n c, .agg (evv tp vr (.slice fa fs.length fc))] W (ApPost W tp (applyU us tp vr fs) L)) := hide (fun W hW => rvApply_any a n c us tp vr fa fc fs L W (hv.below hW (Nat.le_refl _)) hfit (by omega) (hf.below hW (Nat.le_refl _)) hff hL1 hL2 hL3 hvr (hva.below hW (Nat.le_refl _)))
  obtain ⟨ck, hck⟩ : ∃ ck, ck = checkU us := ⟨_, rfl⟩
  obtain ⟨lt, hlt⟩ : ∃ lt, lt = latestU us tp := ⟨_, rfl⟩
  obtain ⟨⟨v1, R⟩, hR⟩ : ∃ r, r = applyU us tp vr fs := ⟨_, rfl⟩
  rw [← hck] at HCk HCr
  rw [← hlt] at HLa HLr
  rw [← hR] at HAp HAr
  obtain ⟨nf, hnf⟩ : ∃ nf, nf = fs.length := ⟨_, rfl⟩
  have HNf := hide hnf
  rw [← hnf] at HX1 HAp HAr hcl ⊢
  have HW1' : Hid (w1 = w.alloc (.cells (evv tp vr (.slice fa nf fc)) 26)) := hide (by rw [hnf]; exact unhide HW1)
  have hlf : fs.length * 48 ≤ 140737488355328 := by omega
  clear hb1 hx1 hw1 hB hv hf hff hfit hva hck hlt hR hnf HW1
  go_enter Tryd.func4, Tryd.ntmps4
  go_upto_region 1 with fail
  rw [← unhide HW1', ← unhide HBB]
  go_upto_region 2 with (go_at_call 7; refine (unhide HAw).mono ?_; rintro e w2 ⟨rfl, b2⟩; have HB2 := hide ((unhide HB1).trans (b2.mono (unhide HB1).size)); have HX2 := hide ((unhide HX1).below b2 (Nat.le_refl _)); clear b2)
  have hs0 : w2.cell? ⟨B, 0, none⟩ = some (sv tp) ∧ w2.cell? ⟨B, 1, none⟩ = some (.int .i64 vr) ∧ w2.cell? ⟨B, 2, none⟩ = some (.slice fa nf fc) := (unhide HX2).cells
  have HF2 := hide ((unhide HF).below (unhide HB2) (Nat.le_refl _))
  have HSE : Hid (∀ W, Below w2.heap.size w2 W → W.cell? ⟨B, 0, none⟩ = some (sv tp) ∧ W.cell? ⟨B, 1, none⟩ = some (.int .i64 vr) ∧ W.cell? ⟨B, 2, none⟩ = some (.slice fa nf fc)) := hide (fun W hW => SE.below (x := .slice fa nf fc) hs0 hW (Nat.le_refl _))
  have HS0 := hide hs0
  have SD := hide (unhide HSE _ (Below.refl _ _).drew)
  have R1 := hide (rd1 (unhide HF2))
  have R2 := hide (rd2 (unhide HF2))
  have R3 := hide (rd3 (unhide HF2))
  have SA := hide (unhide HSE _ (unhide R1).bel)
  have SAB := hide (unhide HSE _ (unhide R2).bel)
  have SBA := hide (unhide HSE _ (unhide R3).bel)
  have SB := hide (unhide HSE _ ((Below.refl w2.heap.size w2).alloc (Nat.le_refl _) (.cells ev0 26)).drew)
  have Y2 := hide (bx2 w2)
  have Y3 := hide (bx3 w2)
  have hBl := (unhide HX2).lt
  have z1 : w2.heap.size ≤ w2.heap.size + 1 := by omega
  go_cut [6] from 14 to 72 (fun t6 wx => OutR w2 tp vr fs t6 wx)
  case first =>
    clear hs0
    go_region_held3 (fun w' => w'.cell? ⟨B, 0, none⟩ = some (sv tp) ∧ w'.cell? ⟨B, 1, none⟩ = some (.int .i64 vr) ∧ w'.cell? ⟨B, 2, none⟩ = some (.slice fa nf fc))
      (first | with_reducible exact unhide HS0 | with_reducible exact unhide SD | with_reducible exact unhide SA | with_reducible exact unhide SB | with_reducible exact unhide SAB | with_reducible exact unhide SBA | with_reducible exact unhide S1 | with_reducible exact keepE (unhide S1) | with_reducible exact keepE (unhide HS0) | with_reducible exact keepE (keepE (unhide HS0)) | with_reducible exact keepE (unhide SD) | with_reducible exact keepE (keepE (unhide SD)) | with_reducible exact keepE (by assumption) | with_reducible exact keepE3 (by simp <;> omega) (unhide S1) | with_reducible exact keepE3 (by simp <;> omega) (by assumption))
      ((first
        | (refine step_append_ev rfl (.tmp 18) (.tmp 20) rfl w2 _ rfl fa nf fc fs (unhide HNf) rfl (unhide R1) hlf ?_; intro v5 w5 dn; obtain ⟨va5, vc5, rfl, -⟩ := dn.own.fdn; have HDn := hide dn; have S1 := hide (unhide HSE w5 dn.bel); have z5 := dn.bel.size; clear dn)
        | (refine step_append_ev rfl (.tmp 18) (.tmp 20) rfl w2 _ rfl fa nf fc fs (unhide HNf) rfl (unhide R2) hlf ?_; intro v5 w5 dn; obtain ⟨va5, vc5, rfl, -⟩ := dn.own.fdn; obtain ⟨m0, m1, m2, mf⟩ := dn.cells (unhide Y2); have HDn := hide dn; have S1 := hide (unhide HSE w5 dn.bel); have z5 := dn.bel.size; clear dn)
        | (refine step_append_ev rfl (.tmp 18) (.tmp 20) rfl w2 _ rfl fa nf fc fs (unhide HNf) rfl (unhide R3) hlf ?_; intro v5 w5 dn; obtain ⟨va5, vc5, rfl, -⟩ := dn.own.fdn; obtain ⟨m0, m1, m2, mf⟩ := dn.cells (unhide Y3); have HDn := hide dn; have S1 := hide (unhide HSE w5 dn.bel); have z5 := dn.bel.size; clear dn)))
    · go_wp2
      go_meet
      exact OutR.new (unhide HDn)
    · go_wp2
      go_meet
      exact OutR.put (unhide HDn) (unhide Y2) (by omega)
    · go_wp2
      go_meet
      exact OutR.put (unhide HDn) (unhide Y3) (by omega)
  case rest =>
    obtain ⟨q, v, rfl, hbx, hown, hbel, hge⟩ := hcut
    obtain ⟨qa, qc, rfl, hqf⟩ := hown.fdn
    have HBc := hide ((unhide HB2).trans (hbel.mono (unhide HB2).size))
    have HQ := hide hbx
    have HQf := hide hqf
    have HXc := hide ((unhide HX2).below hbel (Nat.le_refl _))
    have HLq : Hid (fs.length = nf) := hide (unhide HNf).symm
    rw [unhide HLq] at HQ
    clear hs0 HSE HS0 SD R1 R2 R3 SA SAB SBA SB Y2 Y3 hBl z1 hbx hown hbel hge HF2 hqf
    have HA1 := hide (unhide HAp wc qa qc (unhide HBc) (unhide HQf))
    obtain ⟨x0, x1, x2⟩ := (unhide HQ).cells
    go_upto_region 4 with (go_at_call 8; refine (unhide HA1).mono ?_; rintro e w3 ⟨v3, rfl, o3, -, f3, b3⟩; obtain ⟨va3, vc3, rfl, fd3⟩ := o3.fdn; have HO3 := hide o3; have HB3 := hide b3; clear o3 f3 b3 fd3)
    have hb4 : Below w3.heap.size w3 (w3.alloc (.cells (evv tp v1 (.slice va3 R.length vc3)) 26)) := (Below.refl _ _).alloc (Nat.le_refl _) _
    have HA4 := hide (EBx.new w3 tp v1 (.slice va3 R.length vc3))
    have HB4 := hide ((unhide HB3).trans (hb4.mono (unhide HB3).size))
    have HO4 := hide ((unhide HO3).below hb4 (Nat.le_refl _))
    have HgA : Hid (wc.heap.size ≤ w3.heap.size) := hide (unhide HB3).size
    obtain ⟨w4, hw4⟩ : ∃ w4, w4 = w3.alloc (.cells (evv tp v1 (.slice va3 R.length vc3)) 26) := ⟨_, rfl⟩
    rw [show w3.alloc (.cells #[Value.string ⟨tp.toArray⟩, .int .i64 v1, .slice va3 R.length vc3] 26) = w4 from hw4.symm]
    rw [← hw4] at HA4 HB4 HO4
    obtain ⟨A, hA⟩ : ∃ A, A = w3.heap.size := ⟨_, rfl⟩
    rw [← hA] at HA4 HgA ⊢
    clear hb4 hw4 hA x0 x1 x2
    have HBw4 := hide ((unhide HBc).trans ((unhide HB4).mono (unhide HBc).size))
    obtain ⟨x0, x1, x2⟩ := ((unhide HXc).below (unhide HB4) (Nat.le_refl _)).cells
    have HA2 := hide (unhide HAr w4 (unhide HBw4))
    go_upto_region 5 with (go_at_call 9; refine (unhide HA2).mono ?_; rintro e w5 ⟨v5, rfl, o5, -, -, b5⟩; obtain ⟨va5, vc5, rfl, fd5⟩ := o5.fdn; have HFd5 := hide fd5; have HB5 := hide b5; clear o5 b5 fd5)
    have hb6 : Below w5.heap.size w5 (w5.alloc (.cells (evv tp v1 (.slice va5 R.length vc5)) 26)) := (Below.refl _ _).alloc (Nat.le_refl _) _
    have HC6 := hide (EBx.new w5 tp v1 (.slice va5 R.length vc5))
    have HB6 := hide ((unhide HB5).trans (hb6.mono (unhide HB5).size))
    have HFd6 := hide ((unhide HFd5).below hb6 (Nat.le_refl _))
    obtain ⟨w6, hw6⟩ : ∃ w6, w6 = w5.alloc (.cells (evv tp v1 (.slice va5 R.length vc5)) 26) := ⟨_, rfl⟩
    rw [show w5.alloc (.cells #[Value.string ⟨tp.toArray⟩, .int .i64 v1, .slice va5 R.length vc5] 26) = w6 from hw6.symm]
    rw [← hw6] at HC6 HB6 HFd6
    obtain ⟨C, hC⟩ : ∃ C, C = w5.heap.size := ⟨_, rfl⟩
    rw [← hC] at HC6 ⊢
    clear hb6 hw6 hC x0 x1 x2
    have HA6 := hide ((unhide HA4).below (unhide HB6) (Nat.le_refl _))
    have HO6 := hide ((unhide HO4).below (unhide HB6) (Nat.le_refl _))
    have HFa6 : Hid (FdL w6 (.slice va3 R.length vc3) R) := hide (unhide HO6).fdl
    obtain ⟨y0, y1, y2⟩ := (unhide HA6).cells
    obtain ⟨z0, z1, z2⟩ := (unhide HC6).cells
    have HSm := hide (SameEvent_eq tp v1 R va3 va5 R.length R.length vc3 vc5 w6 (unhide HFa6) (unhide HFd6).1)
    obtain ⟨M, hM⟩ : ∃ M, M = R.length := ⟨_, rfl⟩
    have HM := hide hM
    have hMc : M ≤ vc3 ∧ vc3 ≤ 9223372036854775807 := by obtain ⟨_, _, e, h1, h2, _⟩ := unhide HFa6; cases e; exact ⟨by omega, h2⟩
    go_upto_region 6 with (go_at_call 10; refine (unhide HSm).mono ?_; rintro e w7 ⟨rfl, b7⟩; have HB7 := hide ((unhide HB4).trans (((unhide HB6).trans (b7.mono (unhide HB6).size)).mono (unhide HB4).size)); have HMn : Hid (MnSt wc w7 A va3 R.length vc3 tp v1) := hide ⟨unhide HB7, (unhide HA6).below b7 (Nat.le_refl _), unhide HgA, R, rfl, (unhide HO6).below b7 (Nat.le_refl _)⟩; clear b7)
    rw [← hM] at HMn
    clear y0 y1 y2 z0 z1 z2 hM HSm HA6 HO6 HFa6 HFd6 HFd5 HC6 HA4 HO4 HO3 HA1 HA2
    go_wp2_with fail
    go_loopw [10] (fun i wr => ∃ (k : Nat), k ≤ M ∧ i = .int .i64 k ∧ Hid (MnSt wc wr A va3 M vc3 tp v1)) (fun i _ => M - (intOf i).toNat)
    case atStart => exact ⟨0, by omega, rfl, HMn⟩
    case round =>
      obtain ⟨k, hk, rfl, HK⟩ := hrel
      clear HMn
      obtain ⟨y0, y1, y2⟩ := (unhide HK).box.cells
      by_cases hlt : k < M
      · obtain ⟨g, rfl, ⟨c0, e0⟩, ⟨c1, e1⟩, ⟨c2, e2⟩, ⟨c3, e3⟩, ef, hput⟩ := (unhide HK).slots hlt
        have HNx := hide (hput ⟨[109, 105, 110, 101], false, 0, []⟩)
        simp only at HNx
        clear hput
        go_wp2_with fail
        go_roundw
        case rel => exact ⟨k + 1, by omega, by go_num, HNx⟩
        case measure => simp [intOf]; omega
      · have HQ8 := hide ((unhide HQ).below (unhide HK).bel (Nat.le_refl _))
        have HX8 := hide ((unhide HXc).below (unhide HK).bel (Nat.le_refl _))
        have HB8 := hide ((unhide HBc).trans ((unhide HK).bel.mono (unhide HBc).size))
        have hq8 := ((unhide HQf).below (unhide HK).bel (Nat.le_refl _)).1
        have hf8 := ((unhide HF).below (unhide HB8) (Nat.le_refl _)).1
        rw [unhide HLq] at hq8 hf8
        have HSm := hide (SameEvent_eq tp vr fs qa fa nf nf qc fc wr hq8 hf8)
        clear hq8 hf8
        obtain ⟨x0, x1, x2⟩ := (unhide HQ8).cells
        obtain ⟨z0, z1, z2⟩ := (unhide HX8).cells
        go_upto_region 12 with (first | (go_at_call 10; refine (unhide HSm).mono ?_; rintro e w9 ⟨rfl, b9⟩; have HB9 := hide ((unhide HB8).trans (b9.mono (unhide HB8).size)); have HX9 := hide ((unhide HX8).below b9 (Nat.le_refl _)); clear b9) | (go_at_call 11; refine (unhide HCk _ (unhide HB9)).mono ?_; rintro e w10 ⟨rfl, b10⟩; have HB10 := hide ((unhide HB9).trans (b10.mono (unhide HB9).size)); have HX10 := hide ((unhide HX9).below b10 (Nat.le_refl _)); clear b10) | (go_at_call 12; refine (unhide HCr _ (unhide HB10)).mono ?_; rintro e w11 ⟨rfl, b11⟩; have HB11 := hide ((unhide HB10).trans (b11.mono (unhide HB10).size)); have HX11 := hide ((unhide HX10).below b11 (Nat.le_refl _)); clear b11))
        clear x0 x1 x2 y0 y1 y2 z0 z1 z2
        have HX11' := hide ((unhide HX11).below (Below.refl _ _).drew (Nat.le_refl _))
        obtain ⟨x0, x1, x2⟩ := (unhide HX11).cells
        clear HSm HK HQ8 HX8 HX9 HX10 HXc HQ HQf HAp HAr HCk HCr HAw HF HFf HFit HV HVa
        have S0 : Hid (w11.cell? ⟨B, 0, none⟩ = some (sv tp)) := hide x0
        have SD0 : Hid (w11.drew.cell? ⟨B, 0, none⟩ = some (sv tp)) := hide (unhide HX11').cells.1
        go_region_held3 (fun w' => w'.cell? ⟨B, 0, none⟩ = some (sv tp))
          (first | with_reducible exact unhide S0 | with_reducible exact unhide SD0 | with_reducible exact unhide S12)
          ((first
            | (go_at_call 13; refine (unhide HLa _ (unhide HB11).drew).mono ?_; rintro e w12 ⟨rfl, b12⟩; have HB12 := hide ((unhide HB11).drew.trans (b12.mono (unhide HB11).drew.size)); have S12 := hide ((unhide HX11').below b12 (Nat.le_refl _)).cells.1; clear b12)
            | (go_at_call 14; refine (unhide HLr _ (unhide HB12)).mono ?_; rintro e w' ⟨rfl, rfl⟩)))
        all_goals
          go_wp2
          go_ret
          exact ⟨rfl, unhide HB12⟩

set_option maxRecDepth 100000 in
theorem UpApplies.lifted (os : Os) (started : os.Started) (H : Type) (enc : TypeId × Value → H) :
    ReturnsInHanded {} Tryd.checked os 4 .any (fun w args => (Rows.upcastAppliesSpec.pre enc Tryd.prog Tryd.f4 [] false w args ∧ laidMetH Tryd.prog seatLaid w) ∧ sizedMet enc Tryd.prog Tryd.f4 (OpenSpec.ofChange Rows.upcastAppliesSpec) false w args)
      (Rows.upcastAppliesSpec.post enc Tryd.prog Tryd.f4 false true false false) := by
  refine returnsInHanded_of_change_and (C := Tryd.checked) (X := fun w _ => laidMetH Tryd.prog seatLaid w) (fun _ _ _ hh h => h.of_heap hh) own_knob started (by kernel_rfl) Tryd.func4
    (ChangeSpec.witness_at (enc := enc) (C := Tryd.checked) (os := os) (X := fun w _ => laidMetH Tryd.prog seatLaid w) false (laidWorld os) #[.slice none 0 0, .agg (evv [] 0 (.slice none 0 0))] 8 rfl (by kernel_rfl) (by kernel_rfl) (by kernel_rfl) (by kernel_rfl) (by kernel_rfl) (laidWorld_met os _)) ?_
  intro W base args ds gs before hval0 hW _ hsz0 hL _
  have hval : ∀ (j : Nat) t v, Tryd.f4.params[j]? = some t → args[j]? = some v → Value.okWide Tryd.prog W .any base t v := hval0
  have hsz : (DataW.weightsEach Tryd.prog (Tryd.f4.params.toList ++ Rows.upcastAppliesSpec.plain.varTypes Tryd.prog) (ds ++ gs)).all (· ≤ reachBytes) = true := hsz0
  have hW' := hW
  obtain ⟨p, q, hA0, hV, rfl, hfz, hnd⟩ := hW
  have hA : DataW.TrodAll enc Tryd.prog W 0 (fun _ => true) true Tryd.f4.params.toList args.toList ds p := hA0
  rw [Tryd.params4] at hA hval hsz
  obtain ⟨v0, vs0, d0, ds0, p0, q0, e0, rfl, rfl, h0, hA⟩ := trodAll_cons hA
  obtain ⟨v1, vs1, d1, ds1, p1, q1, rfl, rfl, rfl, h1, hA⟩ := trodAll_cons hA
  obtain ⟨rfl, rfl, rfl⟩ := trodAll_nil hA
  obtain rfl : args = #[v0, v1] := by cases args; simp_all
  obtain ⟨rfl, rfl⟩ := trodVars_none hV
  obtain ⟨a0, n0, c0, rfl⟩ := okWide_slice Tryd.underlying23 (hval 0 23 v0 rfl rfl)
  have k0 := h0
  have lt0 : ∀ x ∈ p0, x.block < W.heap.size := by obtain ⟨m, hm⟩ := k0; exact DataW.trod_lt m _ _ _ hm
  obtain ⟨l0, g0, f0, b0⟩ := open_ups hsz (j := 0) rfl h0 rfl
  have k1 := h1
  have lt1 : ∀ x ∈ p1, x.block < W.heap.size := by obtain ⟨m, hm⟩ := k1; exact DataW.trod_lt m _ _ _ hm
  obtain ⟨tp1, vr1, fa1, fc1, fs1, rfl, g1, f1, b1, t1, j1⟩ := open_event hsz (j := 1) rfl rfl (hval 1 26 v1 rfl rfl) h1
  clear hA0 hval0 hsz0
  refine (UpApplies.walk a0 n0 c0 l0 tp1 vr1 fa1 fc1 fs1 W g0 f0 b0 g1 f1 b1 t1 j1 (vars_of_laid hL)).mono fun e W' ⟨he, bel⟩ => ?_
  subst he
  exact ⟨_, rfl, _, _, _, [], _, [], hW', trodAll_mk1 (shut_bool Tryd.underlying4 _), (trodAll_cons_mk (Below.trod laid_out (by kernel_rfl) (of_decide_eq_true (by kernel_rfl)) k0 bel lt0) (trodAll_cons_mk (Below.trod laid_out (by kernel_rfl) (of_decide_eq_true (by kernel_rfl)) k1 bel lt1) trodAll_mk0)), rfl, bel.frame _, fun h => by cases h⟩

theorem upcastApplies_holds : Rows.UpcastAppliesSaid :=
  OpenClaim.holds_of_wide 4 Tryd.f4 rfl rfl rfl rfl rfl rfl rfl ⟨rfl, rfl, rfl, rfl, rfl⟩ rfl rfl rfl rfl rfl (by kernel_rfl) Tryd.func4 (by kernel_rfl)
    (of_decide_eq_true (by kernel_rfl)) (by unfold Func.isWrapper; first | (rw [if_pos (by decide +kernel)]; kernel_rfl) | (rw [if_neg (by decide +kernel)]; exact ⟨rfl, rfl⟩))
    (fun os started H enc _ => UpApplies.lifted os started H enc)

theorem upcastAppliesCard_holds : Rows.UpcastAppliesCardSaid :=
  Claim7.holds_tied_plain_at .later [] _ _ _ _
    upcastApplies_holds (fun _ h => by cases h) (by kernel_rfl) (fun _ h => by cases h) upcastApplies_row_tie rfl ⟨rfl, rfl⟩ (by kernel_rfl) rfl
    (fun f fn hf hfn => by
      obtain rfl : f = 4 := Option.some.inj ((show Tryd.prog.funcNamed "cartulary/cartularylaw14.UpcastApplies" = some 4 by kernel_rfl).symm.trans hf) |>.symm
      obtain rfl : fn = Tryd.f4 := (Option.some.inj (Tryd.func4.symm.trans hfn)).symm
      exact ⟨by kernel_rfl, fun j t ht => by
        rw [Tryd.params4] at ht
        have h0 : ∀ (t : TypeId), t ∈ ([23, 26] : List TypeId) → Tryd.prog.wantsStandIn t = false := by
          intro t ht
          simp only [List.mem_cons, List.not_mem_nil, or_false] at ht
          rcases ht with rfl | rfl <;> kernel_rfl
        exact h0 t (List.mem_of_getElem? (by simpa using ht))⟩)
    (by kernel_rfl)
#print axioms upcastAppliesCard_holds
end Go.Proofs.YtfgjbmpbailebaaDoor
