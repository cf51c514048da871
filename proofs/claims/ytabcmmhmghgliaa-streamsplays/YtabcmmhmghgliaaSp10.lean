/-
  DERIVED. The walk of the document's Try, where it goes well.
-/
import Derived.Test.YtabcmmhmghgliaaSp7
import Derived.Test.YtabcmmhmghgliaaXad
import Derived.Deep.RegionLaw
namespace Go.Proofs.Ytabcmmhmghgliaa
open Go.RowKit
set_option linter.unusedVariables false

set_option maxRecDepth 20000 in
set_option maxHeartbeats 8000000 in
theorem rTry_ok (rb : Nat) (Bs : List Bat) (s : List UInt8) (ex : Int) (k : List UInt8) (ea : Option Addr) (n ec : Nat) (es : List Evn) (w0 w : World) (hw0 : Below w0.heap.size w0 w) (hv0 : EvL w0 (.slice ea n ec) es) (h : RRd w rb Bs) (hok : BsOk Bs) (hs : s.length ≤ 9223372036854775807) (hk : k.length ≤ 9223372036854775807) (hv : EvL w (.slice ea n ec) es) (hfit : ∀ e ∈ es, fitE e) (hgood : tryOk (ixD Bs) s ex k es) :
    Calls Try.prog 38 #[.pointer (some ⟨rb, 0, none⟩), sv s, .int .i64 ex, sv k, .slice ea n ec] w fun e w' => ∃ va vc, e = .returned (.tuple #[.agg (apV ((ixD Bs).ver s) ((entD Bs).length : Int) (n : Int) false), .agg (bt s k ((ixD Bs).ver s) va n vc), .int .i64 0]) ∧ EVOwn w0 w' (w.heap.size + 2) (.slice va n vc) es ∧ Below w.heap.size w w' := by
  obtain ⟨wa, hwa⟩ : ∃ wa, wa = (w.alloc (.cells (apV 0 0 0 false) 44)).alloc (.cells (bt [] [] 0 none 0 0) 33) := ⟨_, rfl⟩
  have za : wa.heap.size = w.heap.size + 2 := by rw [hwa]; simp
  have ba : Below w.heap.size w wa := by rw [hwa]; exact ((Below.refl _ _).alloc (Nat.le_refl _) _).alloc (by simp) _
  have a1 : ABox wa w.heap.size 0 0 0 false := by unfold ABox; rw [hwa, Below.heap_alloc _ _ _ (by simp)]; exact heap_alloc_self _ _
  have b1 : BBox wa (w.heap.size + 1) [] [] 0 (.slice none 0 0) := by unfold BBox; rw [hwa, show w.heap.size + 1 = (w.alloc (.cells (apV 0 0 0 false) 44)).heap.size by simp]; exact heap_alloc_self _ _
  have HS := hide (⟨a1, b1, ba, by omega⟩ : TrSt w wa 0 0 0 false)
  have HRd := hide (h.grown ba)
  have HW0 := hide hw0
  have HEv0 := hide hv0
  clear hw0 hv0
  have HEv := hide (hv.below ba (Nat.le_refl _))
  have HOk := hide hok
  have HFit := hide hfit
  have CN := hide (snamed_any s k wa hs hk)
  have CK := hide (rKeyed_go rb Bs k wa (h.grown ba) hok hk)
  have HWa := hide hwa
  have HBa := hide ba
  obtain ⟨hnm, hD, hev, hx1, hxv⟩ := hgood
  have HEs := hide hev
  rw [ans_true hnm] at CN
  have hD' : keyD k 0 Bs = none := hD
  rw [hD'] at CK
  simp only [kdS, kdF, Option.isSome_none] at CK
  obtain ⟨V, hV⟩ : ∃ V, V = (ixD Bs).ver s := ⟨_, rfl⟩
  obtain ⟨P, hP⟩ : ∃ P, P = (entD Bs).length := ⟨_, rfl⟩
  have HPe := hide hP
  have HV : Hid (V = (ofD s (numL (entD Bs))).length) := hide (by rw [hV, ofD_len]; unfold Ix.ver; rw [plc_verL]; rfl)
  have hn : n = es.length := by obtain ⟨_, _, e, _⟩ := hv; cases e; rfl
  have HN := hide hn
  rw [← hV] at hxv ⊢
  rw [← hP]
  have q1 : decide (ex < -1) = false := decide_eq_false hx1
  clear h hok hv hfit a1 b1 ba za hwa hnm hD hev hD' hV hP hn
  go_enter Try.func38, Try.ntmps38
  go_upto_region 1 with fail
  rw [show (w.alloc (.cells #[Value.int .i64 0, .int .i64 0, .int .i64 0, .bool false] 44)).alloc (.cells #[Value.string ⟨#[]⟩, .string ⟨#[]⟩, .int .i64 0, .slice none 0 0] 33) = wa from (unhide HWa).symm]
  go_upto_region 4 with (go_at_call 41; refine (unhide CN).mono ?_; rintro e w5 ⟨rfl, rfl⟩)
  go_upto_region 5 with (go_at_call 32; refine (unhide CK).mono ?_; rintro e w2 ⟨rfl, b2⟩; have HS2 := hide ((unhide HS).on b2); have HB2 := hide b2; clear b2)
  have b3 : Below w2.heap.size w2 (w2.alloc (.cells (apV 0 0 0 false) 44)) := (Below.refl _ _).alloc (Nat.le_refl _) _
  obtain ⟨w3, hw3⟩ : ∃ w3, w3 = w2.alloc (.cells (apV 0 0 0 false) 44) := ⟨_, rfl⟩
  rw [show w2.alloc (.cells #[Value.int .i64 0, .int .i64 0, .int .i64 0, .bool false] 44) = w3 from hw3.symm]
  rw [← hw3] at b3
  have HS3 := hide ((unhide HS2).on b3)
  have HB3 := hide ((unhide HB2).trans (b3.mono (unhide HB2).size))
  have CR := hide (rright_go ea n ec es w3 ((unhide HEv).below (unhide HB3) (Nat.le_refl _)) (unhide HFit))
  rw [ans_true (unhide HEs)] at CR
  clear hw3 b3 CK CN HB2 HS2
  go_upto_region 11 with (go_at_call 42; refine (unhide CR).mono ?_; rintro e w4 ⟨rfl, b4⟩; have HS4 := hide ((unhide HS3).on b4); have HB4 := hide ((unhide HB3).trans (b4.mono (unhide HB3).size)); clear b4)
  clear CR
  have CO := hide (rOf_go rb Bs s w4 ((unhide HRd).grown (unhide HB4)) (unhide HOk) hs)
  go_upto_region 16 with (go_at_call 23; refine (unhide CO).mono ?_; rintro e w5 ⟨v5, rfl, u5, o5, b5, b45⟩; obtain ⟨oa, oc, he5⟩ := o5.sl; rw [← unhide HV] at he5; subst he5; have HS5 := hide ((unhide HS4).on b45); have HB5 := hide ((unhide HB4).trans (b45.mono (unhide HB4).size)); clear o5 b5 b45)
  clear CO
  rcases hxv with hxv | hxv
  · subst hxv
    have CE := hide (rEntries_go rb Bs w5 ((unhide HRd).grown (unhide HB5)) (unhide HOk))
    have HP : Hid ((numL (entD Bs)).length = P) := hide (by rw [numL_len, unhide HPe])
    obtain ⟨NL, hNL⟩ : ∃ NL, NL = numL (entD Bs) := ⟨_, rfl⟩
    rw [← hNL] at CE HP
    clear hNL
    go_wp2_with fail
    refine (unhide CE).mono ?_
    rintro e w6 ⟨v6, rfl, o6, b6⟩
    obtain ⟨pa, pc, he6⟩ := o6.sl
    rw [unhide HP] at he6
    subst he6
    have HS6 := hide ((unhide HS5).on b6)
    have HB6 := hide ((unhide HB5).trans (b6.mono (unhide HB5).size))
    clear o6 b6 CE
    have bA : Below w6.heap.size w6 (w6.alloc (.cells #[] 49)) := (Below.refl _ _).alloc (Nat.le_refl _) _
    have HBA := hide bA
    have HOA := hide (EVOwn.empty w0 w6)
    clear bA
    go_wp2_with (at_builtin; refine wpList_append_evr (w0 := w0) rfl (.tmp 78) (.tmp 79) rfl w6.heap.size _ [] rfl (unhide HOA) ea n ec es rfl (unhide HEv0) ((unhide HW0).trans (((unhide HBa).trans (((unhide HB6).trans ((unhide HBA).mono (unhide HB6).size)).mono (unhide HBa).size)).mono (unhide HW0).size)) (by have := unhide HEs; have := this.1; omega) (by have := (unhide HEs).2.1; simp only [List.length_nil]; omega) (by have := (unhide HBA).size; omega) ?_; intro v7 w7 o7 b7; rw [List.nil_append] at o7; obtain ⟨va, vc, he7⟩ := o7.sl; rw [← unhide HN] at he7; subst he7; have HO7 := hide o7; have HS7 := hide ((unhide HS6).on ((unhide HBA).trans b7)); clear o7 b7; have st := unhide HS7; obtain ⟨B0, hB0⟩ : ∃ B0, B0 = w.heap.size := ⟨_, rfl⟩; have a3 : ABox w7 B0 0 0 0 false := by { rw [hB0]; exact st.a0 }; have b3 : BBox w7 (B0 + 1) [] [] 0 (.slice none 0 0) := by { rw [hB0]; exact st.b0 }; have bl3 := st.bel; have a4 := a3.put (V : Int) (P : Int) (n : Int) false; have b4 := b3.other (q := B0) (by omega) (V : Int) (P : Int) (n : Int) false; have a5 := a4.other (q := B0 + 1) (by omega) s k (V : Int) (.slice va n vc); have b5 := b4.put s k (V : Int) (.slice va n vc); have bl5 := below_putB (below_put bl3 (q := B0) (by omega) (V : Int) (P : Int) (n : Int) false) (q := B0 + 1) (by omega) s k (V : Int) (.slice va n vc); have o8 := ((unhide HO7).keep (fun g hg => far8 (q := B0) (show g ≠ B0 by have := (unhide HS6).siz; omega) (show g ≠ B0 + 1 by have := (unhide HS6).siz; omega) (V : Int) (P : Int) (n : Int) false s k (V : Int) (.slice va n vc))).mono (base' := w.heap.size + 2) (unhide HS6).siz; obtain ⟨r0, r1, r2, r3, r4⟩ := a3.cells; obtain ⟨t0, t1, t2, t3, t4⟩ := b4.cells; have A5 := hide a5; have B5 := hide b5; have L5 := hide bl5; have O8 := hide o8; clear a3 b3 bl3 a4 b4 a5 b5 bl5 o8 st; rw [← hB0]; clear hB0)
    exact bodyPost_ret (results_cct rfl _ _ B0 44 (apV (V : Int) (P : Int) (n : Int) false) (0, 0) _ (B0 + 1) 33 (bt s k (V : Int) va n vc) (0, 0) _ (.int .i64 0) rfl rfl rfl (unhide A5) (unhide B5) Try.underlying44 rfl sizeApp Try.underlying33 rfl sizeBatch) rfl ⟨va, vc, rfl, unhide O8, unhide L5⟩
  · have hx0 : 0 ≤ ex := by omega
    have q2 : decide (0 ≤ ex) = true := decide_eq_true hx0
    have hne : (ex != (V : Int)) = false := by simpa [bne] using hxv
    have CE := hide (rEntries_go rb Bs w5 ((unhide HRd).grown (unhide HB5)) (unhide HOk))
    have HP : Hid ((numL (entD Bs)).length = P) := hide (by rw [numL_len, unhide HPe])
    obtain ⟨NL, hNL⟩ : ∃ NL, NL = numL (entD Bs) := ⟨_, rfl⟩
    rw [← hNL] at CE HP
    clear hNL
    go_wp2_with fail
    refine (unhide CE).mono ?_
    rintro e w6 ⟨v6, rfl, o6, b6⟩
    obtain ⟨pa, pc, he6⟩ := o6.sl
    rw [unhide HP] at he6
    subst he6
    have HS6 := hide ((unhide HS5).on b6)
    have HB6 := hide ((unhide HB5).trans (b6.mono (unhide HB5).size))
    clear o6 b6 CE
    have bA : Below w6.heap.size w6 (w6.alloc (.cells #[] 49)) := (Below.refl _ _).alloc (Nat.le_refl _) _
    have HBA := hide bA
    have HOA := hide (EVOwn.empty w0 w6)
    clear bA
    go_wp2_with (at_builtin; refine wpList_append_evr (w0 := w0) rfl (.tmp 78) (.tmp 79) rfl w6.heap.size _ [] rfl (unhide HOA) ea n ec es rfl (unhide HEv0) ((unhide HW0).trans (((unhide HBa).trans (((unhide HB6).trans ((unhide HBA).mono (unhide HB6).size)).mono (unhide HBa).size)).mono (unhide HW0).size)) (by have := unhide HEs; have := this.1; omega) (by have := (unhide HEs).2.1; simp only [List.length_nil]; omega) (by have := (unhide HBA).size; omega) ?_; intro v7 w7 o7 b7; rw [List.nil_append] at o7; obtain ⟨va, vc, he7⟩ := o7.sl; rw [← unhide HN] at he7; subst he7; have HO7 := hide o7; have HS7 := hide ((unhide HS6).on ((unhide HBA).trans b7)); clear o7 b7; have st := unhide HS7; obtain ⟨B0, hB0⟩ : ∃ B0, B0 = w.heap.size := ⟨_, rfl⟩; have a3 : ABox w7 B0 0 0 0 false := by { rw [hB0]; exact st.a0 }; have b3 : BBox w7 (B0 + 1) [] [] 0 (.slice none 0 0) := by { rw [hB0]; exact st.b0 }; have bl3 := st.bel; have a4 := a3.put (V : Int) (P : Int) (n : Int) false; have b4 := b3.other (q := B0) (by omega) (V : Int) (P : Int) (n : Int) false; have a5 := a4.other (q := B0 + 1) (by omega) s k (V : Int) (.slice va n vc); have b5 := b4.put s k (V : Int) (.slice va n vc); have bl5 := below_putB (below_put bl3 (q := B0) (by omega) (V : Int) (P : Int) (n : Int) false) (q := B0 + 1) (by omega) s k (V : Int) (.slice va n vc); have o8 := ((unhide HO7).keep (fun g hg => far8 (q := B0) (show g ≠ B0 by have := (unhide HS6).siz; omega) (show g ≠ B0 + 1 by have := (unhide HS6).siz; omega) (V : Int) (P : Int) (n : Int) false s k (V : Int) (.slice va n vc))).mono (base' := w.heap.size + 2) (unhide HS6).siz; obtain ⟨r0, r1, r2, r3, r4⟩ := a3.cells; obtain ⟨t0, t1, t2, t3, t4⟩ := b4.cells; have A5 := hide a5; have B5 := hide b5; have L5 := hide bl5; have O8 := hide o8; clear a3 b3 bl3 a4 b4 a5 b5 bl5 o8 st; rw [← hB0]; clear hB0)
    exact bodyPost_ret (results_cct rfl _ _ B0 44 (apV (V : Int) (P : Int) (n : Int) false) (0, 0) _ (B0 + 1) 33 (bt s k (V : Int) va n vc) (0, 0) _ (.int .i64 0) rfl rfl rfl (unhide A5) (unhide B5) Try.underlying44 rfl sizeApp Try.underlying33 rfl sizeBatch) rfl ⟨va, vc, rfl, unhide O8, unhide L5⟩
end Go.Proofs.Ytabcmmhmghgliaa

namespace Go.Proofs.Ytabcmmhmghgliaa
open Go.RowKit
set_option linter.unusedVariables false

theorem chk1 {I : Ix} {s k : List UInt8} {f : Int} {es : List Evn} (h : ¬ okNames s k) : chkA I s k f es = 100 := by unfold chkA; rw [if_pos h]
theorem chk2 {I : Ix} {s k : List UInt8} {f : Int} {es : List Evn} (h : okNames s k) (hk : (I.key k).isSome = true) : chkA I s k f es = 101 := by unfold chkA; rw [if_neg (fun q => q h), if_pos hk]
theorem chk3 {I : Ix} {s k : List UInt8} {f : Int} {es : List Evn} (h : okNames s k) (hk : ¬ (I.key k).isSome = true) (he : ¬ okEvs es) : chkA I s k f es = 102 := by unfold chkA; rw [if_neg (fun q => q h), if_neg hk, if_pos he]
theorem chk4 {I : Ix} {s k : List UInt8} {f : Int} {es : List Evn} (h : okNames s k) (hk : ¬ (I.key k).isSome = true) (he : okEvs es) (hf : f ≠ (I.ver s : Int)) : chkA I s k f es = 103 := by unfold chkA; rw [if_neg (fun q => q h), if_neg hk, if_neg (fun q => q he), if_pos hf]

set_option maxRecDepth 20000 in
set_option maxHeartbeats 8000000 in
theorem rAdd_bad (rb : Nat) (Bs : List Bat) (s k : List UInt8) (f : Int) (ea : Option Addr) (n ec : Nat) (es : List Evn) (w : World) (h : RRd w rb Bs) (hok : BsOk Bs) (hs : s.length ≤ 9223372036854775807) (hk : k.length ≤ 9223372036854775807) (hv : EvL w (.slice ea n ec) es) (hfit : ∀ e ∈ es, fitE e) (hbad : chkA (ixD Bs) s k f es ≠ 0) :
    Calls Try.prog 20 #[.pointer (some ⟨rb, 0, none⟩), .agg (bt s k f ea n ec)] w fun e w' => e = .returned (.int .i64 (chkA (ixD Bs) s k f es)) ∧ Below w.heap.size w w' := by
  obtain ⟨wa, hwa⟩ : ∃ wa, wa = w.alloc (.cells (bt s k f ea n ec) 33) := ⟨_, rfl⟩
  have ba : Below w.heap.size w wa := by rw [hwa]; exact (Below.refl _ _).alloc (Nat.le_refl _) _
  have hx : wa.heap[w.heap.size]? = some (.cells (bt s k f ea n ec) 33 (0, 0)) := by rw [hwa]; exact heap_alloc_self _ _
  have HBx : Hid (∀ W, Below wa.heap.size wa W → W.cell? ⟨w.heap.size, 0, none⟩ = some (sv s) ∧ W.cell? ⟨w.heap.size, 1, none⟩ = some (sv k) ∧ W.cell? ⟨w.heap.size, 2, none⟩ = some (.int .i64 f) ∧ W.cell? ⟨w.heap.size, 3, none⟩ = some (.slice ea n ec)) := hide (fun W hW => ⟨keptQ hW ((cell_of_row _ _ _ _ _ _ hx).trans rfl), keptQ hW ((cell_of_row _ _ _ _ _ _ hx).trans rfl), keptQ hW ((cell_of_row _ _ _ _ _ _ hx).trans rfl), keptQ hW ((cell_of_row _ _ _ _ _ _ hx).trans rfl)⟩)
  have HE : Hid (∀ W, Below wa.heap.size wa W → Below w.heap.size w W) := hide (fun W hW => ba.trans (hW.mono ba.size))
  have HRd := hide (h.grown ba)
  have HEv := hide (hv.below ba (Nat.le_refl _))
  have HOk := hide hok
  have HFit := hide hfit
  have CN := hide (snamed_any s k wa hs hk)
  have CK := hide (rKeyed_go rb Bs k wa (h.grown ba) hok hk)
  have HWa := hide hwa
  have HB0 : Hid (Below wa.heap.size wa wa) := hide (Below.refl _ _)
  obtain ⟨T, hT⟩ : ∃ T, T = chkA (ixD Bs) s k f es := ⟨_, rfl⟩
  have HT := hide hT
  rw [← hT] at hbad ⊢
  obtain ⟨NB, hNB⟩ : ∃ NB, NB = ans (okNames s k) := ⟨_, rfl⟩
  obtain ⟨KB, hKB⟩ : ∃ KB, KB = (keyD k 0 Bs).isSome := ⟨_, rfl⟩
  obtain ⟨EB, hEB⟩ : ∃ EB, EB = ans (okEvs es) := ⟨_, rfl⟩
  rw [← hNB] at CN
  obtain ⟨KS, hKS⟩ : ∃ KS, KS = kdS (keyD k 0 Bs) := ⟨_, rfl⟩
  obtain ⟨kf, kp, kc, hKF⟩ : ∃ f p c : Int, kdF (keyD k 0 Bs) = apV f p c false := by cases keyD k 0 Bs <;> exact ⟨_, _, _, rfl⟩
  rw [← hKB, ← hKS, hKF] at CK
  have HNB := hide hNB
  have HKB := hide hKB
  have HEB := hide hEB
  obtain ⟨B0, hB0⟩ : ∃ B0, B0 = w.heap.size := ⟨_, rfl⟩
  have HB00 := hide hB0
  rw [← hB0] at HBx
  clear hT h hok hv hfit ba hx hwa hNB hKB hEB hKS hKF hB0
  obtain ⟨x0, x1, x2, x3⟩ := unhide HBx wa (unhide HB0)
  go_enter Try.func20, Try.ntmps20
  go_upto_region 1 with fail
  rw [show w.alloc (.cells #[Value.string ⟨s.toArray⟩, .string ⟨k.toArray⟩, .int .i64 f, .slice ea n ec] 33) = wa from (unhide HWa).symm]
  rw [← unhide HB00]
  go_upto_region 2 with (go_at_call 41; refine (unhide CN).mono ?_; rintro e w5 ⟨rfl, rfl⟩)
  go_upto_region 3 with (go_at_call 32; refine (unhide CK).mono ?_; rintro e w2 ⟨rfl, b2⟩; have HB2 := hide b2; clear b2)
  have b3 : Below w2.heap.size w2 (w2.alloc (.cells (apV kf kp kc false) 44)) := (Below.refl _ _).alloc (Nat.le_refl _) _
  obtain ⟨w3, hw3⟩ : ∃ w3, w3 = w2.alloc (.cells (apV kf kp kc false) 44) := ⟨_, rfl⟩
  rw [show w2.alloc (.cells #[Value.int .i64 kf, .int .i64 kp, .int .i64 kc, .bool false] 44) = w3 from hw3.symm]
  rw [← hw3] at b3
  have HB3 := hide ((unhide HB2).trans (b3.mono (unhide HB2).size))
  have CR := hide (rright_go ea n ec es w3 ((unhide HEv).below (unhide HB3) (Nat.le_refl _)) (unhide HFit))
  rw [← unhide HEB] at CR
  clear hw3 b3 CK CN x0 x1 x2 x3
  obtain ⟨x0, x1, x2, x3⟩ := unhide HBx w3 (unhide HB3)
  go_upto_region 4 with (go_at_call 42; refine (unhide CR).mono ?_; rintro e w4 ⟨rfl, b4⟩; have HB4 := hide ((unhide HB3).trans (b4.mono (unhide HB3).size)); clear b4)
  clear CR x0 x1 x2 x3
  have HE4 := hide (unhide HE w4 (unhide HB4))
  cases NB with
  | false =>
    have hnm : ¬ okNames s k := fun q => by have := unhide HNB; rw [ans_true q] at this; cases this
    have HX : Hid (T = 100) := hide (by rw [unhide HT, chk1 hnm])
    clear hnm
    go_wp2_with fail
    go_ret
    exact ⟨by rw [unhide HX]; rfl, unhide HE4⟩
  | true =>
    have hnm : okNames s k := Classical.byContradiction fun q => by have := unhide HNB; rw [ans_false q] at this; cases this
    have HNm := hide hnm
    clear hnm
    cases KB with
    | true =>
      have HX : Hid (T = 101) := hide (by rw [unhide HT, chk2 (unhide HNm) (by show (keyD k 0 Bs).isSome = true; exact (unhide HKB).symm)])
      go_wp2_with fail
      go_ret
      exact ⟨by rw [unhide HX]; rfl, unhide HE4⟩
    | false =>
      have HKn : Hid (¬ ((ixD Bs).key k).isSome = true) := hide (by show ¬ (keyD k 0 Bs).isSome = true; rw [← unhide HKB]; simp)
      cases EB with
      | false =>
        have hev : ¬ okEvs es := fun q => by have := unhide HEB; rw [ans_true q] at this; cases this
        have HX : Hid (T = 102) := hide (by rw [unhide HT, chk3 (unhide HNm) (unhide HKn) hev])
        clear hev
        go_wp2_with fail
        go_ret
        exact ⟨by rw [unhide HX]; rfl, unhide HE4⟩
      | true =>
        have hev : okEvs es := Classical.byContradiction fun q => by have := unhide HEB; rw [ans_false q] at this; cases this
        have hf : f ≠ ((ixD Bs).ver s : Int) := fun q => hbad (by rw [unhide HT]; unfold chkA; rw [if_neg (fun z => z (unhide HNm)), if_neg (unhide HKn), if_neg (fun z => z hev), if_neg (fun z => z q)])
        have HX : Hid (T = 103) := hide (by rw [unhide HT, chk4 (unhide HNm) (unhide HKn) hev hf])
        have HV : Hid (((ixD Bs).ver s : Nat) = (ofD s (numL (entD Bs))).length) := hide (by rw [ofD_len]; unfold Ix.ver; rw [plc_verL]; rfl)
        obtain ⟨V, hV⟩ : ∃ V, V = (ixD Bs).ver s := ⟨_, rfl⟩
        rw [← hV] at hf HV
        have hne : (f != (V : Int)) = true := by simpa [bne] using hf
        clear hev hf hV hbad
        have HSV : Hid (∀ W, Below w4.heap.size w4 W → W.cell? ⟨B0, 0, none⟩ = some (sv s) ∧ W.cell? ⟨B0, 2, none⟩ = some (.int .i64 f)) := hide (fun W hW => by
          obtain ⟨q0, q1, q2, q3⟩ := unhide HBx W ((unhide HB4).trans (hW.mono (unhide HB4).size))
          exact ⟨q0, q2⟩)
        have bD : Below w4.heap.size w4 w4.drew := (Below.refl _ _).drew
        have S0 := hide (unhide HSV _ (Below.refl _ _))
        have SD := hide (unhide HSV _ bD)
        have CO := hide (rOf_go rb Bs s w4.drew ((unhide HRd).grown ((unhide HB4).trans (bD.mono (unhide HB4).size))) (unhide HOk) hs)
        have BD := hide bD
        clear bD
        go_upto_region 10 with fail
        go_region_held3 (fun W => W.cell? ⟨B0, 0, none⟩ = some (sv s) ∧ W.cell? ⟨B0, 2, none⟩ = some (.int .i64 f))
          (first | with_reducible exact unhide S0 | with_reducible exact unhide SD | with_reducible exact unhide S7)
          ((go_at_call 23; refine (unhide CO).mono ?_; rintro e w5 ⟨v5, rfl, u5, o5, b5, b45⟩; obtain ⟨oa, oc, he5⟩ := o5.sl; rw [← unhide HV] at he5; subst he5; have HB5 := hide ((unhide BD).trans (b45.mono (unhide BD).size)); have S7 := hide (unhide HSV _ (unhide HB5)); clear o5 b5 b45))
        have HE5 := hide ((unhide HE4).trans ((unhide HB5).mono (unhide HE4).size))
        go_wp2
        go_ret
        exact ⟨by rw [unhide HX]; rfl, unhide HE5⟩
end Go.Proofs.Ytabcmmhmghgliaa

namespace Go.Proofs.Ytabcmmhmghgliaa
open Go.RowKit
set_option linter.unusedVariables false

structure BtR where
  b : Bat
  a : Option Addr
  c : Nat
def bcs (l : List BtR) : List Value := l.flatMap fun r => [sv r.b.s, sv r.b.k, .int .i64 (r.b.f : Int), .slice r.a r.b.es.length r.c]
theorem bcs_len (l : List BtR) : (bcs l).length = l.length * 4 := by
  induction l with
  | nil => rfl
  | cons d r ih => rw [show bcs (d :: r) = [sv d.b.s, sv d.b.k, .int .i64 (d.b.f : Int), .slice d.a d.b.es.length d.c] ++ bcs r from rfl, List.length_append, ih]; simp; omega
theorem bcs_append (a b : List BtR) : bcs (a ++ b) = bcs a ++ bcs b := by simp [bcs]
theorem bcs_one (l : List BtR) : ∀ u ∈ bcs l, u.oneCell' = true := by
  intro u hu
  obtain ⟨d, _, hd⟩ := List.mem_flatMap.1 hu
  simp only [List.mem_cons, List.not_mem_nil, or_false] at hd
  rcases hd with rfl | rfl | rfl | rfl <;> rfl
theorem bcs_get : ∀ (l : List BtR) (i : Nat) (r : BtR), l[i]? = some r → (bcs l)[i * 4]? = some (sv r.b.s) ∧ (bcs l)[i * 4 + 1]? = some (sv r.b.k) ∧ (bcs l)[i * 4 + 2]? = some (.int .i64 (r.b.f : Int)) ∧ (bcs l)[i * 4 + 3]? = some (.slice r.a r.b.es.length r.c)
  | [], _, _, h => by simp at h
  | d :: t, 0, r, h => by simp at h; subst h; simp [bcs]
  | d :: t, i + 1, r, h => by
    have ih := bcs_get t i r (by simpa using h)
    have e : ∀ j, (bcs (d :: t))[(i + 1) * 4 + j]? = (bcs t)[i * 4 + j]? := fun j => by
      rw [show bcs (d :: t) = [sv d.b.s, sv d.b.k, .int .i64 (d.b.f : Int), .slice d.a d.b.es.length d.c] ++ bcs t from rfl, List.getElem?_append_right (by simp; omega)]
      congr 1
      simp; omega
    exact ⟨(e 0).trans ih.1, (e 1).trans ih.2.1, (e 2).trans ih.2.2.1, (e 3).trans ih.2.2.2⟩
/-- The document's index at rb: its batches stand in the row v, of its own. -/
def RRow (w : World) (base : Nat) (v : Value) (rs : List BtR) : Prop := w.ownsRow base 33 4 v rs.length (bcs rs)
/-- Events that stay as long as G's blocks do. -/
def FarE (G : Nat → Prop) (w : World) (a : Option Addr) (n c : Nat) (es : List Evn) : Prop := ∀ A : World, w.heap.size ≤ A.heap.size → (∀ q, G q → A.heap[q]? = w.heap[q]?) → EvL A (.slice a n c) es
theorem FarE.on {G : Nat → Prop} {w w' : World} {a : Option Addr} {n c : Nat} {es : List Evn} (h : FarE G w a n c es) (hs : w.heap.size ≤ w'.heap.size) (hk : ∀ q, G q → w'.heap[q]? = w.heap[q]?) : FarE G w' a n c es := fun A hA hq => h A (Nat.le_trans hs hA) fun q hG => (hq q hG).trans (hk q hG)
def RIn (w : World) (G : Nat → Prop) (rb base : Nat) (Bs : List Bat) : Prop := ∃ v rs, w.heap[rb]? = some (.cells #[v] 29 (0, 0)) ∧ RRow w base v rs ∧ rs.map (·.b) = Bs ∧ ¬ G rb ∧ (∀ q, v.ownBlock = some q → ¬ G q) ∧ ∀ r ∈ rs, FarE G w r.a r.b.es.length r.c r.b.es
theorem RRow.slq {w : World} {base : Nat} {v : Value} {rs : List BtR} (h : RRow w base v rs) (he : ∀ r ∈ rs, EvL w (.slice r.a r.b.es.length r.c) r.b.es) : SlQ 4 BtAt w v (rs.map (·.b)) := by
  have hr0 : w.ownsRow base 33 4 v rs.length (bcs rs) := h
  obtain ⟨g1, g2⟩ := h
  rcases g2 with ⟨e1, h0⟩ | ⟨g, cap, cur, e1, hbb, hg, hn, hm, _⟩
  · have : rs = [] := List.eq_nil_of_length_eq_zero h0
    subst this
    subst e1
    exact ⟨none, 0, rfl, by simp, by omega, fun h => absurd rfl h⟩
  · subst e1
    refine ⟨some ⟨g, 0, none⟩, cap, by rw [List.length_map], by rw [List.length_map]; exact hn, by unfold maxLen at hm; omega, fun _ => ⟨g, 0, rfl, lt_of_block hg, fun i x hi => ?_⟩⟩
    rw [List.getElem?_map] at hi
    obtain ⟨r, hri, rfl⟩ := Option.map_eq_some_iff.1 hi
    obtain ⟨q0, q1, q2, q3⟩ := bcs_get rs i r hri
    have hid := (List.getElem?_eq_some_iff.1 hri).1
    have at' : ∀ j, j < rs.length * 4 → w.cell? ⟨g, j, none⟩ = (bcs rs)[j]? := fun j hj => hr0.cellAt j hj
    rw [Nat.zero_add]
    exact ⟨(at' _ (by omega)).trans q0, (at' _ (by omega)).trans q1, (at' _ (by omega)).trans q2, r.a, r.c, (at' _ (by omega)).trans q3, he r (List.mem_of_getElem? hri)⟩
theorem RIn.rd {w : World} {G : Nat → Prop} {rb base : Nat} {Bs : List Bat} (h : RIn w G rb base Bs) : RRd w rb Bs := by
  obtain ⟨v, rs, h1, h2, rfl, _, _, h4⟩ := h
  exact ⟨v, (cell_of_row _ _ _ _ _ _ h1).trans rfl, h2.slq (fun r hr => h4 r hr w (Nat.le_refl _) fun _ _ => rfl)⟩
/-- Where a row of one's own lies behind an append: where it lay, or anew. -/
theorem app_where {P : Program} (w : World) (base : Nat) (t ty e : TypeId) (i : TypeInfo) (z : Value) (size bytes : Nat) (ht : P.underlying t = some (.slice e)) (hi : P.info? e = some i) (hz : i.zero = some z)
    (hsize : i.size = size) (hby : i.bytes = bytes) (hsz : 0 < size)
    (v : Value) (n : Nat) (xs : List Value) (hown : w.ownsRow base e size v n xs)
    (a : Addr) (m c : Nat) (news : List Value) (hl : news.length = m * size) (hnews : ∀ j u, news[j]? = some u → w.cell? (a.add j) = some u) (h1 : ∀ u ∈ news, u.oneCell' = true)
    (h63 : n + m ≤ maxLen) (hbytes : (n + m) * bytes ≤ 140737488355328) (v' : Value) (w' : World) (hrun : (Builtin.append_ #[t, t] ty #[v, .slice (some a) m c]).run P w = .ok v' w') : ∀ q, v'.ownBlock = some q → v.ownBlock = some q ∨ w.heap.size ≤ q := by
  subst hsize
  subst hby
  have hsmall : n + m ≤ 9223372036854775807 := by simp only [maxLen] at h63; omega
  intro q hq
  rcases hown.2 with ⟨rfl, rfl⟩ | ⟨g, cap, cur, rfl, hbg, hg, hnc, hcm, hcs, htake⟩
  · by_cases hm : m = 0
    · subst hm
      have hn : news = [] := List.eq_nil_of_length_eq_zero (by simpa using hl)
      subst hn
      have hr : (Builtin.append_ #[t, t] ty #[.slice none 0 0, .slice (some a) 0 c]).run P w = .ok (.slice none 0 0) w := by
        simp [Builtin.append_, run_underlying ht, sizeOf, typeInfo, hi, Builtin.lenOf, Builtin.firstCells, loadCells, loadCellsFrom]
      rw [hr] at hrun
      cases hrun
      cases hq
    · have hr := Go.run_append_nil (P := P) w t ty e i z ht hi hz a m c news hl hnews (by omega) (by omega) (by have hb := hbytes; simp only [Nat.zero_add] at hb; omega)
      rw [hr] at hrun
      cases hrun
      simp only [Value.ownBlock, Option.some.injEq] at hq
      exact .inr (by omega)
  · by_cases hroom : n + m ≤ cap
    · have hfit : n * i.size + news.length ≤ cur.size := by rw [hl, hcs, ← Nat.add_mul]; exact Nat.mul_le_mul_right _ hroom
      have hr := run_append_room (P := P) w t ty e i ht hi g n cap cur hg a m c news hl hnews h1 hroom hfit
      rw [hr] at hrun
      cases hrun
      exact .inl hq
    · have holds : ∀ j u, xs[j]? = some u → w.cell? ((⟨g, 0, none⟩ : Addr).add j) = some u := hown.cells (g := g) rfl
      have hr := run_append_grow (P := P) w t ty e i z ht hi hz ⟨g, 0, none⟩ n cap xs hown.1 holds a m c news hl hnews (by omega) (by omega) (growslice_fits (by omega) hbytes)
      rw [hr] at hrun
      cases hrun
      simp only [Value.ownBlock, Option.some.injEq] at hq
      exact .inr (by omega)
theorem infoBatch : (Try.prog.info? 33).map (fun i => (i.zero, i.size, i.bytes)) = some (some (.agg (bt [] [] 0 none 0 0)), 4, 64) := by kernel_rfl
/-- An append of a batch, as a step. -/
theorem step_append_bt {ops : Array Oper} {o : Oper} {a : Act} {w : World} {K : Act → World → Prop} {Q : Exit → Act → World → Prop} {E : Prop}
    (hg : o.guard = none) (s x : Operand) (ho : o.op = .call { callee := .builtin .append, args := #[s, x], argTypes := #[27, 27] })
    (base : Nat) (v : Value) (rs : List BtR) (hs : a.eval s = v) (hown : RRow w base v rs) (q : Nat) (r : BtR) (hx : a.eval x = .slice (some ⟨q, 0, none⟩) 1 1) (hq : w.heap[q]? = some (.cells (bt r.b.s r.b.k (r.b.f : Int) r.a r.b.es.length r.c) 33 (0, 0))) (hlen : rs.length ≤ 1000000) (hbase : base ≤ w.heap.size)
    (hK : ∀ v' w', RRow w' base v' (rs ++ [r]) → (∃ g c, v' = .slice (some g) (rs.length + 1) c) → w.grownBy w' v.ownBlock → (∀ q, v'.ownBlock = some q → v.ownBlock = some q ∨ w.heap.size ≤ q) → K (a.put o.dst v') w') :
    if Region.wanted o (yielded ops a.tmps) = true then Oper.wp Try.prog o a w K Q else E := by
  have hw : Region.wanted o (yielded ops a.tmps) = true := by simp [Region.wanted, hg]
  rw [if_pos hw]
  obtain ⟨i0, hi, hh⟩ := Option.map_eq_some_iff.1 infoBatch
  simp only [Prod.mk.injEq] at hh
  obtain ⟨v', w', hrun, r1, r2, r3⟩ := run_append_own (P := Try.prog) w base 27 o.type 33 i0 _ 4 64 Try.underlying27 hi hh.1 hh.2.1 hh.2.2 rfl (by decide) v rs.length (bcs rs) hown ⟨q, 0, none⟩ 1 1 (bcs [r]) (by simp [bcs]) (fun j u hj => by
    rw [addr_add, Nat.zero_add, cell_of_row _ _ _ _ _ _ hq, ← hj]; simp [bcs]) (bcs_one _) (by unfold maxLen; omega) (by omega) hbase
  have r4 := app_where w base 27 o.type 33 i0 _ 4 64 Try.underlying27 hi hh.1 hh.2.1 hh.2.2 (by decide) v rs.length (bcs rs) hown ⟨q, 0, none⟩ 1 1 (bcs [r]) (by simp [bcs]) (fun j u hj => by
    rw [addr_add, Nat.zero_add, cell_of_row _ _ _ _ _ _ hq, ← hj]; simp [bcs]) (bcs_one _) (by unfold maxLen; omega) (by omega) v' w' hrun
  unfold Oper.wp
  simp [execOp, ho, resolve, invoke, builtin, hs, hx, hrun, Result.andThen]
  refine hK v' w' (by unfold RRow; rw [bcs_append, List.length_append]; exact r1) ?_ r2 r4
  rcases r1.2 with ⟨e, h0⟩ | ⟨g, cap, cur, e, _⟩
  · omega
  · exact ⟨_, _, e⟩
end Go.Proofs.Ytabcmmhmghgliaa
