/-
  DERIVED. The document's Check and Write.
-/
import Derived.Test.YtfgjbmpbailebaaDoorShR2
namespace Go.Proofs.YtfgjbmpbailebaaDoor
open Go.RowKit
set_option linter.unusedVariables false

/-- The name ahead of place k. -/
def aheadN (fs : List Fld) (k : Nat) : List UInt8 := if k = 0 then [] else (fs[k - 1]?.getD ⟨[], false, 0, []⟩).name

theorem not_le_nil {s : List UInt8} (h : nameB s = true) : ¬ s ≤ [] := by
  have := (nameB_len h).1
  exact List.not_le.2 (nil_lt this)

set_option maxHeartbeats 4000000 in
theorem rCheck_any (a : Option Addr) (n c : Nat) (fs : List Fld) (w : World) (hv : FdL w (.slice a n c) fs) (hfit : ∀ f ∈ fs, fits f) :
    Calls Tryd.prog 15 #[.slice a n c] w fun e w' => e = .returned (.int .i64 (checkF fs)) ∧ Below w.heap.size w w' := by
  obtain ⟨ao, cap, e, g1, g2, g4⟩ := id hv
  cases e
  by_cases h16 : 16 < fs.length
  · have HA : Hid (checkF fs = 120) := hide (by simp [checkF, h16])
    have h16' : (16 : Int) < fs.length := by omega
    clear g4 hv hfit
    go_enter Tryd.func15, Tryd.ntmps15
    go_wp2_with fail
    go_ret
    rw [unhide HA]
    exact ⟨rfl, Below.refl _ _⟩
  · have HA : Hid (checkF fs = chkL [] fs) := hide (by simp [checkF, h16])
    obtain ⟨N, hN⟩ : ∃ N, N = fs.length := ⟨_, rfl⟩
    have HN := hide hN
    have H4 := hide g4
    have HFit := hide hfit
    rw [← hN] at g1 h16 ⊢
    have h16' : (N : Int) ≤ 16 := by omega
    clear g4 hN hv hfit
    rw [unhide HA]
    go_enter Tryd.func15, Tryd.ntmps15
    go_wp2_with fail
    go_loopw [3, 4] (fun i _ wr => ∃ (k : Nat), k ≤ N ∧ i = .int .i64 k ∧ Hid (chkL [] fs = chkL (aheadN fs k) (fs.drop k)) ∧ Hid (Below w.heap.size w wr)) (fun i _ _ => N - (intOf i).toNat)
    case atStart => exact ⟨0, by omega, rfl, hide (by simp [aheadN]), hide (Below.refl _ _)⟩
    case round =>
      obtain ⟨k, hk, rfl, HC, HB⟩ := hrel
      by_cases hlt : k < N
      · have hkl : k < fs.length := by have := unhide HN; omega
        obtain ⟨b, off, rfl, hb, hc⟩ := unhide H4 (by omega)
        obtain ⟨c0, c1, c2, c3⟩ := hc k hkl
        obtain ⟨f, hf⟩ : ∃ f, f = fs[k] := ⟨_, rfl⟩
        rw [← hf] at c0 c1 c2 c3
        have hfk : fs[k]? = some f := by rw [hf]; exact List.getElem?_eq_getElem hkl
        have HF : Hid (fs.drop k = f :: fs.drop (k + 1)) := hide (drop_fld hfk)
        have HFk := hide hfk
        have HFf := hide (unhide HFit f (by rw [hf]; exact List.getElem_mem hkl))
        have hsz := (unhide HB).size
        have HCell : Hid (∀ W, Below w.heap.size w W → W.cell? ⟨b, off + k * 4, none⟩ = some (sv f.name) ∧ W.cell? ⟨b, off + k * 4 + 1, none⟩ = some (.bool f.text) ∧ W.cell? ⟨b, off + k * 4 + 2, none⟩ = some (.int .i64 f.n) ∧ W.cell? ⟨b, off + k * 4 + 3, none⟩ = some (sv f.s)) := hide (fun W hW => ⟨(hW.cell (p := ⟨b, off + k * 4, none⟩) hb).trans c0, (hW.cell (p := ⟨b, off + k * 4 + 1, none⟩) hb).trans c1, (hW.cell (p := ⟨b, off + k * 4 + 2, none⟩) hb).trans c2, (hW.cell (p := ⟨b, off + k * 4 + 3, none⟩) hb).trans c3⟩)
        have HPrev : Hid (∀ W, Below w.heap.size w W → 0 < k → W.cell? ⟨b, off + (k - 1) * 4, none⟩ = some (sv (aheadN fs k))) := hide (fun W hW hk0 => by
          have := (hc (k - 1) (by omega)).1
          have e : aheadN fs k = fs[k - 1].name := by unfold aheadN; rw [if_neg (by omega), List.getElem?_eq_getElem (by omega)]; rfl
          rw [e]
          exact (hW.cell (p := ⟨b, off + (k - 1) * 4, none⟩) hb).trans this)
        obtain ⟨d0, d1, d2, d3⟩ := unhide HCell wr (unhide HB)
        clear hf hc c0 c1 c2 c3 hfk
        obtain ⟨fn, ft, fi, fss⟩ := f
        simp only at d0 d1 d2 d3
        obtain ⟨M, hM⟩ : ∃ M, M = mayF ⟨fn, ft, fi, fss⟩ := ⟨_, rfl⟩
        have HM := hide hM
        by_cases hm : M = 0
        · have hm' : (M != 0) = false := by simp [hm]
          have hnm : nameB fn = true := (may_ok (hM.symm.trans hm)).1
          have HNx : Hid (aheadN fs (k + 1) = fn) := hide (by unfold aheadN; rw [if_neg (by omega), Nat.add_sub_cancel, unhide HFk]; rfl)
          obtain ⟨pn, hpn⟩ : ∃ pn, pn = aheadN fs k := ⟨_, rfl⟩
          rw [← hpn] at HC HPrev
          have HStep : Hid (chkL [] fs = if fn ≤ pn then 123 else chkL fn (fs.drop (k + 1))) := hide (by rw [unhide HC, unhide HF, chkL, if_neg (by rw [← hM]; simpa using hm)])
          by_cases hk0 : k = 0
          · have hpe : pn = [] := by rw [hpn, hk0]; rfl
            have HR : Hid (chkL [] fs = chkL fn (fs.drop (k + 1))) := hide (by rw [unhide HStep, if_neg (by rw [hpe]; exact not_le_nil hnm)])
            have hg : decide ((0 : Int) < (k : Int)) = false := decide_eq_false (by omega)
            have hg2 : decide (0 < k) = false := decide_eq_false (by omega)
            clear hM hm hpn hpe hk0
            go_upto_region 9 with (go_at_call 29; refine (rField_any ⟨fn, ft, fi, fss⟩ _ (unhide HFf)).mono ?_; rintro e w4 ⟨rfl, b4⟩; rw [← unhide HM]; have HB4 := hide ((unhide HB).trans (b4.mono hsz)); clear b4)
            go_quiet (fail)
            go_wp2
            go_roundw
            case rel => exact ⟨k + 1, by omega, by go_num, hide (by rw [unhide HNx]; exact unhide HR), hide (below_drewN (unhide HB4) _)⟩
            case measure => simp [intOf]; omega
          · obtain ⟨j, hj⟩ : ∃ j, k = j + 1 := ⟨k - 1, by omega⟩
            have hkj : (k : Int) - 1 = (j : Int) := by omega
            have hjN : j < N := by omega
            have hjN' : (j : Int) < (N : Int) := by omega
            have hg : decide ((0 : Int) < (k : Int)) = true := decide_eq_true (by omega)
            have hg2 : decide (0 < k) = true := decide_eq_true (by omega)
            have HPrev2 : Hid (∀ W, Below w.heap.size w W → W.cell? ⟨b, off + j * 4, none⟩ = some (sv pn)) := hide (fun W hW => by have := unhide HPrev W hW (by omega); rwa [show k - 1 = j by omega] at this)
            by_cases hle : fn ≤ pn
            · have HR : Hid (chkL [] fs = 123) := hide (by rw [unhide HStep, if_pos hle])
              have hq : (Op.bytesLess fn pn || fn == pn) = true := by rw [str_le]; exact decide_eq_true hle
              clear hM hm hpn hk0 hj hle HPrev
              go_upto_region 9 with (go_at_call 29; refine (rField_any ⟨fn, ft, fi, fss⟩ _ (unhide HFf)).mono ?_; rintro e w4 ⟨rfl, b4⟩; rw [← unhide HM]; have HB4 := hide ((unhide HB).trans (b4.mono hsz)); clear b4)
              have HX : Hid (∀ m, (w4.drewN m).cell? ⟨b, off + k * 4, none⟩ = some (sv fn) ∧ (w4.drewN m).cell? ⟨b, off + j * 4, none⟩ = some (sv pn)) := hide (fun m => ⟨(unhide HCell _ (below_drewN (unhide HB4) m)).1, unhide HPrev2 _ (below_drewN (unhide HB4) m)⟩)
              have x0 : ∀ m, (w4.drewN m).cell? ⟨b, off + k * 4, none⟩ = some (sv fn) := fun m => (unhide HX m).1
              have x1 : ∀ m, (w4.drewN m).cell? ⟨b, off + j * 4, none⟩ = some (sv pn) := fun m => (unhide HX m).2
              go_quiet (fail)
              go_wp2
              go_ret
              rw [unhide HR]
              exact ⟨rfl, below_drewN (unhide HB4) _⟩
            · have HR : Hid (chkL [] fs = chkL fn (fs.drop (k + 1))) := hide (by rw [unhide HStep, if_neg hle])
              have hq : (Op.bytesLess fn pn || fn == pn) = false := by rw [str_le]; exact decide_eq_false hle
              clear hM hm hpn hk0 hj hle HPrev
              go_upto_region 9 with (go_at_call 29; refine (rField_any ⟨fn, ft, fi, fss⟩ _ (unhide HFf)).mono ?_; rintro e w4 ⟨rfl, b4⟩; rw [← unhide HM]; have HB4 := hide ((unhide HB).trans (b4.mono hsz)); clear b4)
              have HX : Hid (∀ m, (w4.drewN m).cell? ⟨b, off + k * 4, none⟩ = some (sv fn) ∧ (w4.drewN m).cell? ⟨b, off + j * 4, none⟩ = some (sv pn)) := hide (fun m => ⟨(unhide HCell _ (below_drewN (unhide HB4) m)).1, unhide HPrev2 _ (below_drewN (unhide HB4) m)⟩)
              have x0 : ∀ m, (w4.drewN m).cell? ⟨b, off + k * 4, none⟩ = some (sv fn) := fun m => (unhide HX m).1
              have x1 : ∀ m, (w4.drewN m).cell? ⟨b, off + j * 4, none⟩ = some (sv pn) := fun m => (unhide HX m).2
              go_quiet (fail)
              go_wp2
              go_roundw
              case rel => exact ⟨k + 1, by omega, by go_num, hide (by rw [unhide HNx]; exact unhide HR), hide (below_drewN (unhide HB4) _)⟩
              case measure => simp [intOf]; omega
        · have HR : Hid (chkL [] fs = M) := hide (by rw [unhide HC, unhide HF, chkL, if_pos (by rw [← hM]; simpa using hm), hM])
          have hm' : (M != 0) = true := by simp [hm]
          clear hM hm
          go_wp2_with (go_at_call 29; refine (rField_any ⟨fn, ft, fi, fss⟩ _ (unhide HFf)).mono ?_; rintro e w4 ⟨rfl, b4⟩; rw [← unhide HM]; have HB4 := hide ((unhide HB).trans (b4.mono hsz)); clear b4)
          go_ret
          rw [unhide HR]
          exact ⟨rfl, unhide HB4⟩
      · have HR : Hid (chkL [] fs = 0) := hide (by rw [unhide HC, List.drop_of_length_le (by have := unhide HN; omega)]; rfl)
        go_wp2_with fail
        go_ret
        rw [unhide HR]
        exact ⟨rfl, unhide HB⟩
end Go.Proofs.YtfgjbmpbailebaaDoor
