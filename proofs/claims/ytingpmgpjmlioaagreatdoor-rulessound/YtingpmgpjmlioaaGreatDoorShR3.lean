/-
  DERIVED. The document's Name, plain, Escaped.
-/
import Derived.Test.YtingpmgpjmlioaaGreatDoorShe
import Derived.Test.YtingpmgpjmlioaaGreatDoorShbm
import Derived.BigQuiet
namespace Go.Proofs.YtingpmgpjmlioaaGreatDoor
open Go.RowKit
set_option linter.unusedVariables false

theorem small_no {c : UInt8} (h : smallB c = false) : (c.toNat : Int) < 97 ∨ (¬ (c.toNat : Int) < 97 ∧ (122 : Int) < c.toNat) := by
  unfold smallB at h; simp at h; omega
theorem small_yes {c : UInt8} (h : smallB c = true) : ¬ (c.toNat : Int) < 97 ∧ ¬ (122 : Int) < c.toNat := by
  unfold smallB at h; simp at h; omega
theorem digit_no {c : UInt8} (h : digitB c = false) : (c.toNat : Int) < 48 ∨ (¬ (c.toNat : Int) < 48 ∧ (57 : Int) < c.toNat) := by
  unfold digitB at h; simp at h; omega
theorem digit_yes {c : UInt8} (h : digitB c = true) : ¬ (c.toNat : Int) < 48 ∧ ¬ (57 : Int) < c.toNat := by
  unfold digitB at h; simp at h; omega
theorem cap_no {c : UInt8} (h : capB c = false) : (c.toNat : Int) < 65 ∨ (¬ (c.toNat : Int) < 65 ∧ (90 : Int) < c.toNat) := by
  unfold capB at h; simp at h; omega
theorem cap_yes {c : UInt8} (h : capB c = true) : ¬ (c.toNat : Int) < 65 ∧ ¬ (90 : Int) < c.toNat := by
  unfold capB at h; simp at h; omega

set_option maxHeartbeats 4000000 in
theorem rName_any (s : List UInt8) (w : World) (hs : s.length ≤ 9223372036854775807) :
    Calls Tryz.prog 12 #[sv s] w fun e w' => e = .returned (.bool (nameB s)) ∧ w = w' := by
  rcases s with _ | ⟨c, r⟩
  · go_enter Tryz.func12, Tryz.ntmps12
    go_wp2_with fail
    go_ret
    exact ⟨rfl, rfl⟩
  · obtain ⟨s, hse⟩ : ∃ s, s = c :: r := ⟨_, rfl⟩
    have hh : nameB s = (smallB c && decide (s.length ≤ 32) && s.all nchB) := by subst hse; rfl
    have h0 := byte_at (s := s) (k := 0) (c := c) (by rw [hse]; rfl)
    rw [← hse] at hs ⊢
    have hpos : ¬ (s.length : Int) < 1 := by rw [hse]; simp; omega
    have hpos0 : 0 < s.length := by rw [hse]; simp
    have hcl := c.toNat_lt
    clear hse
    rw [hh]
    clear hh
    by_cases h32 : s.length ≤ 32
    · have h32' : ¬ (32 : Int) < s.length := by omega
      cases hsm : smallB c with
      | false =>
        rcases small_no hsm with hq | ⟨hq, hq'⟩
        all_goals
          clear hsm
          go_enter Tryz.func12, Tryz.ntmps12
          go_wp2_with fail
          go_ret
          exact ⟨rfl, rfl⟩
      | true =>
        rw [decide_eq_true h32, Bool.true_and, Bool.true_and]
        obtain ⟨hq, hq'⟩ := small_yes hsm
        clear hsm
        go_enter Tryz.func12, Tryz.ntmps12
        go_wp2_with fail
        clear hq hq' h0
        go_loopw [3, 4] (fun i _ wr => ∃ k : Nat, k ≤ s.length ∧ i = .int .i64 k ∧ Hid ((s.take k).all nchB = true) ∧ Hid (wr = w)) (fun i _ _ => s.length - (intOf i).toNat)
        case atStart => exact ⟨0, by omega, rfl, hide rfl, hide rfl⟩
        case round =>
          obtain ⟨k, hk, rfl, HA, HW⟩ := hrel
          by_cases hlt : k < s.length
          · obtain ⟨d, hd⟩ : ∃ d, s[k]? = some d := ⟨_, List.getElem?_eq_getElem hlt⟩
            have HD := hide hd
            have hB := byte_at hd
            have hdl := d.toNat_lt
            clear hd
            cases h1 : smallB d with
            | true =>
              have HA' := hide (all_take_succ (unhide HD) (nch_small h1) (unhide HA))
              obtain ⟨g1, g2⟩ := small_yes h1
              clear h1
              go_wp2_with fail
              go_roundw
              case rel => exact ⟨k + 1, by omega, by go_num, HA', HW⟩
              case measure => simp [intOf]; omega
            | false =>
              cases h2 : digitB d with
              | true =>
                have HA' := hide (all_take_succ (unhide HD) (nch_digit h2) (unhide HA))
                obtain ⟨g1, g2⟩ := digit_yes h2
                have g3 : (d.toNat : Int) < 97 := by omega
                clear h1 h2
                go_wp2_with fail
                go_roundw
                case rel => exact ⟨k + 1, by omega, by go_num, HA', HW⟩
                case measure => simp [intOf]; omega
              | false =>
                by_cases h3 : d.toNat = 95
                · have HA' := hide (all_take_succ (unhide HD) (nch_mark h3) (unhide HA))
                  have hq : ((d.toNat : Int) != 95) = false := by simp; omega
                  have g1 : (d.toNat : Int) < 97 := by omega
                  have g2 : ¬ (d.toNat : Int) < 48 := by omega
                  have g3 : (57 : Int) < d.toNat := by omega
                  clear h1 h2 h3
                  go_wp2_with fail
                  go_roundw
                  case rel => exact ⟨k + 1, by omega, by go_num, HA', HW⟩
                  case measure => simp [intOf]; omega
                · have HF := hide (all_false (unhide HD) (nch_no h1 h2 h3))
                  have hq : ((d.toNat : Int) != 95) = true := by simp; omega
                  have g1 := small_no h1
                  have g2 := digit_no h2
                  clear h1 h2 h3
                  rcases g1 with g1 | ⟨g1, g1'⟩ <;> rcases g2 with g2 | ⟨g2, g2'⟩
                  all_goals first | (exfalso; omega) | skip
                  all_goals
                    go_wp2_with fail
                    go_ret
                    rw [unhide HF]
                    exact ⟨rfl, (unhide HW).symm⟩
          · have HF : Hid (s.all nchB = true) := hide (by have := unhide HA; rwa [List.take_of_length_le (by omega)] at this)
            go_wp2_with fail
            go_ret
            rw [unhide HF]
            exact ⟨rfl, (unhide HW).symm⟩
    · rw [decide_eq_false h32, Bool.and_false, Bool.false_and]
      have h32' : (32 : Int) < s.length := by omega
      go_enter Tryz.func12, Tryz.ntmps12
      go_wp2_with fail
      go_ret
      exact ⟨rfl, rfl⟩

theorem plain_split (c : UInt8) : plainB c = true ↔ (smallB c = true ∨ capB c = true ∨ digitB c = true ∨ markB c = true) := by
  unfold plainB
  simp only [Bool.or_eq_true]
  exact ⟨fun h => by rcases h with ((h | h) | h) | h <;> simp [h], fun h => by rcases h with h | h | h | h <;> simp [h]⟩

end Go.Proofs.YtingpmgpjmlioaaGreatDoor

namespace Go.Proofs.YtingpmgpjmlioaaGreatDoor
open Go.RowKit
set_option linter.unusedVariables false

set_option maxHeartbeats 2000000 in
theorem rField_any (f : Fld) (w : World) (hf : fits f) :
    Calls Tryz.prog 26 #[.agg (fv f)] w fun e w' => e = .returned (.int .i64 (mayF f)) ∧ Below w.heap.size w w' := by
  obtain ⟨name, text, n, s⟩ := f
  obtain ⟨f1, f2, f3, f4⟩ := hf
  simp only at f1 f2 f3 f4
  have HB := hide ((Below.refl w.heap.size w).alloc (Nat.le_refl _) (.cells (fv ⟨name, text, n, s⟩) 48))
  cases hn : nameB name with
  | false =>
    have HN := hide hn
    have HA := hide (mayF_name (f := ⟨name, text, n, s⟩) hn)
    clear hn
    go_enter Tryz.func26, Tryz.ntmps26
    go_wp2_with (go_at_call 12; refine (rName_any name _ f1).mono ?_; rintro e w' ⟨rfl, rfl⟩; rw [unhide HN])
    go_ret
    rw [unhide HA]
    exact ⟨rfl, unhide HB⟩
  | true =>
    have HN := hide hn
    cases text with
    | true =>
      by_cases h3 : n = 0
      · subst h3
        by_cases h2 : s.length ≤ 200
        · have HA := hide (mayF_ok (f := ⟨name, true, 0, s⟩) hn (by simp [valB, h2]))
          have hd : (s.length : Int) ≤ 200 := by omega
          clear hn
          go_enter Tryz.func26, Tryz.ntmps26
          go_wp2_with (go_at_call 12; refine (rName_any name _ f1).mono ?_; rintro e w' ⟨rfl, rfl⟩; rw [unhide HN])
          go_ret
          rw [unhide HA]
          exact ⟨rfl, unhide HB⟩
        · have HA := hide (mayF_val (f := ⟨name, true, 0, s⟩) hn (by simp [valB, h2]))
          have hd : (200 : Int) < s.length := by omega
          clear hn
          go_enter Tryz.func26, Tryz.ntmps26
          go_wp2_with (go_at_call 12; refine (rName_any name _ f1).mono ?_; rintro e w' ⟨rfl, rfl⟩; rw [unhide HN])
          go_ret
          rw [unhide HA]
          exact ⟨rfl, unhide HB⟩
      · have HA := hide (mayF_val (f := ⟨name, true, n, s⟩) hn (by simp [valB, h3]))
        have h3' : (n != 0) = true := by simp [h3]
        clear hn h3
        go_enter Tryz.func26, Tryz.ntmps26
        go_wp2_with (go_at_call 12; refine (rName_any name _ f1).mono ?_; rintro e w' ⟨rfl, rfl⟩; rw [unhide HN])
        go_ret
        rw [unhide HA]
        exact ⟨rfl, unhide HB⟩
    | false =>
      by_cases h3 : s = []
      · subst h3
        have HA := hide (mayF_ok (f := ⟨name, false, n, []⟩) hn rfl)
        clear hn
        go_enter Tryz.func26, Tryz.ntmps26
        go_wp2_with (go_at_call 12; refine (rName_any name _ f1).mono ?_; rintro e w' ⟨rfl, rfl⟩; rw [unhide HN])
        go_ret
        rw [unhide HA]
        exact ⟨rfl, unhide HB⟩
      · have HA := hide (mayF_val (f := ⟨name, false, n, s⟩) hn (by simp [valB, h3]))
        have h3' : (s != []) = true := by simp [h3]
        have h4' : s.isEmpty = false := by simp [h3]
        clear hn h3
        go_enter Tryz.func26, Tryz.ntmps26
        go_wp2_with (go_at_call 12; refine (rName_any name _ f1).mono ?_; rintro e w' ⟨rfl, rfl⟩; rw [unhide HN])
        go_ret
        rw [unhide HA]
        exact ⟨rfl, unhide HB⟩

end Go.Proofs.YtingpmgpjmlioaaGreatDoor

namespace Go.Proofs.YtingpmgpjmlioaaGreatDoor
open Go.RowKit
set_option linter.unusedVariables false

/-- The name ahead of place k. -/
def aheadN (fs : List Fld) (k : Nat) : List UInt8 := if k = 0 then [] else (fs[k - 1]?.getD ⟨[], false, 0, []⟩).name

theorem not_le_nil {s : List UInt8} (h : nameB s = true) : ¬ s ≤ [] := by
  have := (nameB_len h).1
  exact List.not_le.2 (nil_lt this)

set_option maxHeartbeats 4000000 in
theorem rCheck_any (a : Option Addr) (n c : Nat) (fs : List Fld) (w : World) (hv : FdL w (.slice a n c) fs) (hfit : ∀ f ∈ fs, fits f) :
    Calls Tryz.prog 9 #[.slice a n c] w fun e w' => e = .returned (.int .i64 (checkF fs)) ∧ Below w.heap.size w w' := by
  obtain ⟨ao, cap, e, g1, g2, g4⟩ := id hv
  cases e
  by_cases h16 : 16 < fs.length
  · have HA : Hid (checkF fs = 120) := hide (by simp [checkF, h16])
    have h16' : (16 : Int) < fs.length := by omega
    clear g4 hv hfit
    go_enter Tryz.func9, Tryz.ntmps9
    go_wp2_with fail
    go_ret
    rw [unhide HA]
    exact ⟨rfl, Below.refl _ _⟩
  · have HA : Hid (checkF fs = chkL [] fs) := hide (by simp [checkF, h16])
    obtain ⟨N, hN⟩ : ∃ N, N = fs.length := ⟨_, rfl⟩
    have HN := hide hN
    have H4 := hide g4
    have HFit := hide hfit
    rw [← hN] at g1 h16 ⊢
    have h16' : (N : Int) ≤ 16 := by omega
    clear g4 hN hv hfit
    rw [unhide HA]
    go_enter Tryz.func9, Tryz.ntmps9
    go_wp2_with fail
    go_loopw [3, 4] (fun i _ wr => ∃ (k : Nat), k ≤ N ∧ i = .int .i64 k ∧ Hid (chkL [] fs = chkL (aheadN fs k) (fs.drop k)) ∧ Hid (Below w.heap.size w wr)) (fun i _ _ => N - (intOf i).toNat)
    case atStart => exact ⟨0, by omega, rfl, hide (by simp [aheadN]), hide (Below.refl _ _)⟩
    case round =>
      obtain ⟨k, hk, rfl, HC, HB⟩ := hrel
      by_cases hlt : k < N
      · have hkl : k < fs.length := by have := unhide HN; omega
        obtain ⟨b, off, rfl, hb, hc⟩ := unhide H4 (by omega)
        obtain ⟨c0, c1, c2, c3⟩ := hc k hkl
        obtain ⟨f, hf⟩ : ∃ f, f = fs[k] := ⟨_, rfl⟩
        rw [← hf] at c0 c1 c2 c3
        have hfk : fs[k]? = some f := by rw [hf]; exact List.getElem?_eq_getElem hkl
        have HF : Hid (fs.drop k = f :: fs.drop (k + 1)) := hide (drop_fld hfk)
        have HFk := hide hfk
        have HFf := hide (unhide HFit f (by rw [hf]; exact List.getElem_mem hkl))
        have hsz := (unhide HB).size
        have HCell : Hid (∀ W, Below w.heap.size w W → W.cell? ⟨b, off + k * 4, none⟩ = some (sv f.name) ∧ W.cell? ⟨b, off + k * 4 + 1, none⟩ = some (.bool f.text) ∧ W.cell? ⟨b, off + k * 4 + 2, none⟩ = some (.int .i64 f.n) ∧ W.cell? ⟨b, off + k * 4 + 3, none⟩ = some (sv f.s)) := hide (fun W hW => ⟨(hW.cell (p := ⟨b, off + k * 4, none⟩) hb).trans c0, (hW.cell (p := ⟨b, off + k * 4 + 1, none⟩) hb).trans c1, (hW.cell (p := ⟨b, off + k * 4 + 2, none⟩) hb).trans c2, (hW.cell (p := ⟨b, off + k * 4 + 3, none⟩) hb).trans c3⟩)
        have HPrev : Hid (∀ W, Below w.heap.size w W → 0 < k → W.cell? ⟨b, off + (k - 1) * 4, none⟩ = some (sv (aheadN fs k))) := hide (fun W hW hk0 => by
          have := (hc (k - 1) (by omega)).1
          have e : aheadN fs k = fs[k - 1].name := by unfold aheadN; rw [if_neg (by omega), List.getElem?_eq_getElem (by omega)]; rfl
          rw [e]
          exact (hW.cell (p := ⟨b, off + (k - 1) * 4, none⟩) hb).trans this)
        obtain ⟨d0, d1, d2, d3⟩ := unhide HCell wr (unhide HB)
        clear hf hc c0 c1 c2 c3 hfk
        obtain ⟨fn, ft, fi, fss⟩ := f
        simp only at d0 d1 d2 d3
        obtain ⟨M, hM⟩ : ∃ M, M = mayF ⟨fn, ft, fi, fss⟩ := ⟨_, rfl⟩
        have HM := hide hM
        by_cases hm : M = 0
        · have hm' : (M != 0) = false := by simp [hm]
          have hnm : nameB fn = true := (may_ok (hM.symm.trans hm)).1
          have HNx : Hid (aheadN fs (k + 1) = fn) := hide (by unfold aheadN; rw [if_neg (by omega), Nat.add_sub_cancel, unhide HFk]; rfl)
          obtain ⟨pn, hpn⟩ : ∃ pn, pn = aheadN fs k := ⟨_, rfl⟩
          rw [← hpn] at HC HPrev
          have HStep : Hid (chkL [] fs = if fn ≤ pn then 123 else chkL fn (fs.drop (k + 1))) := hide (by rw [unhide HC, unhide HF, chkL, if_neg (by rw [← hM]; simpa using hm)])
          by_cases hk0 : k = 0
          · have hpe : pn = [] := by rw [hpn, hk0]; rfl
            have HR : Hid (chkL [] fs = chkL fn (fs.drop (k + 1))) := hide (by rw [unhide HStep, if_neg (by rw [hpe]; exact not_le_nil hnm)])
            have hg : decide ((0 : Int) < (k : Int)) = false := decide_eq_false (by omega)
            have hg2 : decide (0 < k) = false := decide_eq_false (by omega)
            clear hM hm hpn hpe hk0
            go_upto_region 9 with (go_at_call 26; refine (rField_any ⟨fn, ft, fi, fss⟩ _ (unhide HFf)).mono ?_; rintro e w4 ⟨rfl, b4⟩; rw [← unhide HM]; have HB4 := hide ((unhide HB).trans (b4.mono hsz)); clear b4)
            go_quiet (fail)
            go_wp2
            go_roundw
            case rel => exact ⟨k + 1, by omega, by go_num, hide (by rw [unhide HNx]; exact unhide HR), hide (below_drewN (unhide HB4) _)⟩
            case measure => simp [intOf]; omega
          · obtain ⟨j, hj⟩ : ∃ j, k = j + 1 := ⟨k - 1, by omega⟩
            have hkj : (k : Int) - 1 = (j : Int) := by omega
            have hjN : j < N := by omega
            have hjN' : (j : Int) < (N : Int) := by omega
            have hg : decide ((0 : Int) < (k : Int)) = true := decide_eq_true (by omega)
            have hg2 : decide (0 < k) = true := decide_eq_true (by omega)
            have HPrev2 : Hid (∀ W, Below w.heap.size w W → W.cell? ⟨b, off + j * 4, none⟩ = some (sv pn)) := hide (fun W hW => by have := unhide HPrev W hW (by omega); rwa [show k - 1 = j by omega] at this)
            by_cases hle : fn ≤ pn
            · have HR : Hid (chkL [] fs = 123) := hide (by rw [unhide HStep, if_pos hle])
              have hq : (Op.bytesLess fn pn || fn == pn) = true := by rw [str_le]; exact decide_eq_true hle
              clear hM hm hpn hk0 hj hle HPrev
              go_upto_region 9 with (go_at_call 26; refine (rField_any ⟨fn, ft, fi, fss⟩ _ (unhide HFf)).mono ?_; rintro e w4 ⟨rfl, b4⟩; rw [← unhide HM]; have HB4 := hide ((unhide HB).trans (b4.mono hsz)); clear b4)
              have HX : Hid (∀ m, (w4.drewN m).cell? ⟨b, off + k * 4, none⟩ = some (sv fn) ∧ (w4.drewN m).cell? ⟨b, off + j * 4, none⟩ = some (sv pn)) := hide (fun m => ⟨(unhide HCell _ (below_drewN (unhide HB4) m)).1, unhide HPrev2 _ (below_drewN (unhide HB4) m)⟩)
              have x0 : ∀ m, (w4.drewN m).cell? ⟨b, off + k * 4, none⟩ = some (sv fn) := fun m => (unhide HX m).1
              have x1 : ∀ m, (w4.drewN m).cell? ⟨b, off + j * 4, none⟩ = some (sv pn) := fun m => (unhide HX m).2
              go_quiet (fail)
              go_wp2
              go_ret
              rw [unhide HR]
              exact ⟨rfl, below_drewN (unhide HB4) _⟩
            · have HR : Hid (chkL [] fs = chkL fn (fs.drop (k + 1))) := hide (by rw [unhide HStep, if_neg hle])
              have hq : (Op.bytesLess fn pn || fn == pn) = false := by rw [str_le]; exact decide_eq_false hle
              clear hM hm hpn hk0 hj hle HPrev
              go_upto_region 9 with (go_at_call 26; refine (rField_any ⟨fn, ft, fi, fss⟩ _ (unhide HFf)).mono ?_; rintro e w4 ⟨rfl, b4⟩; rw [← unhide HM]; have HB4 := hide ((unhide HB).trans (b4.mono hsz)); clear b4)
              have HX : Hid (∀ m, (w4.drewN m).cell? ⟨b, off + k * 4, none⟩ = some (sv fn) ∧ (w4.drewN m).cell? ⟨b, off + j * 4, none⟩ = some (sv pn)) := hide (fun m => ⟨(unhide HCell _ (below_drewN (unhide HB4) m)).1, unhide HPrev2 _ (below_drewN (unhide HB4) m)⟩)
              have x0 : ∀ m, (w4.drewN m).cell? ⟨b, off + k * 4, none⟩ = some (sv fn) := fun m => (unhide HX m).1
              have x1 : ∀ m, (w4.drewN m).cell? ⟨b, off + j * 4, none⟩ = some (sv pn) := fun m => (unhide HX m).2
              go_quiet (fail)
              go_wp2
              go_roundw
              case rel => exact ⟨k + 1, by omega, by go_num, hide (by rw [unhide HNx]; exact unhide HR), hide (below_drewN (unhide HB4) _)⟩
              case measure => simp [intOf]; omega
        · have HR : Hid (chkL [] fs = M) := hide (by rw [unhide HC, unhide HF, chkL, if_pos (by rw [← hM]; simpa using hm), hM])
          have hm' : (M != 0) = true := by simp [hm]
          clear hM hm
          go_wp2_with (go_at_call 26; refine (rField_any ⟨fn, ft, fi, fss⟩ _ (unhide HFf)).mono ?_; rintro e w4 ⟨rfl, b4⟩; rw [← unhide HM]; have HB4 := hide ((unhide HB).trans (b4.mono hsz)); clear b4)
          go_ret
          rw [unhide HR]
          exact ⟨rfl, unhide HB4⟩
      · have HR : Hid (chkL [] fs = 0) := hide (by rw [unhide HC, List.drop_of_length_le (by have := unhide HN; omega)]; rfl)
        go_wp2_with fail
        go_ret
        rw [unhide HR]
        exact ⟨rfl, unhide HB⟩
end Go.Proofs.YtingpmgpjmlioaaGreatDoor
