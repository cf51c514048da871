/-
  DERIVED. The walk of Check.
-/
import Derived.Test.YtfgjbmpbailebaaDoorShf
namespace Go.Proofs.YtfgjbmpbailebaaDoor
open Go.RowKit
set_option linter.unusedVariables false

def chkL (p : List UInt8) : List Fld → Int
  | [] => 0
  | f :: r => if mayF f ≠ 0 then mayF f else if f.name ≤ p then 123 else chkL f.name r
/-- What Check answers. -/
def checkF (fs : List Fld) : Int := if 16 < fs.length then 120 else chkL [] fs

theorem drop_fld {s : List Fld} {k : Nat} {d : Fld} (h : s[k]? = some d) : s.drop k = d :: s.drop (k + 1) := by
  obtain ⟨h1, h2⟩ := List.getElem?_eq_some_iff.1 h
  rw [← h2]; exact List.drop_eq_getElem_cons h1

theorem str_le (a p : List UInt8) : (Op.bytesLess a p || a == p) = decide (a ≤ p) := by
  rw [Go.Proofs.bytesLess_eq]
  rcases List.le_iff_lt_or_eq.1 (show p ≤ p from List.le_refl p) with h | h
  · exact absurd h (List.lt_irrefl p)
  · by_cases hlt : a < p
    · simp [hlt, List.le_of_lt hlt]
    · by_cases he : a = p
      · subst he; simp
      · have : ¬ a ≤ p := fun hle => (List.le_iff_lt_or_eq.1 hle).elim hlt he
        simp [hlt, he, this]

theorem bel_box {w wr w4 : World} {o : Obj} (h : Below w.heap.size w wr) (h4 : Below (wr.alloc o).heap.size (wr.alloc o) w4) : Below w.heap.size w w4 :=
  (h.alloc h.size o).trans (h4.mono (by have := h.size; simp; omega))

set_option maxHeartbeats 4000000 in
theorem Check_any (a : Option Addr) (n c : Nat) (fs : List Fld) (w : World) (hv : FdL w (.slice a n c) fs) (hfit : ∀ f ∈ fs, fits f) :
    Calls Tryd.prog 45 #[.slice a n c] w fun e w' => e = .returned (.int .i64 (checkF fs)) ∧ Below w.heap.size w w' := by
  obtain ⟨ao, cap, e, g1, g2, g4⟩ := id hv
  cases e
  by_cases h16 : 16 < fs.length
  · have HA : Hid (checkF fs = 120) := hide (by simp [checkF, h16])
    have h16' : (16 : Int) < fs.length := by omega
    clear g4 hv hfit
    go_enter Tryd.func45, Tryd.ntmps45
    go_wp2_with fail
    go_ret
    rw [unhide HA]
    exact ⟨rfl, Below.refl _ _⟩
  · have HA : Hid (checkF fs = chkL [] fs) := hide (by simp [checkF, h16])
    obtain ⟨N, hN⟩ : ∃ N, N = fs.length := ⟨_, rfl⟩
    have HN := hide hN
    have H4 := hide g4
    have HFit := hide hfit
    rw [← hN] at g1 h16 ⊢
    have h16' : (N : Int) ≤ 16 := by omega
    clear g4 hN hv hfit
    rw [unhide HA]
    go_enter Tryd.func45, Tryd.ntmps45
    go_wp2_with fail
    go_loopw [3, 5, 6, 12] (fun p _ _ i wr => ∃ (k : Nat) (pn : List UInt8), k ≤ N ∧ p = sv pn ∧ i = .int .i64 k ∧ Hid (chkL [] fs = chkL pn (fs.drop k)) ∧ Hid (Below w.heap.size w wr)) (fun _ _ _ i _ => N - (intOf i).toNat)
    case atStart => exact ⟨0, [], by omega, rfl, rfl, hide (by simp), hide (Below.refl _ _)⟩
    case round =>
      obtain ⟨k, pn, hk, rfl, rfl, HC, HB⟩ := hrel
      by_cases hlt : k < N
      · have hkl : k < fs.length := by have := unhide HN; omega
        obtain ⟨b, off, rfl, hb, hc⟩ := unhide H4 (by omega)
        obtain ⟨c0, c1, c2, c3⟩ := hc k hkl
        obtain ⟨f, hf⟩ : ∃ f, f = fs[k] := ⟨_, rfl⟩
        rw [← hf] at c0 c1 c2 c3
        have d0 := ((unhide HB).cell (p := ⟨b, off + k * 4, none⟩) hb).trans c0
        have d1 := ((unhide HB).cell (p := ⟨b, off + k * 4 + 1, none⟩) hb).trans c1
        have d2 := ((unhide HB).cell (p := ⟨b, off + k * 4 + 2, none⟩) hb).trans c2
        have d3 := ((unhide HB).cell (p := ⟨b, off + k * 4 + 3, none⟩) hb).trans c3
        have HF : Hid (fs.drop k = f :: fs.drop (k + 1)) := hide (drop_fld (by rw [hf]; exact List.getElem?_eq_getElem hkl))
        have HFf := hide (unhide HFit f (by rw [hf]; exact List.getElem_mem hkl))
        have hsz := (unhide HB).size
        clear hf hc c0 c1 c2 c3
        obtain ⟨fn, ft, fi, fss⟩ := f
        simp only at d0 d1 d2 d3
        obtain ⟨M, hM⟩ : ∃ M, M = mayF ⟨fn, ft, fi, fss⟩ := ⟨_, rfl⟩
        have HM := hide hM
        by_cases hm : M = 0
        · by_cases hle : fn ≤ pn
          · have HR : Hid (chkL [] fs = 123) := hide (by rw [unhide HC, unhide HF, chkL, if_neg (by rw [← hM]; simpa using hm), if_pos hle])
            have hq : (Op.bytesLess fn pn || fn == pn) = true := by rw [str_le]; exact decide_eq_true hle
            have hm' : (M != 0) = false := by simp [hm]
            clear hM hm hle
            go_wp2_with (go_at_call 58; refine (mayBe_any ⟨fn, ft, fi, fss⟩ _ (unhide HFf)).mono ?_; rintro e w' ⟨rfl, b4⟩; rw [← unhide HM]; have n4 := b4.cell (p := ⟨wr.heap.size, 0, none⟩) (by simp); simp at n4; have HB4 := hide b4; clear b4)
            go_ret
            rw [unhide HR]
            exact ⟨rfl, bel_box (unhide HB) (unhide HB4)⟩
          · have HR : Hid (chkL [] fs = chkL fn (fs.drop (k + 1))) := hide (by rw [unhide HC, unhide HF, chkL, if_neg (by rw [← hM]; simpa using hm), if_neg hle])
            have hq : (Op.bytesLess fn pn || fn == pn) = false := by rw [str_le]; exact decide_eq_false hle
            have hm' : (M != 0) = false := by simp [hm]
            clear hM hm hle
            go_wp2_with (go_at_call 58; refine (mayBe_any ⟨fn, ft, fi, fss⟩ _ (unhide HFf)).mono ?_; rintro e w' ⟨rfl, b4⟩; rw [← unhide HM]; have n4 := b4.cell (p := ⟨wr.heap.size, 0, none⟩) (by simp); simp at n4; have HB4 := hide b4; clear b4)
            go_roundw
            case rel => exact ⟨k + 1, fn, by omega, rfl, by go_num, HR, hide (bel_box (unhide HB) (unhide HB4))⟩
            case measure => simp [intOf]; omega
        · have HR : Hid (chkL [] fs = M) := hide (by rw [unhide HC, unhide HF, chkL, if_pos (by rw [← hM]; simpa using hm), hM])
          have hm' : (M != 0) = true := by simp [hm]
          clear hM hm
          go_wp2_with (go_at_call 58; refine (mayBe_any ⟨fn, ft, fi, fss⟩ _ (unhide HFf)).mono ?_; rintro e w' ⟨rfl, b4⟩; rw [← unhide HM]; have n4 := b4.cell (p := ⟨wr.heap.size, 0, none⟩) (by simp); simp at n4; have HB4 := hide b4; clear b4)
          go_ret
          rw [unhide HR]
          exact ⟨rfl, bel_box (unhide HB) (unhide HB4)⟩
      · have HR : Hid (chkL [] fs = 0) := hide (by rw [unhide HC, List.drop_of_length_le (by have := unhide HN; omega)]; rfl)
        go_wp2_with fail
        go_ret
        rw [unhide HR]
        exact ⟨rfl, unhide HB⟩
end Go.Proofs.YtfgjbmpbailebaaDoor
