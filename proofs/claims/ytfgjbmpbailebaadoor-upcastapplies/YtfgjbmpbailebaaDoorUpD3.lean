/-
  DERIVED. The document's change: what is wrong with one.
-/
import Derived.Test.YtfgjbmpbailebaaDoorUpD1
import Derived.Test.YtfgjbmpbailebaaDoorUpJ
import Derived.Test.YtfgjbmpbailebaaDoorShR2
namespace Go.Proofs.YtfgjbmpbailebaaDoor
open Go.RowKit Go.Maps
set_option linter.unusedVariables false

/-- The name that is asked for first. -/
def nam1 (c : Chg) : List UInt8 := if c.kind = 1 then c.f.name else c.name
theorem chgE_doc {c : Chg} (h : isC c.kind = true) : chgE c = if nameB (nam1 c) = false ∨ (c.kind = 3 ∧ nameB c.tn = false) then 141 else if c.kind = 1 ∧ mayF c.f ≠ 0 then 143 else 0 := by
  unfold isC at h
  simp at h
  unfold chgE namesC nam1
  by_cases h1 : c.kind = 1
  · simp only [h1, if_true]
    cases hn : nameB c.f.name <;> simp [hn]
  · by_cases h3 : c.kind = 3
    · simp only [h3]
      cases hn : nameB c.name <;> cases ht : nameB c.tn <;> simp [hn, ht]
    · rw [if_neg h1, if_neg h3, if_pos (by omega : c.kind = 2 ∨ c.kind = 4 ∨ c.kind = 5)]
      cases hn : nameB c.name <;> simp [hn, h1, h3]

set_option maxHeartbeats 4000000 in
theorem rvchange_go (C : Chg) (kd : Int) (nm tn fn : List UInt8) (ft : Bool) (fi : Int) (fss : List UInt8) (hC : C = ⟨kd, nm, tn, ⟨fn, ft, fi, fss⟩⟩) (w : World) (hc : fitC C) : Calls Tryd.prog 28 #[.agg #[.int .i64 kd, sv nm, sv tn, sv fn, .bool ft, .int .i64 fi, sv fss]] w fun e w' => e = .returned (.int .i64 (chgE C)) ∧ Below w.heap.size w w' := by
  have hb1 : Below w.heap.size w (w.alloc (.cells (cgv ⟨kd, nm, tn, ⟨fn, ft, fi, fss⟩⟩) 49)) := (Below.refl _ _).alloc (Nat.le_refl _) _
  have hx1 := CBx.new w ⟨kd, nm, tn, ⟨fn, ft, fi, fss⟩⟩
  obtain ⟨w1, hw1⟩ : ∃ w1, w1 = w.alloc (.cells (cgv ⟨kd, nm, tn, ⟨fn, ft, fi, fss⟩⟩) 49) := ⟨_, rfl⟩
  have HW1 := hide hw1
  rw [← hw1] at hb1 hx1
  obtain ⟨B, hB⟩ : ∃ B, B = w.heap.size := ⟨_, rfl⟩
  rw [← hB] at hx1
  have HX1 := hide hx1
  have HB1 := hide hb1
  obtain ⟨x0, x1, x2, x3, x4, x5, x6⟩ := hx1.cells
  simp only at x0 x1 x2 x3 x4 x5 x6
  have HBB := hide hB
  have HFf : Hid (fits ⟨fn, ft, fi, fss⟩) := hide (by have := hc.f; rwa [hC] at this)
  have hln : nm.length ≤ 9223372036854775807 := by have := hc.1; rwa [hC] at this
  have hlt : tn.length ≤ 9223372036854775807 := by have := hc.2.1; rwa [hC] at this
  have hlf : fn.length ≤ 9223372036854775807 := by have := hc.2.2.1; rwa [hC] at this
  cases hk : isC kd with
  | false =>
    have HE : Hid (chgE C = 143) := hide (chgE_none (names_none (by rw [hC]; exact hk)))
    rw [unhide HE]
    unfold isC at hk
    simp only [Bool.and_eq_false_iff, decide_eq_false_iff_not] at hk
    clear hw1 hx1 hb1 hB hC hc
    by_cases h1 : kd < 1
    · have h1' : decide (kd < 1) = true := decide_eq_true h1
      clear hk h1
      go_enter Tryd.func28, Tryd.ntmps28
      go_upto_region 1 with fail
      rw [← unhide HW1, ← unhide HBB]
      go_wp2_with fail
      go_ret
      exact ⟨rfl, unhide HB1⟩
    · have h1' : decide (kd < 1) = false := decide_eq_false h1
      have h2' : decide (5 < kd) = true := decide_eq_true (by omega)
      clear hk h1
      go_enter Tryd.func28, Tryd.ntmps28
      go_upto_region 1 with fail
      rw [← unhide HW1, ← unhide HBB]
      go_wp2_with fail
      go_ret
      exact ⟨rfl, unhide HB1⟩
  | true =>
    have HE := hide (chgE_doc (c := C) (by rw [hC]; exact hk))
    have HN1 : Hid (nam1 C = if kd = 1 then fn else nm) := hide (by rw [hC]; rfl)
    have HCk : Hid (C.kind = kd) := hide (by rw [hC])
    have HCt : Hid (C.tn = tn) := hide (by rw [hC])
    have HCf : Hid (C.f = ⟨fn, ft, fi, fss⟩) := hide (by rw [hC])
    rw [unhide HN1, unhide HCk, unhide HCt, unhide HCf] at HE
    have hk2 := hk
    unfold isC at hk2
    simp at hk2
    have h1' : decide (kd < 1) = false := decide_eq_false (by omega)
    have h2' : decide (5 < kd) = false := decide_eq_false (by omega)
    have HT : Hid (∀ W, Calls Tryd.prog 27 #[sv tn] W fun e w' => e = .returned (.bool (nameB tn)) ∧ W = w') := hide (fun W => rName_any tn W hlt)
    have HFl : Hid (∀ W, Calls Tryd.prog 29 #[.agg (fv ⟨fn, ft, fi, fss⟩)] W fun e w' => e = .returned (.int .i64 (mayF ⟨fn, ft, fi, fss⟩)) ∧ Below W.heap.size W w') := hide (fun W => rField_any _ W (unhide HFf))
    rw [unhide HE]
    clear hw1 hx1 hb1 hB hC hc HN1 HCk HCt HCf hk hk2 HE
    obtain ⟨nb, hnb⟩ : ∃ nb, nb = nameB tn := ⟨_, rfl⟩
    rw [← hnb] at HT ⊢
    obtain ⟨q, hq⟩ : ∃ q, q = mayF ⟨fn, ft, fi, fss⟩ := ⟨_, rfl⟩
    rw [← hq] at HFl ⊢
    clear hnb hq
    by_cases hk1 : kd = 1
    · subst hk1
      simp only [if_true]
      have HN : Hid (∀ W, Calls Tryd.prog 27 #[sv fn] W fun e w' => e = .returned (.bool (nameB fn)) ∧ W = w') := hide (fun W => rName_any fn W hlf)
      cases hn : nameB fn with
      | false =>
        rw [hn] at HN
        rw [if_pos (.inl rfl)]
        clear hn
        go_enter Tryd.func28, Tryd.ntmps28
        go_upto_region 1 with fail
        rw [← unhide HW1, ← unhide HBB]
        go_wp2_with (go_at_call 27; first | ((with_reducible refine (unhide HN _).mono ?_); rintro e w' ⟨rfl, rfl⟩) | ((with_reducible refine (unhide HT _).mono ?_); rintro e w' ⟨rfl, rfl⟩))
        go_ret
        exact ⟨rfl, unhide HB1⟩
      | true =>
        rw [hn] at HN
        rw [if_neg (by simp)]
        clear hn
        by_cases hm : q = 0
        · have hm' : (q != 0) = false := by simp [hm]
          rw [if_neg (by simp [hm])]
          clear hm
          go_enter Tryd.func28, Tryd.ntmps28
          go_upto_region 1 with fail
          rw [← unhide HW1, ← unhide HBB]
          go_wp2_with (first | (go_at_call 27; first | ((with_reducible refine (unhide HN _).mono ?_); rintro e w' ⟨rfl, rfl⟩) | ((with_reducible refine (unhide HT _).mono ?_); rintro e w' ⟨rfl, rfl⟩)) | (go_at_call 29; refine (unhide HFl _).mono ?_; rintro e w5 ⟨rfl, b5⟩; have HB5 := hide ((unhide HB1).trans (b5.mono (unhide HB1).size)); clear b5))
          go_ret
          exact ⟨rfl, unhide HB5⟩
        · have hm' : (q != 0) = true := by simp [hm]
          rw [if_pos ⟨trivial, hm⟩]
          clear hm
          go_enter Tryd.func28, Tryd.ntmps28
          go_upto_region 1 with fail
          rw [← unhide HW1, ← unhide HBB]
          go_wp2_with (first | (go_at_call 27; first | ((with_reducible refine (unhide HN _).mono ?_); rintro e w' ⟨rfl, rfl⟩) | ((with_reducible refine (unhide HT _).mono ?_); rintro e w' ⟨rfl, rfl⟩)) | (go_at_call 29; refine (unhide HFl _).mono ?_; rintro e w5 ⟨rfl, b5⟩; have HB5 := hide ((unhide HB1).trans (b5.mono (unhide HB1).size)); clear b5))
          go_ret
          exact ⟨rfl, unhide HB5⟩
    · have hk1' : (kd == 1) = false := by simp [hk1]
      rw [if_neg hk1]
      have HN : Hid (∀ W, Calls Tryd.prog 27 #[sv nm] W fun e w' => e = .returned (.bool (nameB nm)) ∧ W = w') := hide (fun W => rName_any nm W hln)
      rw [if_neg (fun h : kd = 1 ∧ q ≠ 0 => hk1 h.1)]
      cases hn : nameB nm with
      | false =>
        rw [hn] at HN
        rw [if_pos (.inl rfl)]
        clear hn hk1
        go_enter Tryd.func28, Tryd.ntmps28
        go_upto_region 1 with fail
        rw [← unhide HW1, ← unhide HBB]
        go_wp2_with (go_at_call 27; first | ((with_reducible refine (unhide HN _).mono ?_); rintro e w' ⟨rfl, rfl⟩) | ((with_reducible refine (unhide HT _).mono ?_); rintro e w' ⟨rfl, rfl⟩))
        go_ret
        exact ⟨rfl, unhide HB1⟩
      | true =>
        rw [hn] at HN
        clear hn
        by_cases hk3 : kd = 3
        · subst hk3
          clear hk1
          cases nb with
          | false =>
            rw [if_pos (.inr ⟨rfl, rfl⟩)]
            go_enter Tryd.func28, Tryd.ntmps28
            go_upto_region 1 with fail
            rw [← unhide HW1, ← unhide HBB]
            go_wp2_with (go_at_call 27; first | ((with_reducible refine (unhide HN _).mono ?_); rintro e w' ⟨rfl, rfl⟩) | ((with_reducible refine (unhide HT _).mono ?_); rintro e w' ⟨rfl, rfl⟩))
            go_ret
            exact ⟨rfl, unhide HB1⟩
          | true =>
            rw [if_neg (by simp)]
            go_enter Tryd.func28, Tryd.ntmps28
            go_upto_region 1 with fail
            rw [← unhide HW1, ← unhide HBB]
            go_wp2_with (go_at_call 27; first | ((with_reducible refine (unhide HN _).mono ?_); rintro e w' ⟨rfl, rfl⟩) | ((with_reducible refine (unhide HT _).mono ?_); rintro e w' ⟨rfl, rfl⟩))
            go_ret
            exact ⟨rfl, unhide HB1⟩
        · have hk3' : (kd == 3) = false := by simp [hk3]
          rw [if_neg (by simp [hk3])]
          clear hk1 hk3
          go_enter Tryd.func28, Tryd.ntmps28
          go_upto_region 1 with fail
          rw [← unhide HW1, ← unhide HBB]
          go_wp2_with (go_at_call 27; first | ((with_reducible refine (unhide HN _).mono ?_); rintro e w' ⟨rfl, rfl⟩) | ((with_reducible refine (unhide HT _).mono ?_); rintro e w' ⟨rfl, rfl⟩))
          go_ret
          exact ⟨rfl, unhide HB1⟩

theorem rvchange_any (c : Chg) (w : World) (hc : fitC c) : Calls Tryd.prog 28 #[.agg (cgv c)] w fun e w' => e = .returned (.int .i64 (chgE c)) ∧ Below w.heap.size w w' :=
  rvchange_go c c.kind c.name c.tn c.f.name c.f.text c.f.n c.f.s rfl w hc
end Go.Proofs.YtfgjbmpbailebaaDoor
