/-
  DERIVED. The document's Escaped, Field, Value, Check.
-/
import Derived.Test.YtfgjbmpbailebaaDoorShR1
import Derived.Test.YtfgjbmpbailebaaDoorShbm
import Derived.BigQuiet
namespace Go.Proofs.YtfgjbmpbailebaaDoor
open Go.RowKit
set_option linter.unusedVariables false

set_option maxHeartbeats 2000000 in
theorem rField_any (f : Fld) (w : World) (hf : fits f) :
    Calls Tryd.prog 29 #[.agg (fv f)] w fun e w' => e = .returned (.int .i64 (mayF f)) ∧ Below w.heap.size w w' := by
  obtain ⟨name, text, n, s⟩ := f
  obtain ⟨f1, f2, f3, f4⟩ := hf
  simp only at f1 f2 f3 f4
  have HB := hide ((Below.refl w.heap.size w).alloc (Nat.le_refl _) (.cells (fv ⟨name, text, n, s⟩) 30))
  cases hn : nameB name with
  | false =>
    have HN := hide hn
    have HA := hide (mayF_name (f := ⟨name, text, n, s⟩) hn)
    clear hn
    go_enter Tryd.func29, Tryd.ntmps29
    go_wp2_with (go_at_call 27; refine (rName_any name _ f1).mono ?_; rintro e w' ⟨rfl, rfl⟩; rw [unhide HN])
    go_ret
    rw [unhide HA]
    exact ⟨rfl, unhide HB⟩
  | true =>
    have HN := hide hn
    cases text with
    | true =>
      by_cases h3 : n = 0
      · subst h3
        by_cases h2 : s.length ≤ 200
        · have HA := hide (mayF_ok (f := ⟨name, true, 0, s⟩) hn (by simp [valB, h2]))
          have hd : (s.length : Int) ≤ 200 := by omega
          clear hn
          go_enter Tryd.func29, Tryd.ntmps29
          go_wp2_with (go_at_call 27; refine (rName_any name _ f1).mono ?_; rintro e w' ⟨rfl, rfl⟩; rw [unhide HN])
          go_ret
          rw [unhide HA]
          exact ⟨rfl, unhide HB⟩
        · have HA := hide (mayF_val (f := ⟨name, true, 0, s⟩) hn (by simp [valB, h2]))
          have hd : (200 : Int) < s.length := by omega
          clear hn
          go_enter Tryd.func29, Tryd.ntmps29
          go_wp2_with (go_at_call 27; refine (rName_any name _ f1).mono ?_; rintro e w' ⟨rfl, rfl⟩; rw [unhide HN])
          go_ret
          rw [unhide HA]
          exact ⟨rfl, unhide HB⟩
      · have HA := hide (mayF_val (f := ⟨name, true, n, s⟩) hn (by simp [valB, h3]))
        have h3' : (n != 0) = true := by simp [h3]
        clear hn h3
        go_enter Tryd.func29, Tryd.ntmps29
        go_wp2_with (go_at_call 27; refine (rName_any name _ f1).mono ?_; rintro e w' ⟨rfl, rfl⟩; rw [unhide HN])
        go_ret
        rw [unhide HA]
        exact ⟨rfl, unhide HB⟩
    | false =>
      by_cases h3 : s = []
      · subst h3
        have HA := hide (mayF_ok (f := ⟨name, false, n, []⟩) hn rfl)
        clear hn
        go_enter Tryd.func29, Tryd.ntmps29
        go_wp2_with (go_at_call 27; refine (rName_any name _ f1).mono ?_; rintro e w' ⟨rfl, rfl⟩; rw [unhide HN])
        go_ret
        rw [unhide HA]
        exact ⟨rfl, unhide HB⟩
      · have HA := hide (mayF_val (f := ⟨name, false, n, s⟩) hn (by simp [valB, h3]))
        have h3' : (s != []) = true := by simp [h3]
        have h4' : s.isEmpty = false := by simp [h3]
        clear hn h3
        go_enter Tryd.func29, Tryd.ntmps29
        go_wp2_with (go_at_call 27; refine (rName_any name _ f1).mono ?_; rintro e w' ⟨rfl, rfl⟩; rw [unhide HN])
        go_ret
        rw [unhide HA]
        exact ⟨rfl, unhide HB⟩

end Go.Proofs.YtfgjbmpbailebaaDoor
