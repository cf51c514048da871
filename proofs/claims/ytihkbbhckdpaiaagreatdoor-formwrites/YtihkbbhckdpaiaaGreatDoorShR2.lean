/-
  DERIVED. The document's Escaped, Field, Value, Check.
-/
import Derived.Test.YtihkbbhckdpaiaaGreatDoorShR1
import Derived.Test.YtihkbbhckdpaiaaGreatDoorShbm
import Derived.BigQuiet
namespace Go.Proofs.YtihkbbhckdpaiaaGreatDoor
open Go.RowKit
set_option linter.unusedVariables false

set_option maxHeartbeats 4000000 in
theorem rEscaped_any (s : List UInt8) (w : World) (hs : 3 * s.length ≤ 140737488355328) :
    Calls Tryz.prog 18 #[sv s] w fun e w' => e = .returned (sv (esc s)) ∧ Below w.heap.size w w' := by
  have HO : Hid (Own w w.heap.size (.slice none 0 0) (esc (s.take 0))) := hide (World.ownsRow_nil _ _ _ _)
  have HB : Hid (Below w.heap.size w w) := hide (Below.refl _ _)
  go_enter Tryz.func18, Tryz.ntmps18
  go_wp2_with fail
  go_loopw [4, 5, 6] (fun b i _ wr => ∃ k : Nat, k ≤ s.length ∧ i = .int .i64 k ∧ Hid (Own wr w.heap.size b (esc (s.take k))) ∧ Hid (Below w.heap.size w wr)) (fun _ i _ _ => s.length - (intOf i).toNat)
  case atStart => exact ⟨0, by omega, rfl, HO, HB⟩
  case round =>
    obtain ⟨k, hk, rfl, HO', HB'⟩ := hrel
    clear HO HB
    by_cases hlt : k < s.length
    · obtain ⟨d, hd⟩ : ∃ d, s[k]? = some d := ⟨_, List.getElem?_eq_getElem hlt⟩
      have hB := byte_at hd
      have HE := hide (esc_take hd)
      have hlen := esc_length (s.take k)
      rw [List.length_take, Nat.min_eq_left hk] at hlen
      have hdl := d.toNat_lt
      have hsz := (unhide HB').size
      clear hd
      cases hp : plainB d with
      | true =>
        have HP := hide hp
        have HE2 := hide ((unhide HE).trans (congrArg _ (escB_plain hp)))
        clear hp HE
        go_wp2_with (first | (go_at_call 42; refine (rplain_any d _).mono ?_; rintro e w' ⟨rfl, rfl⟩; rw [unhide HP]) | (at_builtin; refine wpList_append_mine rfl (.tmp 18) (.tmp 22) rfl w.heap.size _ (esc (s.take k)) rfl ?own _ [d] rfl ?sl ?hl ?hb ?_; (case own => exact World.ownsRow.alloc (unhide HO') _); (case sl => exact Sl.new wr [d] (by simp [maxLen]) (0, 0)); (case hl => simp; omega); (case hb => simp; omega); intro v' w1 own1 b1; have HO1 := hide own1; have HB1 := hide (((unhide HB').alloc (unhide HB').size _).trans b1); clear own1 b1))
        go_roundw
        case rel => exact ⟨k + 1, by omega, by go_num, by rw [unhide HE2]; exact HO1, HB1⟩
        case measure => simp [intOf]; omega
      | false =>
        have HP := hide hp
        have HE2 := hide ((unhide HE).trans (congrArg _ (escB_other hp)))
        clear hp HE
        go_upto_region 9 with (go_at_call 42; refine (rplain_any d _).mono ?_; rintro e w' ⟨rfl, rfl⟩; rw [unhide HP])
        obtain ⟨hi, hhi⟩ : ∃ hi, hi = d.toNat / 16 := ⟨_, rfl⟩
        obtain ⟨lo, hlo⟩ : ∃ lo, lo = d.toNat % 16 := ⟨_, rfl⟩
        have q1 : (d.toNat : Int) / 16 = (hi : Int) := by omega
        have q1' : (d.toNat : Int).tdiv 16 = (hi : Int) := by rw [Int.tdiv_eq_ediv_of_nonneg (by omega)]; omega
        have q2 : (d.toNat : Int) % 16 = (lo : Int) := by omega
        have q2' : (d.toNat : Int).tmod 16 = (lo : Int) := by rw [Int.tmod_eq_emod_of_nonneg (by omega)]; omega
        have q3 : hi < 16 := by omega
        have q4 : lo < 16 := by omega
        rw [← hhi, ← hlo] at HE2
        clear hhi hlo
        have q3' : (hi : Int) < 16 := by omega
        have q4' : (lo : Int) < 16 := by omega
        have qw1 : IntKind.u8.wrap (hi : Int) = (hi : Int) := by simp [IntKind.wrap, IntKind.signed, IntKind.bits]; omega
        have qw2 : IntKind.u8.wrap (lo : Int) = (lo : Int) := by simp [IntKind.wrap, IntKind.signed, IntKind.bits]; omega
        have q5 := digit_at hi q3
        have q6 := digit_at lo q4
        go_region_law (first | (refine step_append_mine rfl (.tmp 24) (.tmp 37) rfl w.heap.size _ (esc (s.take k)) rfl ?own _ _ _ [37, hexD hi, hexD lo] rfl ?sl ?hl ?hb ?_; (case own => exact World.ownsRow.alloc (unhide HO') _); (case sl => exact Sl.drew (Sl.new wr [37, hexD hi, hexD lo] (by simp [maxLen]) (0, 0))); (case hl => simp; omega); (case hb => simp; omega); intro v' w1 own1 b1; have HO1 := hide own1; have HB1 := hide ((((unhide HB').alloc (unhide HB').size _).drew).trans b1); clear own1 b1))
        all_goals
          go_wp2
          go_roundw
          case rel => exact ⟨k + 1, by omega, by go_num, by rw [unhide HE2]; exact HO1, HB1⟩
          case measure => simp [intOf]; omega
    · have HF : Hid (s.take k = s) := hide (List.take_of_length_le (by omega))
      rw [unhide HF] at HO'
      have cv := str_of (unhide HO').sl
      go_wp2_with fail
      go_ret
      exact ⟨rfl, unhide HB'⟩

set_option maxHeartbeats 2000000 in
theorem rField_any (f : Fld) (w : World) (hf : fits f) :
    Calls Tryz.prog 31 #[.agg (fv f)] w fun e w' => e = .returned (.int .i64 (mayF f)) ∧ Below w.heap.size w w' := by
  obtain ⟨name, text, n, s⟩ := f
  obtain ⟨f1, f2, f3, f4⟩ := hf
  simp only at f1 f2 f3 f4
  have HB := hide ((Below.refl w.heap.size w).alloc (Nat.le_refl _) (.cells (fv ⟨name, text, n, s⟩) 37))
  cases hn : nameB name with
  | false =>
    have HN := hide hn
    have HA := hide (mayF_name (f := ⟨name, text, n, s⟩) hn)
    clear hn
    go_enter Tryz.func31, Tryz.ntmps31
    go_wp2_with (go_at_call 20; refine (rName_any name _ f1).mono ?_; rintro e w' ⟨rfl, rfl⟩; rw [unhide HN])
    go_ret
    rw [unhide HA]
    exact ⟨rfl, unhide HB⟩
  | true =>
    have HN := hide hn
    cases text with
    | true =>
      by_cases h3 : n = 0
      · subst h3
        by_cases h2 : s.length ≤ 200
        · have HA := hide (mayF_ok (f := ⟨name, true, 0, s⟩) hn (by simp [valB, h2]))
          have hd : (s.length : Int) ≤ 200 := by omega
          clear hn
          go_enter Tryz.func31, Tryz.ntmps31
          go_wp2_with (go_at_call 20; refine (rName_any name _ f1).mono ?_; rintro e w' ⟨rfl, rfl⟩; rw [unhide HN])
          go_ret
          rw [unhide HA]
          exact ⟨rfl, unhide HB⟩
        · have HA := hide (mayF_val (f := ⟨name, true, 0, s⟩) hn (by simp [valB, h2]))
          have hd : (200 : Int) < s.length := by omega
          clear hn
          go_enter Tryz.func31, Tryz.ntmps31
          go_wp2_with (go_at_call 20; refine (rName_any name _ f1).mono ?_; rintro e w' ⟨rfl, rfl⟩; rw [unhide HN])
          go_ret
          rw [unhide HA]
          exact ⟨rfl, unhide HB⟩
      · have HA := hide (mayF_val (f := ⟨name, true, n, s⟩) hn (by simp [valB, h3]))
        have h3' : (n != 0) = true := by simp [h3]
        clear hn h3
        go_enter Tryz.func31, Tryz.ntmps31
        go_wp2_with (go_at_call 20; refine (rName_any name _ f1).mono ?_; rintro e w' ⟨rfl, rfl⟩; rw [unhide HN])
        go_ret
        rw [unhide HA]
        exact ⟨rfl, unhide HB⟩
    | false =>
      by_cases h3 : s = []
      · subst h3
        have HA := hide (mayF_ok (f := ⟨name, false, n, []⟩) hn rfl)
        clear hn
        go_enter Tryz.func31, Tryz.ntmps31
        go_wp2_with (go_at_call 20; refine (rName_any name _ f1).mono ?_; rintro e w' ⟨rfl, rfl⟩; rw [unhide HN])
        go_ret
        rw [unhide HA]
        exact ⟨rfl, unhide HB⟩
      · have HA := hide (mayF_val (f := ⟨name, false, n, s⟩) hn (by simp [valB, h3]))
        have h3' : (s != []) = true := by simp [h3]
        have h4' : s.isEmpty = false := by simp [h3]
        clear hn h3
        go_enter Tryz.func31, Tryz.ntmps31
        go_wp2_with (go_at_call 20; refine (rName_any name _ f1).mono ?_; rintro e w' ⟨rfl, rfl⟩; rw [unhide HN])
        go_ret
        rw [unhide HA]
        exact ⟨rfl, unhide HB⟩

set_option maxHeartbeats 2000000 in
theorem rValue_any (f : Fld) (w : World) (hf : fits f) (hs : 3 * f.s.length ≤ 140737488355328) (hv : Vars w) :
    Calls Tryz.prog 29 #[.agg (fv f)] w fun e w' => e = .returned (sv (valT f)) ∧ Below w.heap.size w w' := by
  obtain ⟨name, text, n, s⟩ := f
  obtain ⟨f1, f2, f3, f4⟩ := hf
  simp only at f1 f2 f3 f4 hs
  have HB := hide ((Below.refl w.heap.size w).alloc (Nat.le_refl _) (.cells (fv ⟨name, text, n, s⟩) 37))
  have HV := hide (hv.below (unhide HB) (Nat.le_refl _))
  clear hv
  cases text with
  | true =>
    have hz : 1 + (esc s).length ≤ 9223372036854775807 := by have := esc_length s; omega
    go_enter Tryz.func29, Tryz.ntmps29
    go_wp2_with (go_at_call 18; refine (rEscaped_any s _ hs).mono ?_; rintro e w' ⟨rfl, b4⟩; have HB4 := hide b4; clear b4)
    go_ret
    exact ⟨by rw [valT, if_pos rfl, str_cat1]; rfl, bel_box (Below.refl _ _) (unhide HB4)⟩
  | false =>
    go_enter Tryz.func29, Tryz.ntmps29
    go_wp2_with (go_at_call 48; refine (Itoa_go n f3 f4 _ (unhide HV)).mono ?_; rintro e w' ⟨rfl, b4⟩; have HB4 := hide b4; clear b4)
    go_ret
    exact ⟨rfl, bel_box (Below.refl _ _) (unhide HB4)⟩
end Go.Proofs.YtihkbbhckdpaiaaGreatDoor
