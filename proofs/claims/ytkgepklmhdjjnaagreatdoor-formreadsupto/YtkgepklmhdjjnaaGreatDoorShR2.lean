/-
  DERIVED. The document's Escaped, Field, Value, Check.
-/
import Derived.Test.YtkgepklmhdjjnaaGreatDoorShR1
import Derived.Test.YtkgepklmhdjjnaaGreatDoorShbm
import Derived.BigQuiet
namespace Go.Proofs.YtkgepklmhdjjnaaGreatDoor
open Go.RowKit
set_option linter.unusedVariables false

set_option maxHeartbeats 4000000 in
theorem rEscaped_any (s : List UInt8) (w : World) (hs : 3 * s.length ≤ 140737488355328) :
    Calls Tryz.prog 16 #[sv s] w fun e w' => e = .returned (sv (esc s)) ∧ Below w.heap.size w w' := by
  have HO : Hid (Own w w.heap.size (.slice none 0 0) (esc (s.take 0))) := hide (World.ownsRow_nil _ _ _ _)
  have HB : Hid (Below w.heap.size w w) := hide (Below.refl _ _)
  go_enter Tryz.func16, Tryz.ntmps16
  go_wp2_with fail
  go_loopw [4, 5, 6] (fun b i _ wr => ∃ k : Nat, k ≤ s.length ∧ i = .int .i64 k ∧ Hid (Own wr w.heap.size b (esc (s.take k))) ∧ Hid (Below w.heap.size w wr)) (fun _ i _ _ => s.length - (intOf i).toNat)
  case atStart => exact ⟨0, by omega, rfl, HO, HB⟩
  case round =>
    obtain ⟨k, hk, rfl, HO', HB'⟩ := hrel
    clear HO HB
    by_cases hlt : k < s.length
    · obtain ⟨d, hd⟩ : ∃ d, s[k]? = some d := ⟨_, List.getElem?_eq_getElem hlt⟩
      have hB := byte_at hd
      have HE := hide (esc_take hd)
      have hlen := esc_length (s.take k)
      rw [List.length_take, Nat.min_eq_left hk] at hlen
      have hdl := d.toNat_lt
      have hsz := (unhide HB').size
      clear hd
      cases hp : plainB d with
      | true =>
        have HP := hide hp
        have HE2 := hide ((unhide HE).trans (congrArg _ (escB_plain hp)))
        clear hp HE
        go_wp2_with (first | (go_at_call 46; refine (rplain_any d _).mono ?_; rintro e w' ⟨rfl, rfl⟩; rw [unhide HP]) | (at_builtin; refine wpList_append_mine rfl (.tmp 18) (.tmp 22) rfl w.heap.size _ (esc (s.take k)) rfl ?own _ [d] rfl ?sl ?hl ?hb ?_; (case own => exact World.ownsRow.alloc (unhide HO') _); (case sl => exact Sl.new wr [d] (by simp [maxLen]) (0, 0)); (case hl => simp; omega); (case hb => simp; omega); intro v' w1 own1 b1; have HO1 := hide own1; have HB1 := hide (((unhide HB').alloc (unhide HB').size _).trans b1); clear own1 b1))
        go_roundw
        case rel => exact ⟨k + 1, by omega, by go_num, by rw [unhide HE2]; exact HO1, HB1⟩
        case measure => simp [intOf]; omega
      | false =>
        have HP := hide hp
        have HE2 := hide ((unhide HE).trans (congrArg _ (escB_other hp)))
        clear hp HE
        go_upto_region 9 with (go_at_call 46; refine (rplain_any d _).mono ?_; rintro e w' ⟨rfl, rfl⟩; rw [unhide HP])
        obtain ⟨hi, hhi⟩ : ∃ hi, hi = d.toNat / 16 := ⟨_, rfl⟩
        obtain ⟨lo, hlo⟩ : ∃ lo, lo = d.toNat % 16 := ⟨_, rfl⟩
        have q1 : (d.toNat : Int) / 16 = (hi : Int) := by omega
        have q1' : (d.toNat : Int).tdiv 16 = (hi : Int) := by rw [Int.tdiv_eq_ediv_of_nonneg (by omega)]; omega
        have q2 : (d.toNat : Int) % 16 = (lo : Int) := by omega
        have q2' : (d.toNat : Int).tmod 16 = (lo : Int) := by rw [Int.tmod_eq_emod_of_nonneg (by omega)]; omega
        have q3 : hi < 16 := by omega
        have q4 : lo < 16 := by omega
        rw [← hhi, ← hlo] at HE2
        clear hhi hlo
        have q3' : (hi : Int) < 16 := by omega
        have q4' : (lo : Int) < 16 := by omega
        have qw1 : IntKind.u8.wrap (hi : Int) = (hi : Int) := by simp [IntKind.wrap, IntKind.signed, IntKind.bits]; omega
        have qw2 : IntKind.u8.wrap (lo : Int) = (lo : Int) := by simp [IntKind.wrap, IntKind.signed, IntKind.bits]; omega
        have q5 := digit_at hi q3
        have q6 := digit_at lo q4
        go_region_law (first | (refine step_append_mine rfl (.tmp 24) (.tmp 37) rfl w.heap.size _ (esc (s.take k)) rfl ?own _ _ _ [37, hexD hi, hexD lo] rfl ?sl ?hl ?hb ?_; (case own => exact World.ownsRow.alloc (unhide HO') _); (case sl => exact Sl.drew (Sl.new wr [37, hexD hi, hexD lo] (by simp [maxLen]) (0, 0))); (case hl => simp; omega); (case hb => simp; omega); intro v' w1 own1 b1; have HO1 := hide own1; have HB1 := hide ((((unhide HB').alloc (unhide HB').size _).drew).trans b1); clear own1 b1))
        all_goals
          go_wp2
          go_roundw
          case rel => exact ⟨k + 1, by omega, by go_num, by rw [unhide HE2]; exact HO1, HB1⟩
          case measure => simp [intOf]; omega
    · have HF : Hid (s.take k = s) := hide (List.take_of_length_le (by omega))
      rw [unhide HF] at HO'
      have cv := str_of (unhide HO').sl
      go_wp2_with fail
      go_ret
      exact ⟨rfl, unhide HB'⟩

end Go.Proofs.YtkgepklmhdjjnaaGreatDoor
