/-
  DERIVED. The document's hex, Unescaped.
-/
import Derived.Test.YtkgepklmhdjjnaaGreatDoorShR1
import Derived.Test.YtkgepklmhdjjnaaGreatDoorShu
namespace Go.Proofs.YtkgepklmhdjjnaaGreatDoor
open Go.RowKit
set_option linter.unusedVariables false

/-- What the document's hex answers. -/
def hexI (c : UInt8) : Int := match hexV c with
  | some x => (x : Int)
  | none => -1
theorem hexI_some {c : UInt8} {x : Nat} (h : hexV c = some x) : hexI c = (x : Int) := by unfold hexI; rw [h]
theorem hexI_none {c : UInt8} (h : hexV c = none) : hexI c = -1 := by unfold hexI; rw [h]

theorem hexV_digit {c : UInt8} (h : 48 ≤ c.toNat ∧ c.toNat ≤ 57) : hexV c = some (c.toNat - 48) := by
  unfold hexV; rw [if_pos (digitB_iff.2 h)]
theorem hexV_cap {c : UInt8} (h : 65 ≤ c.toNat ∧ c.toNat ≤ 70) : hexV c = some (c.toNat - 55) := by
  unfold hexV; rw [if_neg (fun e => by have := digitB_iff.1 e; omega), if_pos h]
theorem hexV_small {c : UInt8} (h : 97 ≤ c.toNat ∧ c.toNat ≤ 102) : hexV c = some (c.toNat - 87) := by
  unfold hexV; rw [if_neg (fun e => by have := digitB_iff.1 e; omega), if_neg (by omega), if_pos h]
theorem hexV_none {c : UInt8} (h1 : ¬ (48 ≤ c.toNat ∧ c.toNat ≤ 57)) (h2 : ¬ (65 ≤ c.toNat ∧ c.toNat ≤ 70)) (h3 : ¬ (97 ≤ c.toNat ∧ c.toNat ≤ 102)) : hexV c = none := by
  unfold hexV; rw [if_neg (fun e => h1 (digitB_iff.1 e)), if_neg h2, if_neg h3]

set_option maxHeartbeats 2000000 in
theorem rhex_any (c : UInt8) (w : World) :
    Calls Tryz.prog 47 #[u8v c] w fun e w' => e = .returned (.int .i64 (hexI c)) ∧ w = w' := by
  have hc := c.toNat_lt
  by_cases h1 : 48 ≤ c.toNat ∧ c.toNat ≤ 57
  · rw [hexI_some (hexV_digit h1)]
    have a1 : (48 : Int) ≤ c.toNat := by omega
    have a2 : (c.toNat : Int) ≤ 57 := by omega
    have q1 : IntKind.u8.wrap ((c.toNat : Int) - 48) = ((c.toNat - 48 : Nat) : Int) := by simp [IntKind.wrap, IntKind.signed, IntKind.bits]; omega
    have q2 : IntKind.i64.wrap ((c.toNat - 48 : Nat) : Int) = ((c.toNat - 48 : Nat) : Int) := by rw [IntKind.wrap_i64]; omega
    clear h1
    go_enter Tryz.func47, Tryz.ntmps47
    go_wp2_with fail
    go_ret
    exact ⟨rfl, rfl⟩
  · by_cases h3 : 97 ≤ c.toNat ∧ c.toNat ≤ 102
    · rw [hexI_some (hexV_small h3)]
      have a0 : ¬ (c.toNat : Int) ≤ 57 := by omega
      have a1 : (97 : Int) ≤ c.toNat := by omega
      have a2 : (c.toNat : Int) ≤ 102 := by omega
      have a3 : (48 : Int) ≤ c.toNat := by omega
      obtain ⟨m, hm⟩ : ∃ m : Nat, m = c.toNat - 97 := ⟨_, rfl⟩
      have q1 : IntKind.u8.wrap ((c.toNat : Int) - 97) = (m : Int) := by rw [hm]; simp [IntKind.wrap, IntKind.signed, IntKind.bits]; omega
      have q2 : IntKind.i64.wrap (m : Int) = (m : Int) := by rw [IntKind.wrap_i64]; omega
      have q3 : IntKind.i64.wrap ((m : Int) + 10) = ((c.toNat - 87 : Nat) : Int) := by rw [IntKind.wrap_i64]; omega
      clear h1 h3 hm
      go_enter Tryz.func47, Tryz.ntmps47
      go_wp2_with fail
      go_ret
      exact ⟨rfl, rfl⟩
    · by_cases h2 : 65 ≤ c.toNat ∧ c.toNat ≤ 70
      · rw [hexI_some (hexV_cap h2)]
        have a0 : ¬ (c.toNat : Int) ≤ 57 := by omega
        have a1 : (65 : Int) ≤ c.toNat := by omega
        have a2 : (c.toNat : Int) ≤ 70 := by omega
        have a3 : (48 : Int) ≤ c.toNat := by omega
        have a4 : ¬ (97 : Int) ≤ c.toNat := by omega
        obtain ⟨m, hm⟩ : ∃ m : Nat, m = c.toNat - 65 := ⟨_, rfl⟩
        have q1 : IntKind.u8.wrap ((c.toNat : Int) - 65) = (m : Int) := by rw [hm]; simp [IntKind.wrap, IntKind.signed, IntKind.bits]; omega
        have q2 : IntKind.i64.wrap (m : Int) = (m : Int) := by rw [IntKind.wrap_i64]; omega
        have q3 : IntKind.i64.wrap ((m : Int) + 10) = ((c.toNat - 55 : Nat) : Int) := by rw [IntKind.wrap_i64]; omega
        clear h1 h2 h3 hm
        go_enter Tryz.func47, Tryz.ntmps47
        go_wp2_with fail
        go_ret
        exact ⟨rfl, rfl⟩
      · rw [hexI_none (hexV_none h1 h2 h3)]
        have g1 : decide ((48 : Int) ≤ c.toNat) = false ∨ (decide ((48 : Int) ≤ c.toNat) = true ∧ decide ((c.toNat : Int) ≤ 57) = false) := by simp; omega
        have g2 : decide ((65 : Int) ≤ c.toNat) = false ∨ (decide ((65 : Int) ≤ c.toNat) = true ∧ decide ((c.toNat : Int) ≤ 70) = false) := by simp; omega
        have g3 : decide ((97 : Int) ≤ c.toNat) = false ∨ (decide ((97 : Int) ≤ c.toNat) = true ∧ decide ((c.toNat : Int) ≤ 102) = false) := by simp; omega
        clear h1 h2 h3
        rcases g1 with g1 | ⟨g1, g1'⟩ <;> rcases g2 with g2 | ⟨g2, g2'⟩ <;> rcases g3 with g3 | ⟨g3, g3'⟩
        all_goals
          go_enter Tryz.func47, Tryz.ntmps47
          go_wp2_with fail
          go_ret
          exact ⟨rfl, rfl⟩

theorem plain_no37 {d : UInt8} (h : plainB d = true) : d.toNat ≠ 37 := plain_ne h

set_option maxHeartbeats 4000000 in
theorem rUnescaped_any (s : List UInt8) (w : World) (hs : s.length ≤ 140737488355328) :
    Calls Tryz.prog 14 #[sv s] w fun e w' => e = .returned (unA (unesc s)) ∧ Below w.heap.size w w' := by
  have HO : Hid (Own w w.heap.size (.slice none 0 0) []) := hide (World.ownsRow_nil _ _ _ _)
  have HB : Hid (Below w.heap.size w w) := hide (Below.refl _ _)
  go_enter Tryz.func14, Tryz.ntmps14
  go_wp2_with fail
  go_loopw [4, 5, 6, 7, 8] (fun b i _ _ _ wr => ∃ (k : Nat) (out : List UInt8), k ≤ s.length ∧ out.length ≤ k ∧ i = .int .i64 k ∧ Hid (Own wr w.heap.size b out) ∧ Hid (Below w.heap.size w wr) ∧ Hid (unesc s = (unesc (s.drop k)).map (out ++ ·))) (fun _ i _ _ _ _ => s.length - (intOf i).toNat)
  case atStart => exact ⟨0, [], by omega, by simp, rfl, HO, HB, hide (by simp)⟩
  case round =>
    obtain ⟨k, out, hk, hol, rfl, HO', HB', HU⟩ := hrel
    clear HO HB
    by_cases hlt : k < s.length
    · obtain ⟨d, hd⟩ : ∃ d, s[k]? = some d := ⟨_, List.getElem?_eq_getElem hlt⟩
      have hB := byte_at hd
      have HD := hide (drop_at hd)
      have hsz := (unhide HB').size
      clear hd
      cases hp : plainB d with
      | true =>
        have HF : Hid (unesc s = (unesc (s.drop (k + 1))).map (out ++ [d] ++ ·)) := hide (by
          rw [unhide HU, unhide HD, unesc_plain hp]
          cases unesc (s.drop (k + 1)) <;> simp)
        have HP := hide hp
        clear hp
        go_wp2_with (first | (go_at_call 46; refine (rplain_any d _).mono ?_; rintro e w' ⟨rfl, rfl⟩; rw [unhide HP]) | (at_builtin; refine wpList_append_mine rfl (.tmp 20) (.tmp 24) rfl w.heap.size _ out rfl ?own _ [d] rfl ?sl ?hl ?hb ?_; (case own => exact World.ownsRow.alloc (unhide HO') _); (case sl => exact Sl.new wr [d] (by simp [maxLen]) (0, 0)); (case hl => simp; omega); (case hb => simp; omega); intro v' w1 own1 b1; have HO1 := hide own1; have HB1 := hide (((unhide HB').alloc (unhide HB').size _).trans b1); clear own1 b1))
        go_roundw
        case rel => exact ⟨k + 1, out ++ [d], by omega, by simp; omega, by go_num, HO1, HB1, HF⟩
        case measure => simp [intOf]; omega
      | false =>
        have HP := hide hp
        by_cases h37 : d.toNat = 37
        · have a37 : ((d.toNat : Int) != 37) = false := by simp; omega
          by_cases h2 : k + 2 < s.length
          · have a2 : ¬ (s.length : Int) ≤ (k : Int) + 2 := by omega
            obtain ⟨a, ha⟩ : ∃ a, s[k + 1]? = some a := ⟨_, List.getElem?_eq_getElem (by omega)⟩
            obtain ⟨b, hb⟩ : ∃ b, s[k + 2]? = some b := ⟨_, List.getElem?_eq_getElem h2⟩
            have hBa := byte_at ha
            have hBb := byte_at hb
            have HD3 : Hid (s.drop k = d :: a :: b :: s.drop (k + 3)) := hide (by rw [unhide HD, drop_at ha, drop_at hb])
            have HXa : Hid (∀ W, Calls Tryz.prog 47 #[u8v a] W fun e w' => e = .returned (.int .i64 (hexI a)) ∧ W = w') := hide (fun W => rhex_any a W)
            have HXb : Hid (∀ W, Calls Tryz.prog 47 #[u8v b] W fun e w' => e = .returned (.int .i64 (hexI b)) ∧ W = w') := hide (fun W => rhex_any b W)
            clear ha hb
            cases hx : hexV a with
            | none =>
              have HF : Hid (unesc s = none) := hide (by rw [unhide HU, unhide HD3, unesc_37 h37, hx]; rfl)
              rw [hexI_none hx] at HXa
              obtain ⟨yb, hyb⟩ : ∃ yb, yb = hexI b := ⟨_, rfl⟩
              rw [← hyb] at HXb
              clear hx hp h37 hyb
              go_wp2_with (first | (go_at_call 46; refine (rplain_any d _).mono ?_; rintro e w' ⟨rfl, rfl⟩; rw [unhide HP]) | (go_at_call 47; first | ((with_reducible refine (unhide HXa _).mono ?_); rintro e w' ⟨rfl, rfl⟩) | ((with_reducible refine (unhide HXb _).mono ?_); rintro e w' ⟨rfl, rfl⟩)))
              go_ret2
              rw [unhide HF]
              exact ⟨rfl, unhide HB'⟩
            | some x =>
              have hx16 := hexV_lt hx
              rw [hexI_some hx] at HXa
              cases hy : hexV b with
              | none =>
                have HF : Hid (unesc s = none) := hide (by rw [unhide HU, unhide HD3, unesc_37 h37, hx, hy]; rfl)
                rw [hexI_none hy] at HXb
                clear hx hy hp h37
                go_wp2_with (first | (go_at_call 46; refine (rplain_any d _).mono ?_; rintro e w' ⟨rfl, rfl⟩; rw [unhide HP]) | (go_at_call 47; first | ((with_reducible refine (unhide HXa _).mono ?_); rintro e w' ⟨rfl, rfl⟩) | ((with_reducible refine (unhide HXb _).mono ?_); rintro e w' ⟨rfl, rfl⟩)))
                go_ret2
                rw [unhide HF]
                exact ⟨rfl, unhide HB'⟩
              | some y =>
                have hy16 := hexV_lt hy
                rw [hexI_some hy] at HXb
                obtain ⟨q, hq⟩ : ∃ q, q = UInt8.ofNat (16 * x + y) := ⟨_, rfl⟩
                have hqv : (q.toNat : Int) = 16 * x + y := by rw [hq]; simp; omega
                have HF : Hid (unesc s = (unesc (s.drop (k + 3))).map (out ++ [q] ++ ·)) := hide (by
                  rw [unhide HU, unhide HD3, unesc_37 h37]
                  simp only [hx, hy]
                  rw [← hq]
                  cases unesc (s.drop (k + 3)) <;> simp)
                have w1 : IntKind.i64.wrap (16 * (x : Int)) = 16 * (x : Int) := by rw [IntKind.wrap_i64]; omega
                have w2 : IntKind.i64.wrap (16 * (x : Int) + (y : Int)) = (q.toNat : Int) := by rw [IntKind.wrap_i64]; omega
                have w3 : IntKind.u8.wrap (q.toNat : Int) = (q.toNat : Int) := by have := q.toNat_lt; simp [IntKind.wrap, IntKind.signed, IntKind.bits]; omega
                clear hx hy hp h37 hq hqv
                go_wp2_with (first | (go_at_call 46; refine (rplain_any d _).mono ?_; rintro e w' ⟨rfl, rfl⟩; rw [unhide HP]) | (go_at_call 47; first | ((with_reducible refine (unhide HXa _).mono ?_); rintro e w' ⟨rfl, rfl⟩) | ((with_reducible refine (unhide HXb _).mono ?_); rintro e w' ⟨rfl, rfl⟩)) | (at_builtin; refine wpList_append_mine rfl (.tmp 53) (.tmp 59) rfl w.heap.size _ out rfl ?own _ [q] rfl ?sl ?hl ?hb ?_; (case own => exact World.ownsRow.alloc (unhide HO') _); (case sl => exact Sl.new wr [q] (by simp [maxLen]) (0, 0)); (case hl => simp; omega); (case hb => simp; omega); intro v' w1 own1 b1; have HO1 := hide own1; have HB1 := hide (((unhide HB').alloc (unhide HB').size _).trans b1); clear own1 b1))
                go_roundw
                case rel => exact ⟨k + 3, out ++ [q], by omega, by simp; omega, by go_num, HO1, HB1, HF⟩
                case measure => simp [intOf]; omega
          · have HF : Hid (unesc s = none) := hide (by rw [unhide HU, unhide HD, unesc_cut h37 (by simp; omega)]; rfl)
            have a2 : (s.length : Int) ≤ (k : Int) + 2 := by omega
            clear h37 hp
            go_wp2_with (go_at_call 46; refine (rplain_any d _).mono ?_; rintro e w' ⟨rfl, rfl⟩; rw [unhide HP])
            go_ret2
            rw [unhide HF]
            exact ⟨rfl, unhide HB'⟩
        · have a37 : ((d.toNat : Int) != 37) = true := by simp; omega
          have HF : Hid (unesc s = none) := hide (by rw [unhide HU, unhide HD, unesc_bad h37 hp]; rfl)
          clear h37 hp
          go_wp2_with (go_at_call 46; refine (rplain_any d _).mono ?_; rintro e w' ⟨rfl, rfl⟩; rw [unhide HP])
          go_ret2
          rw [unhide HF]
          exact ⟨rfl, unhide HB'⟩
    · have HF : Hid (unesc s = some out) := hide (by rw [unhide HU, List.drop_of_length_le (by omega)]; simp [unesc])
      have cv := str_of (unhide HO').sl
      go_wp2_with fail
      go_ret2
      rw [unhide HF]
      exact ⟨rfl, unhide HB'⟩
end Go.Proofs.YtkgepklmhdjjnaaGreatDoor
