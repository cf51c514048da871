/-
  DERIVED. The walk of Unescape.
-/
import Derived.Test.YtkgepklmhdjjnaaGreatDoorShe
namespace Go.Proofs.YtkgepklmhdjjnaaGreatDoor
open Go.RowKit
set_option linter.unusedVariables false

theorem drop_at {s : List UInt8} {k : Nat} {d : UInt8} (h : s[k]? = some d) : s.drop k = d :: s.drop (k + 1) := by
  obtain ⟨h1, h2⟩ := List.getElem?_eq_some_iff.1 h
  rw [← h2]; exact List.drop_eq_getElem_cons h1

theorem hexV_lt {c : UInt8} {x : Nat} (h : hexV c = some x) : x < 16 := by
  unfold hexV at h
  split at h
  · rename_i hd
    have := digitB_iff.1 hd
    have := Option.some.inj h
    omega
  · split at h
    · have := Option.some.inj h; omega
    · split at h
      · have := Option.some.inj h; omega
      · cases h

theorem unesc_37 {a b : UInt8} {t : List UInt8} {d : UInt8} (hd : d.toNat = 37) : unesc (d :: a :: b :: t) = match hexV a, hexV b with
    | some x, some y => (unesc t).map (UInt8.ofNat (16 * x + y) :: ·)
    | _, _ => none := by
  rw [unesc, if_pos hd]
  all_goals (cases hexV a <;> cases hexV b <;> rfl)
theorem unesc_cut {t : List UInt8} {d : UInt8} (hd : d.toNat = 37) (ht : t.length < 2) : unesc (d :: t) = none := by
  rcases t with _ | ⟨a, _ | ⟨b, t⟩⟩
  · simp [unesc, hd]
  · simp [unesc, hd]
  · simp at ht; omega
theorem unesc_bad {t : List UInt8} {d : UInt8} (hd : d.toNat ≠ 37) (hp : plainB d = false) : unesc (d :: t) = none := by
  rcases t with _ | ⟨a, _ | ⟨b, t⟩⟩ <;> simp [unesc, hd, hp]

set_option maxRecDepth 100000 in
theorem or_facts : ∀ x : Nat, x < 16 → ∀ y : Nat, y < 16 → bits BinOp.or IntKind.u8 ((x : Int) * 16) (y : Int) = ((16 * x + y : Nat) : Int) := by decide

/-- The answer. -/
abbrev unA (r : Option (List UInt8)) : Value := .tuple #[sv (r.getD []), .bool r.isSome]

theorem plain_37 {d : UInt8} (h : d.toNat = 37) : plainB d = false := by
  cases hp : plainB d with
  | false => rfl
  | true => exact absurd h (plain_ne hp)

set_option maxHeartbeats 4000000 in
theorem Unescape_any (s : List UInt8) (w : World) (hs : s.length ≤ 140737488355328) :
    Calls Tryz.prog 13 #[sv s] w fun e w' => e = .returned (unA (unesc s)) ∧ Below w.heap.size w w' := by
  obtain ⟨o, mk, own0⟩ := make_room w s.length (by omega)
  have hb0 : Below w.heap.size w (w.alloc o) := (Below.refl _ _).alloc (Nat.le_refl _) o
  have HO := hide own0
  have HB := hide hb0
  obtain ⟨w0, hw0⟩ : ∃ w0, w0 = w.alloc o := ⟨_, rfl⟩
  rw [← hw0] at mk HO HB
  clear own0 hb0 hw0
  go_enter Tryz.func13, Tryz.ntmps13
  go_wp2_with fail
  go_loopw [4, 5, 6, 7, 8, 9, 10] (fun b i _ _ _ _ _ wr => ∃ (k : Nat) (out : List UInt8), k ≤ s.length ∧ out.length ≤ k ∧ i = .int .i64 k ∧ Hid (Own wr w.heap.size b out) ∧ Hid (Below w.heap.size w wr) ∧ Hid (unesc s = (unesc (s.drop k)).map (out ++ ·))) (fun _ i _ _ _ _ _ _ => s.length - (intOf i).toNat)
  case atStart => exact ⟨0, [], by omega, by simp, rfl, HO, HB, hide (by simp)⟩
  case round =>
    obtain ⟨k, out, hk, hol, rfl, HO', HB', HU⟩ := hrel
    clear HO HB mk
    by_cases hlt : k < s.length
    · obtain ⟨d, hd⟩ : ∃ d, s[k]? = some d := ⟨_, List.getElem?_eq_getElem hlt⟩
      have hB := byte_at hd
      have HD := hide (drop_at hd)
      have hsz := (unhide HB').size
      clear hd
      by_cases h37 : d.toNat = 37
      · have a37 : ((d.toNat : Int) == 37) = true := by simp; omega
        by_cases h2 : k + 2 < s.length
        · have a2 : (k : Int) + 2 < s.length := by omega
          obtain ⟨a, ha⟩ : ∃ a, s[k + 1]? = some a := ⟨_, List.getElem?_eq_getElem (by omega)⟩
          obtain ⟨b, hb⟩ : ∃ b, s[k + 2]? = some b := ⟨_, List.getElem?_eq_getElem h2⟩
          have hBa := byte_at ha
          have hBb := byte_at hb
          have HD3 : Hid (s.drop k = d :: a :: b :: s.drop (k + 3)) := hide (by rw [unhide HD, drop_at ha, drop_at hb])
          clear ha hb
          cases hx : hexV a with
          | none =>
            have HF : Hid (unesc s = none) := hide (by rw [unhide HU, unhide HD3, unesc_37 h37, hx]; rfl)
            have HX := hide hx
            rcases Option.eq_none_or_eq_some (hexV b) with hy | ⟨y, hy⟩
            · have HY := hide hy
              clear hx hy h37
              go_wp2_with (go_at_call 44; first | ((with_reducible refine (hex_no a (unhide HX) _).mono ?_); rintro e w' ⟨rfl, rfl⟩) | ((with_reducible refine (hex_no b (unhide HY) _).mono ?_); rintro e w' ⟨rfl, rfl⟩))
              go_ret2
              rw [unhide HF]
              exact ⟨rfl, unhide HB'⟩
            · have HY := hide hy
              clear hx hy h37
              go_wp2_with (go_at_call 44; first | ((with_reducible refine (hex_no a (unhide HX) _).mono ?_); rintro e w' ⟨rfl, rfl⟩) | ((with_reducible refine (hex_ok b y (unhide HY) _).mono ?_); rintro e w' ⟨rfl, rfl⟩))
              go_ret2
              rw [unhide HF]
              exact ⟨rfl, unhide HB'⟩
          | some x =>
            have HX := hide hx
            have hx16 := hexV_lt hx
            rcases Option.eq_none_or_eq_some (hexV b) with hy | ⟨y, hy⟩
            · have HF : Hid (unesc s = none) := hide (by rw [unhide HU, unhide HD3, unesc_37 h37, hx, hy]; rfl)
              have HY := hide hy
              clear hx hy h37
              go_wp2_with (go_at_call 44; first | ((with_reducible refine (hex_ok a x (unhide HX) _).mono ?_); rintro e w' ⟨rfl, rfl⟩) | ((with_reducible refine (hex_no b (unhide HY) _).mono ?_); rintro e w' ⟨rfl, rfl⟩))
              go_ret2
              rw [unhide HF]
              exact ⟨rfl, unhide HB'⟩
            · have HY := hide hy
              have hy16 := hexV_lt hy
              obtain ⟨q, hq⟩ : ∃ q, q = UInt8.ofNat (16 * x + y) := ⟨_, rfl⟩
              have hqv : (q.toNat : Int) = 16 * x + y := by rw [hq]; simp; omega
              have HF : Hid (unesc s = (unesc (s.drop (k + 3))).map (out ++ [q] ++ ·)) := hide (by
                rw [unhide HU, unhide HD3, unesc_37 h37]
                simp only [hx, hy]
                rw [← hq]
                cases unesc (s.drop (k + 3)) <;> simp)
              have Hor : Hid (bits BinOp.or IntKind.u8 ((x : Int) * 16) (y : Int) = (q.toNat : Int)) := hide (by rw [or_facts x hx16 y hy16, hqv]; omega)
              clear hx hy h37 hq hqv
              go_upto_region 15 with (go_at_call 44; first | ((with_reducible refine (hex_ok a x (unhide HX) _).mono ?_); rintro e w' ⟨rfl, rfl⟩) | ((with_reducible refine (hex_ok b y (unhide HY) _).mono ?_); rintro e w' ⟨rfl, rfl⟩))
              rw [unhide Hor]
              go_wp2_with (at_builtin; refine wpList_append_mine rfl (.tmp 63) (.tmp 65) rfl w.heap.size _ out rfl ?own _ [q] rfl ?sl ?hl ?hb ?_; (case own => exact World.ownsRow.alloc (unhide HO') _); (case sl => exact Sl.new wr [q] (by simp [maxLen]) (0, 0)); (case hl => simp; omega); (case hb => simp; omega); intro v' w1 own1 b1; have HO1 := hide own1; have HB1 := hide (((unhide HB').alloc (unhide HB').size _).trans b1); clear own1 b1)
              go_roundw
              case rel => exact ⟨k + 3, out ++ [q], by omega, by simp; omega, by go_num, HO1, HB1, HF⟩
              case measure => simp [intOf]; omega
        · have HF : Hid (unesc s = none) := hide (by rw [unhide HU, unhide HD, unesc_cut h37 (by simp; omega)]; rfl)
          have HP := hide (plain_37 h37)
          have a2 : ¬ (k : Int) + 2 < s.length := by omega
          clear h37
          go_wp2_with (go_at_call 45; refine (plain_any d _).mono ?_; rintro e w' ⟨rfl, rfl⟩; rw [unhide HP])
          go_ret2
          rw [unhide HF]
          exact ⟨rfl, unhide HB'⟩
      · have a37 : ((d.toNat : Int) == 37) = false := by simp; omega
        cases hp : plainB d with
        | true =>
          have HF : Hid (unesc s = (unesc (s.drop (k + 1))).map (out ++ [d] ++ ·)) := hide (by
            rw [unhide HU, unhide HD, unesc_plain hp]
            cases unesc (s.drop (k + 1)) <;> simp)
          have HP := hide hp
          clear h37 hp
          go_upto_region 15 with (go_at_call 45; refine (plain_any d _).mono ?_; rintro e w' ⟨rfl, rfl⟩; rw [unhide HP])
          go_wp2_with (at_builtin; refine wpList_append_mine rfl (.tmp 63) (.tmp 65) rfl w.heap.size _ out rfl ?own _ [d] rfl ?sl ?hl ?hb ?_; (case own => exact World.ownsRow.alloc (unhide HO') _); (case sl => exact Sl.new wr [d] (by simp [maxLen]) (0, 0)); (case hl => simp; omega); (case hb => simp; omega); intro v' w1 own1 b1; have HO1 := hide own1; have HB1 := hide (((unhide HB').alloc (unhide HB').size _).trans b1); clear own1 b1)
          go_roundw
          case rel => exact ⟨k + 1, out ++ [d], by omega, by simp; omega, by go_num, HO1, HB1, HF⟩
          case measure => simp [intOf]; omega
        | false =>
          have HF : Hid (unesc s = none) := hide (by rw [unhide HU, unhide HD, unesc_bad h37 hp]; rfl)
          have HP := hide hp
          clear h37 hp
          go_wp2_with (go_at_call 45; refine (plain_any d _).mono ?_; rintro e w' ⟨rfl, rfl⟩; rw [unhide HP])
          go_ret2
          rw [unhide HF]
          exact ⟨rfl, unhide HB'⟩
    · have HF : Hid (unesc s = some out) := hide (by rw [unhide HU, List.drop_of_length_le (by omega)]; simp [unesc])
      have cv := str_of (unhide HO').sl
      go_wp2_with fail
      go_ret2
      rw [unhide HF]
      exact ⟨rfl, unhide HB'⟩
end Go.Proofs.YtkgepklmhdjjnaaGreatDoor
