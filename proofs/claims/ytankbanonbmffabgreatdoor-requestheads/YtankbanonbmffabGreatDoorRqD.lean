/-
  DERIVED. The walks of strings.Cut at one byte, isOf, isTarget.
-/
import Derived.Test.YtankbanonbmffabGreatDoorRqC
namespace Go.Proofs.YtankbanonbmffabGreatDoor
open Go.RowKit
set_option linter.unusedVariables false

theorem qcut_index (c : UInt8) (s : List UInt8) : (Lib.indexByte s c = -1 ∧ qCut c s = (s, none)) ∨ ∃ i : Nat, Lib.indexByte s c = i ∧ i < s.length ∧ qCut c s = (s.take i, some (s.drop (i + 1))) := by
  induction s with
  | nil => exact .inl ⟨rfl, rfl⟩
  | cons d r ih =>
    by_cases h : d = c
    · subst h
      exact .inr ⟨0, by simp [Lib.indexByte], by simp, by simp [qCut]⟩
    · rcases ih with ⟨h1, h2⟩ | ⟨i, h1, h2, h3⟩
      · exact .inl ⟨by simp [Lib.indexByte, h, h1], by simp [qCut, h, h2]⟩
      · refine .inr ⟨i + 1, ?_, by simp; omega, by simp [qCut, h, h3]⟩
        simp [Lib.indexByte, h, h1]

theorem qext_take (s : List UInt8) (i : Nat) : (⟨s.toArray⟩ : ByteArray).extract 0 i = ⟨(s.take i).toArray⟩ := by
  apply ByteArray.ext
  simp
theorem qext_drop (s : List UInt8) (i : Nat) : (⟨s.toArray⟩ : ByteArray).extract i s.length = ⟨(s.drop i).toArray⟩ := by
  apply ByteArray.ext
  simp
  exact List.take_of_length_le (by simp)

abbrev qcutV (p : List UInt8 × Option (List UInt8)) : Value := .tuple #[qv p.1, qv (p.2.getD []), .bool p.2.isSome]

set_option maxHeartbeats 2000000 in
theorem qliteCut_any (s : List UInt8) (c : UInt8) (w : World) (hs : s.length ≤ 9223372036854775000) :
    Calls Tryz.prog 36 #[qv s, .string ⟨#[c]⟩] w fun e w' => e = .returned (qcutV (qCut c s)) ∧ Below w.heap.size w w' := by
  have hI := Tryz.stringslite_Index_one ⟨s.toArray⟩ c w
  rcases qcut_index c s with ⟨h1, h2⟩ | ⟨i, h1, h2, h3⟩
  · rw [h2]
    have h1' : Lib.indexByte (⟨s.toArray⟩ : ByteArray).data.toList c = -1 := h1
    rw [h1'] at hI
    have HI := hide hI
    clear hI h1 h1' h2
    go_enter Tryz.func36, Tryz.ntmps36
    go_wp2_with (go_at_call 55; refine (unhide HI).mono ?_; rintro e w' ⟨rfl, rfl⟩)
    go_ret3
    exact ⟨rfl, Below.refl _ _⟩
  · rw [h3]
    have h1' : Lib.indexByte (⟨s.toArray⟩ : ByteArray).data.toList c = (i : Int) := h1
    rw [h1'] at hI
    have HI := hide hI
    have c1 : (0 : Int) ≤ (i : Int) := by omega
    have c2 : (i : Int) ≤ (s.length : Int) := by omega
    have c3 : (0 : Int) ≤ (i : Int) + 1 := by omega
    have c4 : (i : Int) + 1 ≤ (s.length : Int) := by omega
    clear hI h1 h1' h3
    go_enter Tryz.func36, Tryz.ntmps36
    go_wp2_with (go_at_call 55; refine (unhide HI).mono ?_; rintro e w' ⟨rfl, rfl⟩)
    go_region
    go_wp2
    go_ret3
    refine ⟨?_, (Below.refl _ _).drew⟩
    show Ending.returned (Value.tuple #[Value.string ((⟨s.toArray⟩ : ByteArray).extract 0 i), Value.string ((⟨s.toArray⟩ : ByteArray).extract (i + 1) s.length), Value.bool true]) = _
    rw [qext_take, qext_drop]
    rfl

set_option maxHeartbeats 1000000 in
theorem qCut_any (s : List UInt8) (c : UInt8) (w : World) (hs : s.length ≤ 9223372036854775000) :
    Calls Tryz.prog 17 #[qv s, .string ⟨#[c]⟩] w fun e w' => e = .returned (qcutV (qCut c s)) ∧ Below w.heap.size w w' := by
  have HI := hide (qliteCut_any s c w hs)
  obtain ⟨p, q⟩ : ∃ p, p = qCut c s := ⟨_, rfl⟩
  rw [← q] at HI ⊢
  obtain ⟨p1, p2⟩ := p
  clear q
  go_enter Tryz.func17, Tryz.ntmps17
  go_wp2_with (go_at_call 36; refine (unhide HI).mono ?_; rintro e w' ⟨rfl, b4⟩; have HB := hide b4; clear b4)
  go_ret3
  exact ⟨rfl, unhide HB⟩

theorem qof_step {o s : List UInt8} {k : Nat} {c : UInt8} (h : s[k]? = some c) : qOf o (s.drop k) = if qPlain c || o.contains c then qOf o (s.drop (k + 1)) else if c.toNat = 37 then (match s.drop (k + 1) with
    | a :: b :: t => qHex a && qHex b && qOf o t
    | _ => false) else false := by
  rw [drop_cons h, qOf_cons]
  rcases s.drop (k + 1) with _ | ⟨a, _ | ⟨b, t⟩⟩ <;> rfl

set_option maxHeartbeats 8000000 in
set_option maxRecDepth 20000 in
theorem isOf_any (s o : List UInt8) (w : World) (hs : s.length ≤ 9223372036854770000) :
    Calls Tryz.prog 35 #[qv s, qv o] w fun e w' => e = .returned (.bool (qOf o s)) ∧ w' = w := by
  have HI := hide (fun c W => qIdx_any o c W)
  go_enter Tryz.func35, Tryz.ntmps35
  go_wp2_with fail
  go_loopw [5] (fun i wr => ∃ k : Nat, k ≤ s.length ∧ i = .int .i64 k ∧ Hid (qOf o s = qOf o (s.drop k)) ∧ Hid (wr = w)) (fun i _ => s.length - (intOf i).toNat)
  case atStart => exact ⟨0, by omega, rfl, hide rfl, hide rfl⟩
  case round =>
    obtain ⟨k, hk, rfl, HA, HW⟩ := hrel
    by_cases hlt : k < s.length
    · obtain ⟨d, hd⟩ : ∃ d, s[k]? = some d := ⟨_, List.getElem?_eq_getElem hlt⟩
      have HD := hide hd
      have HS := hide (qof_step (o := o) hd)
      have hB := qbyte_at hd
      clear hd
      obtain ⟨P, hP⟩ : ∃ P, P = qPlain d := ⟨_, rfl⟩
      have HP := hide hP.symm
      rw [← hP] at HS
      obtain ⟨C, hC⟩ : ∃ C, C = o.contains d := ⟨_, rfl⟩
      have HC := hide hC.symm
      rw [← hC] at HS
      clear hP hC
      cases P with
      | true =>
        have HA1 : Hid (qOf o s = qOf o (s.drop (k + 1))) := hide (by rw [unhide HA, unhide HS]; simp)
        clear HS
        go_wp2_with (go_at_call 52; refine (isPlain_any d _).mono ?_; rintro e w' ⟨rfl, rfl⟩; rw [unhide HP])
        go_roundw
        case rel => exact ⟨k + 1, by omega, by go_num, HA1, HW⟩
        case measure => simp [intOf]; omega
      | false =>
        cases C with
        | true =>
          have HA1 : Hid (qOf o s = qOf o (s.drop (k + 1))) := hide (by rw [unhide HA, unhide HS]; simp)
          clear HS
          go_wp2_with (first | (go_at_call 52; refine (isPlain_any d _).mono ?_; rintro e w' ⟨rfl, rfl⟩; rw [unhide HP]) | (go_at_call 53; refine (unhide HI d _).mono ?_; rintro e w' ⟨⟨n, rfl, hn⟩, rfl⟩; rw [unhide HC] at hn))
          go_roundw
          case rel => exact ⟨k + 1, by omega, by go_num, HA1, HW⟩
          case measure => simp [intOf]; omega
        | false =>
          by_cases h37 : d.toNat = 37
          · have e37 : ((d.toNat : Int) == 37) = true := u8_eq h37
            have HS1 : Hid (qOf o s = match s.drop (k + 1) with
                | a :: b :: t => qHex a && qHex b && qOf o t
                | _ => false) := hide (by rw [unhide HA, unhide HS]; simp [h37])
            clear HS h37
            by_cases h2 : k + 2 < s.length
            · obtain ⟨a, ha⟩ : ∃ a, s[k + 1]? = some a := ⟨_, List.getElem?_eq_getElem (by omega)⟩
              obtain ⟨b, hb⟩ : ∃ b, s[k + 2]? = some b := ⟨_, List.getElem?_eq_getElem h2⟩
              have HS2 : Hid (qOf o s = (qHex a && qHex b && qOf o (s.drop (k + 3)))) := hide (by rw [unhide HS1, drop_cons ha, drop_cons hb])
              have hBa := qbyte_at ha
              have hBb := qbyte_at hb
              have h2' : (k : Int) + 2 < s.length := by omega
              obtain ⟨XA, hXA⟩ : ∃ X, X = qHex a := ⟨_, rfl⟩
              have HXA := hide hXA.symm
              rw [← hXA] at HS2
              obtain ⟨XB, hXB⟩ : ∃ X, X = qHex b := ⟨_, rfl⟩
              have HXB := hide hXB.symm
              rw [← hXB] at HS2
              clear hXA hXB ha hb HS1
              cases XA with
              | false =>
                have HF : Hid (qOf o s = false) := hide (by rw [unhide HS2]; rfl)
                go_wp2_with (first | (go_at_call 52; refine (isPlain_any d _).mono ?_; rintro e w' ⟨rfl, rfl⟩; rw [unhide HP]) | (go_at_call 53; refine (unhide HI d _).mono ?_; rintro e w' ⟨⟨n, rfl, hn⟩, rfl⟩; rw [unhide HC] at hn) | (go_at_call 54; refine (isHex_any a _).mono ?_; rintro e w' ⟨rfl, rfl⟩; rw [unhide HXA]))
                go_ret
                rw [unhide HF]
                exact ⟨rfl, unhide HW⟩
              | true =>
                cases XB with
                | false =>
                  have HF : Hid (qOf o s = false) := hide (by rw [unhide HS2]; rfl)
                  go_wp2_with (first | (go_at_call 52; refine (isPlain_any d _).mono ?_; rintro e w' ⟨rfl, rfl⟩; rw [unhide HP]) | (go_at_call 53; refine (unhide HI d _).mono ?_; rintro e w' ⟨⟨n, rfl, hn⟩, rfl⟩; rw [unhide HC] at hn) | (go_at_call 54; with_reducible refine (isHex_any a _).mono ?_; rintro e w' ⟨rfl, rfl⟩; rw [unhide HXA]) | (go_at_call 54; refine (isHex_any b _).mono ?_; rintro e w' ⟨rfl, rfl⟩; rw [unhide HXB]))
                  go_ret
                  rw [unhide HF]
                  exact ⟨rfl, unhide HW⟩
                | true =>
                  have HA1 : Hid (qOf o s = qOf o (s.drop (k + 3))) := hide (by rw [unhide HS2]; rfl)
                  go_wp2_with (first | (go_at_call 52; refine (isPlain_any d _).mono ?_; rintro e w' ⟨rfl, rfl⟩; rw [unhide HP]) | (go_at_call 53; refine (unhide HI d _).mono ?_; rintro e w' ⟨⟨n, rfl, hn⟩, rfl⟩; rw [unhide HC] at hn) | (go_at_call 54; with_reducible refine (isHex_any a _).mono ?_; rintro e w' ⟨rfl, rfl⟩; rw [unhide HXA]) | (go_at_call 54; refine (isHex_any b _).mono ?_; rintro e w' ⟨rfl, rfl⟩; rw [unhide HXB]))
                  go_roundw
                  case rel => exact ⟨k + 3, by omega, by go_num, HA1, HW⟩
                  case measure => simp [intOf]; omega
            · have h2' : decide ((k : Int) + 2 < s.length) = false := decide_eq_false (by omega)
              have HF : Hid (qOf o s = false) := hide (by
                rw [unhide HS1]
                have hl : (s.drop (k + 1)).length ≤ 1 := by rw [List.length_drop]; omega
                obtain ⟨T, hT⟩ : ∃ T, T = s.drop (k + 1) := ⟨_, rfl⟩
                rw [← hT] at hl ⊢
                rcases T with _ | ⟨a, _ | ⟨b, t⟩⟩
                · rfl
                · rfl
                · simp at hl)
              clear h2
              go_wp2_with (first | (go_at_call 52; refine (isPlain_any d _).mono ?_; rintro e w' ⟨rfl, rfl⟩; rw [unhide HP]) | (go_at_call 53; refine (unhide HI d _).mono ?_; rintro e w' ⟨⟨n, rfl, hn⟩, rfl⟩; rw [unhide HC] at hn))
              go_ret
              rw [unhide HF]
              exact ⟨rfl, unhide HW⟩
          · have e37 : ((d.toNat : Int) == 37) = false := u8_ne h37
            have HF : Hid (qOf o s = false) := hide (by rw [unhide HA, unhide HS]; simp [h37])
            clear HS h37
            go_wp2_with (first | (go_at_call 52; refine (isPlain_any d _).mono ?_; rintro e w' ⟨rfl, rfl⟩; rw [unhide HP]) | (go_at_call 53; refine (unhide HI d _).mono ?_; rintro e w' ⟨⟨n, rfl, hn⟩, rfl⟩; rw [unhide HC] at hn))
            go_ret
            rw [unhide HF]
            exact ⟨rfl, unhide HW⟩
    · have HF : Hid (qOf o s = true) := hide (by rw [unhide HA, List.drop_of_length_le (by omega)]; rfl)
      go_wp2_with fail
      go_ret
      rw [unhide HF]
      exact ⟨rfl, unhide HW⟩
end Go.Proofs.YtankbanonbmffabGreatDoor
