/-
  DERIVED. The walks of small, of the document's Small, of strings.Split at one byte.
-/
import Derived.Test.YtankbanonbmffabGreatDoorRqE
namespace Go.Proofs.YtankbanonbmffabGreatDoor
open Go.RowKit
set_option linter.unusedVariables false

/-- A row of bytes of one's own, behind a text. -/
def SmAt (w : World) (g : Nat) (l : List UInt8) : Prop := g < w.heap.size ∧ ∀ i, (h : i < l.length) → w.cell? ⟨g, i, none⟩ = some (bv l[i]) ∧ w.frozen? ⟨g, i, none⟩ = false
theorem SmAt.at {w : World} {g : Nat} {l : List UInt8} (h : SmAt w g l) {k : Nat} {c : UInt8} (hc : l[k]? = some c) : w.cell? ⟨g, k, none⟩ = some (bv c) ∧ w.frozen? ⟨g, k, none⟩ = false := by
  obtain ⟨h1, h2⟩ := List.getElem?_eq_some_iff.1 hc
  have := h.2 k h1
  rwa [h2] at this
theorem SmAt.set {w : World} {g : Nat} {l : List UInt8} (h : SmAt w g l) {k : Nat} (hk : k < l.length) (d : UInt8) : SmAt (w.setCell ⟨g, k, none⟩ (bv d)) g (l.set k d) := by
  refine ⟨by simpa [World.setCell] using h.1, fun i hi => ?_⟩
  simp only [List.length_set] at hi
  refine ⟨?_, by rw [World.frozen?_setCell]; exact (h.2 i hi).2⟩
  by_cases e : k = i
  · subst e
    rw [World.cell?_setCell_same w _ _ (h.2 k hk).1]
    simp
  · rw [World.cell?_setCell_other w _ _ _ (fun he => e (by cases he; rfl)), (h.2 i hi).1]
    simp [e]

theorem conv_small (w : World) (s : List UInt8) (hs : s.length ≤ 9223372036854775807) : ∃ cap w', (convert 9 24 (qv s)).run Tryz.prog w = .ok (.slice (some ⟨w.heap.size, 0, none⟩) s.length cap) w' ∧ SmAt w' w.heap.size s ∧ Below w.heap.size w w' ∧ s.length ≤ cap ∧ cap ≤ 9223372036854775807 := by
  have hz : (⟨s.toArray⟩ : ByteArray).size = s.length := rfl
  refine ⟨_, _, by rw [run_bytes_of_string w 9 24 5 ⟨s.toArray⟩ Tryz.underlying9 Tryz.underlying24 Tryz.underlying5, hz], ?_, ?_, grownCap_ge _ _ _ _, by have := grownCap_le_maxLen w s.length 0 5 (by unfold maxLen; omega); unfold maxLen at this; omega⟩
  · refine ⟨by simp, fun i hi => ?_⟩
    have hg : (w.drew.alloc (.cells (bytesRow ⟨s.toArray⟩ (grownCap w s.length 0 5)) 5 ((bytesRow ⟨s.toArray⟩ (grownCap w s.length 0 5)).size, (bytesRow ⟨s.toArray⟩ (grownCap w s.length 0 5)).size + 1))).heap[w.heap.size]? = some (.cells (bytesRow ⟨s.toArray⟩ (grownCap w s.length 0 5)) 5 ((bytesRow ⟨s.toArray⟩ (grownCap w s.length 0 5)).size, (bytesRow ⟨s.toArray⟩ (grownCap w s.length 0 5)).size + 1)) := by
      show (w.heap.push _)[w.heap.size]? = _
      simp
    have hcell : (bytesRow ⟨s.toArray⟩ (grownCap w s.length 0 5))[i]? = some (bv s[i]) := by
      rw [bytesRow_at ⟨s.toArray⟩ _ i (by simpa using hi)]
      simp [bv]
    refine ⟨by rw [cell_of_row _ _ _ _ _ _ hg, hcell], ?_⟩
    have hlt : i < (bytesRow ⟨s.toArray⟩ (grownCap w s.length 0 5)).size := (Array.getElem?_eq_some_iff.1 hcell).1
    simp only [World.frozen?, hg]
    simp; omega
  · exact ((Below.refl _ _).drew).alloc (by simp) _

theorem SmAt.str {w : World} {g : Nat} {l : List UInt8} {cap : Nat} (h : SmAt w g l) : (convert 24 9 (.slice (some ⟨g, 0, none⟩) l.length cap)).run Tryz.prog w = .ok (qv l) w :=
  run_convert_bytes_back w 24 9 5 ⟨g, 0, none⟩ cap l Tryz.underlying24 Tryz.underlying5 Tryz.underlying9 (fun j hj => by rw [addr_add, Nat.zero_add]; exact (h.2 j hj).1)

/-- The first k letters are small. -/
theorem small_next {s : List UInt8} {k : Nat} {c : UInt8} (h : s[k]? = some c) : ((s.take k).map qSm ++ s.drop k).set k (qSm c) = (s.take (k + 1)).map qSm ++ s.drop (k + 1) := by
  obtain ⟨h1, h2⟩ := List.getElem?_eq_some_iff.1 h
  rw [drop_cons h, List.take_add_one, h]
  have hl : ((s.take k).map qSm).length = k := by simp; omega
  rw [List.set_append_right _ _ (by rw [hl]; exact Nat.le_refl _), hl, Nat.sub_self]
  simp
theorem small_same {s : List UInt8} {k : Nat} {c : UInt8} (h : s[k]? = some c) (hc : qSm c = c) : (s.take k).map qSm ++ s.drop k = (s.take (k + 1)).map qSm ++ s.drop (k + 1) := by
  rw [drop_cons h, List.take_add_one, h]
  simp [hc]
theorem small_at {s : List UInt8} {k : Nat} {c : UInt8} (h : s[k]? = some c) : ((s.take k).map qSm ++ s.drop k)[k]? = some c := by
  obtain ⟨h1, h2⟩ := List.getElem?_eq_some_iff.1 h
  have hl : ((s.take k).map qSm).length = k := by simp; omega
  rw [List.getElem?_append_right (by omega), hl, Nat.sub_self, drop_cons h]
  rfl
theorem small_len {s : List UInt8} {k : Nat} (h : k ≤ s.length) : ((s.take k).map qSm ++ s.drop k).length = s.length := by simp; omega
theorem qSm_cap {c : UInt8} (h : capB c = true) : qSm c = c + 32 ∧ (qSm c).toNat = c.toNat + 32 ∧ 65 ≤ c.toNat ∧ c.toNat ≤ 90 := by
  unfold capB at h
  simp at h
  have : (c + 32).toNat = c.toNat + 32 := by rw [UInt8.toNat_add]; have : (32 : UInt8).toNat = 32 := rfl; omega
  have hc : capB c = true := by unfold capB; simp; omega
  unfold qSm
  rw [if_pos hc]
  exact ⟨rfl, this, by omega, by omega⟩
theorem qSm_not {c : UInt8} (h : capB c = false) : qSm c = c := by unfold qSm; rw [if_neg (by simp [h])]

set_option maxHeartbeats 4000000 in
theorem small_any' (s : List UInt8) (w : World) (hs : s.length ≤ 9223372036854770000) : Calls Tryz.prog 20 #[qv s] w fun e w' => e = .returned (qv (qSmall s)) ∧ Below w.heap.size w w' := by
  obtain ⟨cap, w1, hcv, sm, b1, hc1, hc2⟩ := conv_small w s (by omega)
  have HB1 := hide b1
  have HS1 := hide sm
  obtain ⟨g, hg⟩ : ∃ g, g = w.heap.size := ⟨_, rfl⟩
  have HG := hide hg
  rw [← hg] at hcv HS1
  clear b1 sm hg
  go_enter Tryz.func20, Tryz.ntmps20
  go_wp2_with fail
  clear hcv
  go_loopw [4, 5, 10] (fun _ _ i wr => ∃ k : Nat, k ≤ s.length ∧ i = .int .i64 k ∧ Hid (SmAt wr g ((s.take k).map qSm ++ s.drop k)) ∧ Hid (Below w.heap.size w wr)) (fun _ _ i _ => s.length - (intOf i).toNat)
  case atStart => exact ⟨0, by omega, rfl, HS1, HB1⟩
  case round =>
    obtain ⟨k, hk, rfl, HS, HB⟩ := hrel
    by_cases hlt : k < s.length
    · obtain ⟨d, hd⟩ : ∃ d, s[k]? = some d := ⟨_, List.getElem?_eq_getElem hlt⟩
      have HD := hide hd
      obtain ⟨c0, f0⟩ := (unhide HS).at (small_at hd)
      cases hp : capB d with
      | true =>
        have HP := hide hp
        obtain ⟨q1, q2, q3, q4⟩ := qSm_cap hp
        have h1 := (unhide HS).set (k := k) (by rw [small_len (by omega)]; exact hlt) (qSm d)
        rw [small_next hd] at h1
        have HS2 := hide h1
        have HB2 := hide ((unhide HB).setCell (p := ⟨g, k, none⟩) (by show _ ≤ g; rw [unhide HG]; exact Nat.le_refl _) (bv (qSm d)))
        have hw1 : IntKind.u8.wrap (IntKind.u8.wrap ((d.toNat : Int) - 65) + 97) = ((qSm d).toNat : Int) := by simp [IntKind.wrap, IntKind.signed, IntKind.bits]; omega
        have hw2 : IntKind.u8.wrap ((d.toNat : Int) - 65 + 97) = ((qSm d).toNat : Int) := by simp [IntKind.wrap, IntKind.signed, IntKind.bits]; omega
        have hw3 : IntKind.u8.wrap ((d.toNat : Int) - 65) = (d.toNat : Int) - 65 := by simp [IntKind.wrap, IntKind.signed, IntKind.bits]; omega
        clear hp hd h1 q1 q2 q3 q4
        go_wp2_with (go_at_call 33; refine (isCapital_any d _).mono ?_; rintro e w' ⟨rfl, rfl⟩; rw [unhide HP])
        go_roundw
        case rel => exact ⟨k + 1, by omega, by go_num, HS2, HB2⟩
        case measure => simp [intOf]; omega
      | false =>
        have HP := hide hp
        have HS2 : Hid (SmAt wr g ((s.take (k + 1)).map qSm ++ s.drop (k + 1))) := hide (by rw [← small_same hd (qSm_not hp)]; exact unhide HS)
        clear hp hd
        go_wp2_with (go_at_call 33; refine (isCapital_any d _).mono ?_; rintro e w' ⟨rfl, rfl⟩; rw [unhide HP])
        go_roundw
        case rel => exact ⟨k + 1, by omega, by go_num, HS2, HB⟩
        case measure => simp [intOf]; omega
    · have h1 : SmAt wr g (qSmall s) := by have := unhide HS; rwa [List.take_of_length_le (by omega), List.drop_of_length_le (by omega), List.append_nil] at this
      have hc := h1.str (cap := cap)
      rw [show (qSmall s).length = s.length by simp [qSmall]] at hc
      clear h1
      go_wp2_with fail
      go_ret
      exact ⟨rfl, unhide HB⟩
end Go.Proofs.YtankbanonbmffabGreatDoor
