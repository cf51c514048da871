/-
  DERIVED. A slot of a record, as bytes and back: plain.
-/
import Derived.Test.YtbgaomfoiooegaaMath3
namespace Go.Proofs.Ytbgaomfoiooegaa

/-- A slot, as it reads. -/
structure Slot where
  laid : Bool
  turn : Nat
  count : Int
  data : List UInt8
def noSlot : Slot := ⟨false, 0, 0, []⟩

/-- What a block is, at a place. -/
def unl (place : Int) (L : List UInt8) : Slot :=
  if frE L ≠ 0 ∨ frKind L ≠ 83 then noSlot
  else if (rd (frD L)).2.2 ≠ 0 ∨ rdI (frD L) ≠ place then noSlot
  else if ((frD L).drop (rd (frD L)).2.1).length < 4 then noSlot
  else if (rd (((frD L).drop (rd (frD L)).2.1).drop 4)).2.2 ≠ 0 ∨ rdI (((frD L).drop (rd (frD L)).2.1).drop 4) < 0 ∨ 400 < (((frD L).drop (rd (frD L)).2.1).drop 4).length - (rd (((frD L).drop (rd (frD L)).2.1).drop 4)).2.1 then noSlot
  else ⟨true, rd4 ((frD L).drop (rd (frD L)).2.1), rdI (((frD L).drop (rd (frD L)).2.1).drop 4), (((frD L).drop (rd (frD L)).2.1).drop 4).drop (rd (((frD L).drop (rd (frD L)).2.1).drop 4)).2.1⟩

/-- What stands in a slot's frame. -/
def slotB (s : Slot) (place : Int) : List UInt8 := lay (zig place) ++ le4 s.turn ++ lay (zig s.count) ++ s.data
/-- A slot's block. -/
def slotL (s : Slot) (place : Int) : List UInt8 := frLay 83 (slotB s place) ++ List.replicate (512 - (frLay 83 (slotB s place)).length) 0

theorem slotB_len (s : Slot) (place : Int) : (slotB s place).length ≤ 24 + s.data.length := by
  have h1 := lay_len (zig place)
  have h2 := lay_len (zig s.count)
  have h3 : (le4 s.turn).length = 4 := rfl
  simp only [slotB, List.length_append]
  omega
theorem frLay_len (d : List UInt8) : (frLay 83 d).length ≤ 15 + d.length := by
  have h1 := lay_len d.length
  have h3 : ∀ n, (le4 n).length = 4 := fun _ => rfl
  simp only [frLay, frBody, List.length_append, List.length_cons, h3]
  omega
theorem slotL_len (s : Slot) (place : Int) (h : s.data.length ≤ 400) : (slotL s place).length = 512 := by
  have h1 := slotB_len s place
  have h2 := frLay_len (slotB s place)
  simp only [slotL, List.length_append, List.length_replicate]
  omega

theorem unl_slot (s : Slot) (place : Int) (hp0 : -9223372036854775808 ≤ place) (hp1 : place ≤ 9223372036854775807) (ht : s.turn < 4294967296) (hc0 : 0 ≤ s.count) (hc1 : s.count ≤ 9223372036854775807) (hd : s.data.length ≤ 400) : unl place (slotL s place) = { s with laid := true } := by
  have hb := slotB_len s place
  obtain ⟨f1, f2, f3, f4⟩ := fr_back 83 (slotB s place) (List.replicate (512 - (frLay 83 (slotB s place)).length) 0) (by omega)
  have e1 : frE (slotL s place) = 0 := f1
  have e2 : frKind (slotL s place) = 83 := f3
  have e3 : frD (slotL s place) = slotB s place := f4
  have r1 : rd (slotB s place) = (zig place, (lay (zig place)).length, 0) := by
    unfold slotB
    rw [List.append_assoc, List.append_assoc]
    exact rd_lay _ (zig_lt place hp0 hp1) _
  have i1 : rdI (slotB s place) = place := by unfold rdI; rw [r1]; simp [unz_zig]
  have d1 : (slotB s place).drop (lay (zig place)).length = le4 s.turn ++ lay (zig s.count) ++ s.data := by
    unfold slotB
    rw [List.append_assoc, List.append_assoc, List.drop_left, List.append_assoc]
  have d2 : (le4 s.turn ++ lay (zig s.count) ++ s.data).drop 4 = lay (zig s.count) ++ s.data := by rw [List.append_assoc]; rfl
  have r2 : rd (lay (zig s.count) ++ s.data) = (zig s.count, (lay (zig s.count)).length, 0) := rd_lay _ (zig_lt _ (by omega) hc1) _
  have i2 : rdI (lay (zig s.count) ++ s.data) = s.count := by unfold rdI; rw [r2]; simp [unz_zig]
  have t1 : rd4 (le4 s.turn ++ lay (zig s.count) ++ s.data) = s.turn := by rw [List.append_assoc]; exact rd4_le4 _ ht _
  unfold unl
  rw [e1, e2, e3, r1, i1]
  simp only
  rw [d1, d2, r2, i2, t1]
  simp only
  rw [if_neg (by simp), if_neg (by simp), if_neg (by have : (le4 s.turn).length = 4 := rfl; simp only [List.length_append]; omega), if_neg (by
    have : (lay (zig s.count) ++ s.data).length - (lay (zig s.count)).length = s.data.length := by rw [List.length_append]; omega
    rw [this]
    omega), List.drop_left]

/-- Noughts are no slot. -/
theorem unl_noughts (place : Int) : unl place (List.replicate 512 0) = noSlot := by
  unfold unl
  by_cases h : frE (List.replicate 512 0) = 0
  · have hk : frKind (List.replicate 512 0) ≠ 83 := by
      unfold frKind
      rw [if_pos h]
      decide
    rw [if_pos (.inr hk)]
  · rw [if_pos (.inl h)]
end Go.Proofs.Ytbgaomfoiooegaa
