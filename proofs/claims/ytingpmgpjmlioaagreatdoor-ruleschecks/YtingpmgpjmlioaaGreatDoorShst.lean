/-
  DERIVED. The walks of Set and Drop.
-/
import Derived.Test.YtingpmgpjmlioaaGreatDoorShco
namespace Go.Proofs.YtingpmgpjmlioaaGreatDoor
open Go.RowKit Go.Maps
set_option linter.unusedVariables false

/-- What stands behind the field of a name. -/
def behF (r : List Fld) (nm : List UInt8) : Nat := atF r nm + (if hasF r nm then 1 else 0)
def setF (r : List Fld) (f : Fld) : List Fld := r.take (atF r f.name) ++ [f] ++ r.drop (behF r f.name)
def dropF (r : List Fld) (nm : List UInt8) : List Fld := r.take (atF r nm) ++ r.drop (behF r nm)

theorem atF_le (r : List Fld) (nm : List UInt8) : atF r nm ≤ behF r nm ∧ behF r nm ≤ r.length := by
  unfold behF
  cases h : hasF r nm with
  | true => have := (at_get h).1; simp; omega
  | false =>
    refine ⟨by simp, ?_⟩
    have h1 : r.findIdx? (fun f => f.name == nm) = none := by
      unfold hasF at h
      rw [List.any_eq_false] at h
      rw [List.findIdx?_eq_none_iff]; intro f hf; simpa using h f hf
    unfold atF
    rw [h1]
    simp
    exact List.findIdx_le_length

theorem plV_eq (r : List Fld) (nm : List UInt8) : plV r nm = .tuple #[.int .i64 (atF r nm : Nat), .int .i64 (behF r nm : Nat)] := rfl

/-- The first fields of a slice. -/
theorem FdN.take {w : World} {a : Option Addr} {c : Nat} {fs : List Fld} (h : FdN w a c fs) (q : Nat) (hq : q ≤ fs.length) : FdN w a c (fs.take q) := by
  obtain ⟨⟨ao, cap, e, h1, h2, h4⟩, hn⟩ := h
  cases e
  have hl : (fs.take q).length = q := by simp; omega
  refine ⟨⟨a, c, by rw [hl], by rw [hl]; omega, h2, fun hz => ?_⟩, hn⟩
  rw [hl] at hz
  obtain ⟨b, off, e, hlt, hc⟩ := h4 (by omega)
  refine ⟨b, off, e, hlt, fun i hi => ?_⟩
  rw [hl] at hi
  have := hc i (by omega)
  simpa using this
/-- The other ones. -/
theorem FdN.drop {w : World} {b off : Nat} {c : Nat} {fs : List Fld} (h : FdN w (some ⟨b, off, none⟩) c fs) (q : Nat) (hq : q ≤ fs.length) : FdN w (some ⟨b, off + q * 4, none⟩) (c - q) (fs.drop q) := by
  obtain ⟨⟨ao, cap, e, h1, h2, h4⟩, hn⟩ := h
  cases e
  have hl : (fs.drop q).length = fs.length - q := by simp
  refine ⟨⟨_, _, by rw [hl], by rw [hl]; omega, by omega, fun hz => ?_⟩, fun _ => ⟨_, _, rfl⟩⟩
  rw [hl] at hz
  obtain ⟨b', off', e, hlt, hc⟩ := h4 (by omega)
  cases e
  refine ⟨b, off + q * 4, rfl, hlt, fun i hi => ?_⟩
  rw [hl] at hi
  have := hc (q + i) (by omega)
  have e0 : off + q * 4 + i * 4 = off + (q + i) * 4 := by omega
  rw [e0]
  simpa using this
theorem FdN.empty {w : World} {a : Option Addr} {c : Nat} (hn : c ≠ 0 → ∃ b off, a = some ⟨b, off, none⟩) (hc : c ≤ 9223372036854775807) : FdN w a c [] :=
  ⟨⟨a, c, rfl, by simp, hc, fun h => by simp at h⟩, hn⟩

theorem cell_row3 (w : World) (x y z : Value) (t : TypeId) (i : Nat) : (w.alloc (.cells #[x, y, z] t)).cell? ⟨w.heap.size, i, none⟩ = #[x, y, z][i]? := by
  rw [cell_of_row _ _ _ _ _ _ (heap_alloc_new _ _)]

/-- Three parts in a row of their own, the one in the middle a field just made. -/
theorem concat3 (w2 : World) (a1 : Option Addr) (n1 c1 : Nat) (L1 : List Fld) (f : Fld) (a3 : Option Addr) (n3 c3 : Nat) (L3 : List Fld) (e1 : n1 = L1.length) (e3 : n3 = L3.length) (h1 : FdN w2 a1 c1 L1) (h3 : FdN w2 a3 c3 L3) (hs : (L1.length + 1 + L3.length) * 48 ≤ 140737488355328) :
    Calls Tryz.prog 75 #[.slice (some ⟨w2.heap.size + 1, 0, none⟩) 3 3] ((w2.alloc (.cells (fv f) 48)).alloc (.cells #[.slice a1 n1 c1, .slice (some ⟨w2.heap.size, 0, none⟩) 1 1, .slice a3 n3 c3] 30)).drew fun e w' => ∃ v, e = .returned v ∧ FOwn w' w2.heap.size v (L1 ++ [f] ++ L3) ∧ Below w2.heap.size w2 w' := by
  obtain ⟨W1, hW1⟩ : ∃ W1, W1 = w2.alloc (.cells (fv f) 48) := ⟨_, rfl⟩
  have b1 : Below w2.heap.size w2 W1 := by rw [hW1]; exact (Below.refl _ _).alloc (Nat.le_refl _) _
  have fb : FBox W1 w2.heap.size f := by rw [hW1]; exact FBox.new w2 f
  have hz1 : W1.heap.size = w2.heap.size + 1 := by rw [hW1]; simp
  rw [← hW1, ← hz1]
  obtain ⟨W2, hW2⟩ : ∃ W2, W2 = (W1.alloc (.cells #[.slice a1 n1 c1, .slice (some ⟨w2.heap.size, 0, none⟩) 1 1, .slice a3 n3 c3] 30)).drew := ⟨_, rfl⟩
  have b2 : Below W1.heap.size W1 W2 := by rw [hW2]; exact ((Below.refl _ _).alloc (Nat.le_refl _) _).drew
  have hrow : W2.heap[W1.heap.size]? = some (.cells #[.slice a1 n1 c1, .slice (some ⟨w2.heap.size, 0, none⟩) 1 1, .slice a3 n3 c3] 30 (0, 0)) := by rw [hW2]; exact heap_alloc_new _ _
  rw [← hW2]
  have b02 : Below w2.heap.size w2 W2 := b1.trans (b2.mono b1.size)
  have fm : FdN W2 (some ⟨w2.heap.size, 0, none⟩) 1 [f] := by
    have fb2 := fb.below b2 (Nat.le_refl _)
    obtain ⟨x0, x1, x2, x3, _⟩ := fb2.cells
    refine ⟨⟨_, _, rfl, by simp, by omega, fun _ => ⟨w2.heap.size, 0, rfl, fb2.lt, fun i hi => ?_⟩⟩, fun _ => ⟨_, _, rfl⟩⟩
    have : i = 0 := by simp at hi; omega
    subst this
    exact ⟨by simpa using x0, by simpa using x1, by simpa using x2, by simpa using x3⟩
  have hr : ∀ i, W2.cell? ⟨W1.heap.size, i, none⟩ = #[Value.slice a1 n1 c1, .slice (some ⟨w2.heap.size, 0, none⟩) 1 1, .slice a3 n3 c3][i]? := fun i => cell_of_row _ _ _ _ _ _ hrow
  refine (Concat_go W1.heap.size 3 [(a1, c1, L1), (some ⟨w2.heap.size, 0, none⟩, 1, [f]), (a3, c3, L3)] W2 rfl (by omega) (lt_of_block hrow) ?_ (by simpa [sumP, Nat.add_assoc] using hs)).mono ?_
  · intro i p hp
    rw [hr i]
    rcases i with _ | _ | _ | i
    · simp at hp; subst hp; exact ⟨by simp [e1], h1.below b02 (Nat.le_refl _)⟩
    · simp at hp; subst hp; exact ⟨by simp, fm⟩
    · simp at hp; subst hp; exact ⟨by simp [e3], h3.below b02 (Nat.le_refl _)⟩
    · simp at hp
  · rintro e w' ⟨v, rfl, own, hb⟩
    refine ⟨v, rfl, (by have := own.mono b02.size; simpa [flatP] using this), b02.trans (hb.mono b02.size)⟩
/-- Two parts. -/
theorem concat2 (w2 : World) (a1 : Option Addr) (n1 c1 : Nat) (L1 : List Fld) (a3 : Option Addr) (n3 c3 : Nat) (L3 : List Fld) (e1 : n1 = L1.length) (e3 : n3 = L3.length) (h1 : FdN w2 a1 c1 L1) (h3 : FdN w2 a3 c3 L3) (hs : (L1.length + L3.length) * 48 ≤ 140737488355328) :
    Calls Tryz.prog 75 #[.slice (some ⟨w2.heap.size, 0, none⟩) 2 2] (w2.alloc (.cells #[.slice a1 n1 c1, .slice a3 n3 c3] 30)).drew fun e w' => ∃ v, e = .returned v ∧ FOwn w' w2.heap.size v (L1 ++ L3) ∧ Below w2.heap.size w2 w' := by
  obtain ⟨W2, hW2⟩ : ∃ W2, W2 = (w2.alloc (.cells #[.slice a1 n1 c1, .slice a3 n3 c3] 30)).drew := ⟨_, rfl⟩
  have b02 : Below w2.heap.size w2 W2 := by rw [hW2]; exact ((Below.refl _ _).alloc (Nat.le_refl _) _).drew
  have hrow : W2.heap[w2.heap.size]? = some (.cells #[.slice a1 n1 c1, .slice a3 n3 c3] 30 (0, 0)) := by rw [hW2]; exact heap_alloc_new _ _
  rw [← hW2]
  have hr : ∀ i, W2.cell? ⟨w2.heap.size, i, none⟩ = #[Value.slice a1 n1 c1, .slice a3 n3 c3][i]? := fun i => cell_of_row _ _ _ _ _ _ hrow
  refine (Concat_go w2.heap.size 2 [(a1, c1, L1), (a3, c3, L3)] W2 rfl (by omega) (lt_of_block hrow) ?_ (by simpa [sumP] using hs)).mono ?_
  · intro i p hp
    rw [hr i]
    rcases i with _ | _ | i
    · simp at hp; subst hp; exact ⟨by simp [e1], h1.below b02 (Nat.le_refl _)⟩
    · simp at hp; subst hp; exact ⟨by simp [e3], h3.below b02 (Nat.le_refl _)⟩
    · simp at hp
  · rintro e w' ⟨v, rfl, own, hb⟩
    refine ⟨v, rfl, (by have := own.mono b02.size; simpa [flatP] using this), b02.trans (hb.mono b02.size)⟩

set_option maxHeartbeats 4000000 in
theorem Set_mid (b off : Nat) (c : Nat) (fs : List Fld) (f : Fld) (w : World) (hv : FdN w (some ⟨b, off, none⟩) c fs) (hlen : (fs.length + 1) * 48 ≤ 140737488355328) (hcp : c ≠ behF fs f.name) :
    Calls Tryz.prog 30 #[.slice (some ⟨b, off, none⟩) fs.length c, .agg (fv f)] w fun e w' => ∃ v, e = .returned v ∧ FOwn w' w.heap.size v (setF fs f) ∧ Below w.heap.size w w' := by
  obtain ⟨fn, ft, fi, fss⟩ := f
  simp only at hcp
  obtain ⟨hq1, hq2⟩ := atF_le fs fn
  have HPl : Hid (∀ W, Below w.heap.size w W → Calls Tryz.prog 74 #[.slice (some ⟨b, off, none⟩) fs.length c, sv fn] W fun e w' => e = .returned (.tuple #[.int .i64 (atF fs fn : Nat), .int .i64 (behF fs fn : Nat)]) ∧ Below W.heap.size W w') := hide (fun W hW => place_any _ _ _ fs fn W (hv.1.below hW (Nat.le_refl _)))
  have HSet : Hid (setF fs ⟨fn, ft, fi, fss⟩ = fs.take (atF fs fn) ++ [⟨fn, ft, fi, fss⟩] ++ fs.drop (behF fs fn)) := hide rfl
  obtain ⟨q, hq⟩ : ∃ q, q = atF fs fn := ⟨_, rfl⟩
  obtain ⟨p, hp⟩ : ∃ p, p = behF fs fn := ⟨_, rfl⟩
  rw [← hq, ← hp] at HPl HSet hq1
  rw [← hp] at hq2 hcp
  have hc : fs.length ≤ c ∧ c ≤ 9223372036854775807 := by obtain ⟨_, _, e, h1, h2, _⟩ := hv.1; cases e; exact ⟨h1, h2⟩
  have HV := hide hv
  clear hq hp hv
  have i1 : (0 : Int) ≤ (q : Int) := by omega
  have i2 : (q : Int) ≤ (c : Int) := by omega
  have i3 : (p : Int) ≤ (fs.length : Int) := by omega
  have i4 : (0 : Int) ≤ (p : Int) := by omega
  have i5 : (fs.length : Int) ≤ (c : Int) := by omega
  have HCat : Hid (∀ W, FdN W (some ⟨b, off, none⟩) c fs → Calls Tryz.prog 75 #[.slice (some ⟨W.heap.size + 1, 0, none⟩) 3 3] ((W.alloc (.cells (fv ⟨fn, ft, fi, fss⟩) 48)).alloc (.cells #[.slice (some ⟨b, off, none⟩) q c, .slice (some ⟨W.heap.size, 0, none⟩) 1 1, .slice (some ⟨b, off + p * 4, none⟩) (fs.length - p) (c - p)] 30)).drew fun e w' => ∃ v, e = .returned v ∧ FOwn w' W.heap.size v (setF fs ⟨fn, ft, fi, fss⟩) ∧ Below W.heap.size W w') := hide (fun W hW => by
    rw [unhide HSet]
    exact concat3 W _ q c (fs.take q) ⟨fn, ft, fi, fss⟩ _ (fs.length - p) (c - p) (fs.drop p) (by simp; omega) (by simp) (hW.take q (by omega)) (hW.drop p hq2) (by simp; omega))
  go_enter Tryz.func30, Tryz.ntmps30
  go_upto_region 1 with fail
  have hb1 : Below w.heap.size w (w.alloc (.cells (fv ⟨fn, ft, fi, fss⟩) 48)) := (Below.refl _ _).alloc (Nat.le_refl _) _
  have hf1 := FBox.new w ⟨fn, ft, fi, fss⟩
  obtain ⟨w1, hw1⟩ : ∃ w1, w1 = w.alloc (.cells (fv ⟨fn, ft, fi, fss⟩) 48) := ⟨_, rfl⟩
  rw [← hw1] at hb1 hf1 ⊢
  have HB1 := hide hb1
  have HF1 := hide hf1
  obtain ⟨x0, x1, x2, x3, xf⟩ := hf1.cells
  simp only at x0 x1 x2 x3
  obtain ⟨B, hB⟩ : ∃ B, B = w.heap.size := ⟨_, rfl⟩
  rw [← hB] at x0 x1 x2 x3 xf HF1 ⊢
  clear hw1 hb1 hf1 HSet
  have HBB := hide hB
  clear hB
  go_upto_region 2 with (go_at_call 74; refine (unhide HPl _ (unhide HB1)).mono ?_; rintro e w2 ⟨rfl, b2⟩; have HB2 := hide ((unhide HB1).trans (b2.mono (unhide HB1).size)); have HF2 := hide ((unhide HF1).below b2 (Nat.le_refl _)); have HV2 := hide ((unhide HV).below (unhide HB2) (Nat.le_refl _)); clear b2)
  clear x0 x1 x2 x3 xf
  obtain ⟨x0, x1, x2, x3, xf⟩ := (unhide HF2).cells
  simp only at x0 x1 x2 x3
  go_region_law (first | (go_simp; go_at_call 75; refine (unhide HCat _ (unhide HV2)).mono ?_; rintro e w3 ⟨v, rfl, own3, b3⟩; have HO3 := hide own3; have HB3 := hide ((unhide HB2).trans (b3.mono (unhide HB2).size)); clear own3 b3))
  all_goals
    go_wp2
    go_ret
    exact ⟨v, rfl, (unhide HO3).mono (unhide HB2).size, unhide HB3⟩

set_option maxHeartbeats 4000000 in
theorem Set_end (x : Addr) (c : Nat) (fs : List Fld) (f : Fld) (w : World) (hv : FdN w (some x) c fs) (hlen : (fs.length + 1) * 48 ≤ 140737488355328) (hcp : c = behF fs f.name) :
    Calls Tryz.prog 30 #[.slice (some x) fs.length c, .agg (fv f)] w fun e w' => ∃ v, e = .returned v ∧ FOwn w' w.heap.size v (setF fs f) ∧ Below w.heap.size w w' := by
  obtain ⟨fn, ft, fi, fss⟩ := f
  simp only at hcp
  obtain ⟨hq1, hq2⟩ := atF_le fs fn
  have HPl : Hid (∀ W, Below w.heap.size w W → Calls Tryz.prog 74 #[.slice (some x) fs.length c, sv fn] W fun e w' => e = .returned (.tuple #[.int .i64 (atF fs fn : Nat), .int .i64 (behF fs fn : Nat)]) ∧ Below W.heap.size W w') := hide (fun W hW => place_any _ _ _ fs fn W (hv.1.below hW (Nat.le_refl _)))
  have HSet : Hid (setF fs ⟨fn, ft, fi, fss⟩ = fs.take (atF fs fn) ++ [⟨fn, ft, fi, fss⟩] ++ fs.drop (behF fs fn)) := hide rfl
  obtain ⟨q, hq⟩ : ∃ q, q = atF fs fn := ⟨_, rfl⟩
  obtain ⟨p, hp⟩ : ∃ p, p = behF fs fn := ⟨_, rfl⟩
  rw [← hq, ← hp] at HPl HSet hq1
  rw [← hp] at hq2 hcp
  have hc : fs.length ≤ c ∧ c ≤ 9223372036854775807 := by obtain ⟨_, _, e, h1, h2, _⟩ := hv.1; cases e; exact ⟨h1, h2⟩
  have HV := hide hv
  clear hq hp hv
  subst hcp
  have i1 : (0 : Int) ≤ (q : Int) := by omega
  have i2 : (q : Int) ≤ (c : Int) := by omega
  have i3 : (c : Int) ≤ (fs.length : Int) := by omega
  have i4 : (0 : Int) ≤ (c : Int) := by omega
  have i5 : (fs.length : Int) ≤ (c : Int) := by omega
  have HCat : Hid (∀ W, FdN W (some x) c fs → Calls Tryz.prog 75 #[.slice (some ⟨W.heap.size + 1, 0, none⟩) 3 3] ((W.alloc (.cells (fv ⟨fn, ft, fi, fss⟩) 48)).alloc (.cells #[.slice (some x) q c, .slice (some ⟨W.heap.size, 0, none⟩) 1 1, .slice (some x) 0 0] 30)).drew fun e w' => ∃ v, e = .returned v ∧ FOwn w' W.heap.size v (setF fs ⟨fn, ft, fi, fss⟩) ∧ Below W.heap.size W w') := hide (fun W hW => by
    rw [unhide HSet]
    exact concat3 W _ q c (fs.take q) ⟨fn, ft, fi, fss⟩ _ 0 0 (fs.drop c) (by simp; omega) (by simp; omega) (hW.take q (by omega)) (by rw [List.drop_of_length_le (by omega)]; exact FdN.empty (fun h => absurd (by omega) h) (by omega)) (by simp; omega))
  go_enter Tryz.func30, Tryz.ntmps30
  go_upto_region 1 with fail
  have hb1 : Below w.heap.size w (w.alloc (.cells (fv ⟨fn, ft, fi, fss⟩) 48)) := (Below.refl _ _).alloc (Nat.le_refl _) _
  have hf1 := FBox.new w ⟨fn, ft, fi, fss⟩
  obtain ⟨w1, hw1⟩ : ∃ w1, w1 = w.alloc (.cells (fv ⟨fn, ft, fi, fss⟩) 48) := ⟨_, rfl⟩
  rw [← hw1] at hb1 hf1 ⊢
  have HB1 := hide hb1
  have HF1 := hide hf1
  obtain ⟨x0, x1, x2, x3, xf⟩ := hf1.cells
  simp only at x0 x1 x2 x3
  obtain ⟨B, hB⟩ : ∃ B, B = w.heap.size := ⟨_, rfl⟩
  rw [← hB] at x0 x1 x2 x3 xf HF1 ⊢
  clear hw1 hb1 hf1 HSet
  have HBB := hide hB
  clear hB
  go_upto_region 2 with (go_at_call 74; refine (unhide HPl _ (unhide HB1)).mono ?_; rintro e w2 ⟨rfl, b2⟩; have HB2 := hide ((unhide HB1).trans (b2.mono (unhide HB1).size)); have HF2 := hide ((unhide HF1).below b2 (Nat.le_refl _)); have HV2 := hide ((unhide HV).below (unhide HB2) (Nat.le_refl _)); clear b2)
  clear x0 x1 x2 x3 xf
  obtain ⟨x0, x1, x2, x3, xf⟩ := (unhide HF2).cells
  simp only at x0 x1 x2 x3
  go_region_law (first | (go_simp; go_at_call 75; refine (unhide HCat _ (unhide HV2)).mono ?_; rintro e w3 ⟨v, rfl, own3, b3⟩; have HO3 := hide own3; have HB3 := hide ((unhide HB2).trans (b3.mono (unhide HB2).size)); clear own3 b3))
  all_goals
    go_wp2
    go_ret
    exact ⟨v, rfl, (unhide HO3).mono (unhide HB2).size, unhide HB3⟩

set_option maxHeartbeats 4000000 in
theorem Set_nil  (c : Nat) (fs : List Fld) (f : Fld) (w : World) (hv : FdN w none c fs) (hlen : (fs.length + 1) * 48 ≤ 140737488355328) (hcp : c = behF fs f.name) :
    Calls Tryz.prog 30 #[.slice none fs.length c, .agg (fv f)] w fun e w' => ∃ v, e = .returned v ∧ FOwn w' w.heap.size v (setF fs f) ∧ Below w.heap.size w w' := by
  obtain ⟨fn, ft, fi, fss⟩ := f
  simp only at hcp
  obtain ⟨hq1, hq2⟩ := atF_le fs fn
  have HPl : Hid (∀ W, Below w.heap.size w W → Calls Tryz.prog 74 #[.slice none fs.length c, sv fn] W fun e w' => e = .returned (.tuple #[.int .i64 (atF fs fn : Nat), .int .i64 (behF fs fn : Nat)]) ∧ Below W.heap.size W w') := hide (fun W hW => place_any _ _ _ fs fn W (hv.1.below hW (Nat.le_refl _)))
  have HSet : Hid (setF fs ⟨fn, ft, fi, fss⟩ = fs.take (atF fs fn) ++ [⟨fn, ft, fi, fss⟩] ++ fs.drop (behF fs fn)) := hide rfl
  obtain ⟨q, hq⟩ : ∃ q, q = atF fs fn := ⟨_, rfl⟩
  obtain ⟨p, hp⟩ : ∃ p, p = behF fs fn := ⟨_, rfl⟩
  rw [← hq, ← hp] at HPl HSet hq1
  rw [← hp] at hq2 hcp
  have hc : fs.length ≤ c ∧ c ≤ 9223372036854775807 := by obtain ⟨_, _, e, h1, h2, _⟩ := hv.1; cases e; exact ⟨h1, h2⟩
  have HV := hide hv
  clear hq hp hv
  subst hcp
  have i1 : (0 : Int) ≤ (q : Int) := by omega
  have i2 : (q : Int) ≤ (c : Int) := by omega
  have i3 : (c : Int) ≤ (fs.length : Int) := by omega
  have i4 : (0 : Int) ≤ (c : Int) := by omega
  have i5 : (fs.length : Int) ≤ (c : Int) := by omega
  have HCat : Hid (∀ W, FdN W none c fs → Calls Tryz.prog 75 #[.slice (some ⟨W.heap.size + 1, 0, none⟩) 3 3] ((W.alloc (.cells (fv ⟨fn, ft, fi, fss⟩) 48)).alloc (.cells #[.slice none q c, .slice (some ⟨W.heap.size, 0, none⟩) 1 1, .slice none 0 0] 30)).drew fun e w' => ∃ v, e = .returned v ∧ FOwn w' W.heap.size v (setF fs ⟨fn, ft, fi, fss⟩) ∧ Below W.heap.size W w') := hide (fun W hW => by
    rw [unhide HSet]
    exact concat3 W _ q c (fs.take q) ⟨fn, ft, fi, fss⟩ _ 0 0 (fs.drop c) (by simp; omega) (by simp; omega) (hW.take q (by omega)) (by rw [List.drop_of_length_le (by omega)]; exact FdN.empty (fun h => absurd (by omega) h) (by omega)) (by simp; omega))
  go_enter Tryz.func30, Tryz.ntmps30
  go_upto_region 1 with fail
  have hb1 : Below w.heap.size w (w.alloc (.cells (fv ⟨fn, ft, fi, fss⟩) 48)) := (Below.refl _ _).alloc (Nat.le_refl _) _
  have hf1 := FBox.new w ⟨fn, ft, fi, fss⟩
  obtain ⟨w1, hw1⟩ : ∃ w1, w1 = w.alloc (.cells (fv ⟨fn, ft, fi, fss⟩) 48) := ⟨_, rfl⟩
  rw [← hw1] at hb1 hf1 ⊢
  have HB1 := hide hb1
  have HF1 := hide hf1
  obtain ⟨x0, x1, x2, x3, xf⟩ := hf1.cells
  simp only at x0 x1 x2 x3
  obtain ⟨B, hB⟩ : ∃ B, B = w.heap.size := ⟨_, rfl⟩
  rw [← hB] at x0 x1 x2 x3 xf HF1 ⊢
  clear hw1 hb1 hf1 HSet
  have HBB := hide hB
  clear hB
  go_upto_region 2 with (go_at_call 74; refine (unhide HPl _ (unhide HB1)).mono ?_; rintro e w2 ⟨rfl, b2⟩; have HB2 := hide ((unhide HB1).trans (b2.mono (unhide HB1).size)); have HF2 := hide ((unhide HF1).below b2 (Nat.le_refl _)); have HV2 := hide ((unhide HV).below (unhide HB2) (Nat.le_refl _)); clear b2)
  clear x0 x1 x2 x3 xf
  obtain ⟨x0, x1, x2, x3, xf⟩ := (unhide HF2).cells
  simp only at x0 x1 x2 x3
  go_region_law (first | (go_simp; go_at_call 75; refine (unhide HCat _ (unhide HV2)).mono ?_; rintro e w3 ⟨v, rfl, own3, b3⟩; have HO3 := hide own3; have HB3 := hide ((unhide HB2).trans (b3.mono (unhide HB2).size)); clear own3 b3))
  all_goals
    go_wp2
    go_ret
    exact ⟨v, rfl, (unhide HO3).mono (unhide HB2).size, unhide HB3⟩

set_option maxHeartbeats 4000000 in
theorem Drop_mid (b off : Nat) (c : Nat) (fs : List Fld) (nm : List UInt8) (w : World) (hv : FdN w (some ⟨b, off, none⟩) c fs) (hlen : fs.length * 48 ≤ 140737488355328) (hcp : c ≠ behF fs nm) :
    Calls Tryz.prog 31 #[.slice (some ⟨b, off, none⟩) fs.length c, sv nm] w fun e w' => ∃ v, e = .returned v ∧ FOwn w' w.heap.size v (dropF fs nm) ∧ Below w.heap.size w w' := by
  obtain ⟨hq1, hq2⟩ := atF_le fs nm
  have HPl : Hid (∀ W, Below w.heap.size w W → Calls Tryz.prog 74 #[.slice (some ⟨b, off, none⟩) fs.length c, sv nm] W fun e w' => e = .returned (.tuple #[.int .i64 (atF fs nm : Nat), .int .i64 (behF fs nm : Nat)]) ∧ Below W.heap.size W w') := hide (fun W hW => place_any _ _ _ fs nm W (hv.1.below hW (Nat.le_refl _)))
  have HSet : Hid (dropF fs nm = fs.take (atF fs nm) ++ fs.drop (behF fs nm)) := hide rfl
  obtain ⟨q, hq⟩ : ∃ q, q = atF fs nm := ⟨_, rfl⟩
  obtain ⟨p, hp⟩ : ∃ p, p = behF fs nm := ⟨_, rfl⟩
  rw [← hq, ← hp] at HPl HSet hq1
  rw [← hp] at hq2 hcp
  have hc : fs.length ≤ c ∧ c ≤ 9223372036854775807 := by obtain ⟨_, _, e, h1, h2, _⟩ := hv.1; cases e; exact ⟨h1, h2⟩
  have HV := hide hv
  clear hq hp hv
  have i1 : (0 : Int) ≤ (q : Int) := by omega
  have i2 : (q : Int) ≤ (c : Int) := by omega
  have i3 : (p : Int) ≤ (fs.length : Int) := by omega
  have i4 : (0 : Int) ≤ (p : Int) := by omega
  have i5 : (fs.length : Int) ≤ (c : Int) := by omega
  have HCat : Hid (∀ W, FdN W (some ⟨b, off, none⟩) c fs → Calls Tryz.prog 75 #[.slice (some ⟨W.heap.size, 0, none⟩) 2 2] (W.alloc (.cells #[.slice (some ⟨b, off, none⟩) q c, .slice (some ⟨b, off + p * 4, none⟩) (fs.length - p) (c - p)] 30)).drew fun e w' => ∃ v, e = .returned v ∧ FOwn w' W.heap.size v (dropF fs nm) ∧ Below W.heap.size W w') := hide (fun W hW => by
    rw [unhide HSet]
    exact concat2 W _ q c (fs.take q) _ (fs.length - p) (c - p) (fs.drop p) (by simp; omega) (by simp) (hW.take q (by omega)) (hW.drop p hq2) (by simp; omega))
  go_enter Tryz.func31, Tryz.ntmps31
  clear HSet
  go_upto_region 2 with (go_at_call 74; refine (unhide HPl _ (Below.refl _ _)).mono ?_; rintro e w2 ⟨rfl, b2⟩; have HB2 := hide b2; have HV2 := hide ((unhide HV).below (unhide HB2) (Nat.le_refl _)); clear b2)
  go_region_law (first | (go_simp; go_at_call 75; refine (unhide HCat _ (unhide HV2)).mono ?_; rintro e w3 ⟨v, rfl, own3, b3⟩; have HO3 := hide own3; have HB3 := hide ((unhide HB2).trans (b3.mono (unhide HB2).size)); clear own3 b3))
  all_goals
    go_wp2
    go_ret
    exact ⟨v, rfl, (unhide HO3).mono (unhide HB2).size, unhide HB3⟩

set_option maxHeartbeats 4000000 in
theorem Drop_end (x : Addr) (c : Nat) (fs : List Fld) (nm : List UInt8) (w : World) (hv : FdN w (some x) c fs) (hlen : fs.length * 48 ≤ 140737488355328) (hcp : c = behF fs nm) :
    Calls Tryz.prog 31 #[.slice (some x) fs.length c, sv nm] w fun e w' => ∃ v, e = .returned v ∧ FOwn w' w.heap.size v (dropF fs nm) ∧ Below w.heap.size w w' := by
  obtain ⟨hq1, hq2⟩ := atF_le fs nm
  have HPl : Hid (∀ W, Below w.heap.size w W → Calls Tryz.prog 74 #[.slice (some x) fs.length c, sv nm] W fun e w' => e = .returned (.tuple #[.int .i64 (atF fs nm : Nat), .int .i64 (behF fs nm : Nat)]) ∧ Below W.heap.size W w') := hide (fun W hW => place_any _ _ _ fs nm W (hv.1.below hW (Nat.le_refl _)))
  have HSet : Hid (dropF fs nm = fs.take (atF fs nm) ++ fs.drop (behF fs nm)) := hide rfl
  obtain ⟨q, hq⟩ : ∃ q, q = atF fs nm := ⟨_, rfl⟩
  obtain ⟨p, hp⟩ : ∃ p, p = behF fs nm := ⟨_, rfl⟩
  rw [← hq, ← hp] at HPl HSet hq1
  rw [← hp] at hq2 hcp
  have hc : fs.length ≤ c ∧ c ≤ 9223372036854775807 := by obtain ⟨_, _, e, h1, h2, _⟩ := hv.1; cases e; exact ⟨h1, h2⟩
  have HV := hide hv
  clear hq hp hv
  subst hcp
  have i1 : (0 : Int) ≤ (q : Int) := by omega
  have i2 : (q : Int) ≤ (c : Int) := by omega
  have i3 : (c : Int) ≤ (fs.length : Int) := by omega
  have i4 : (0 : Int) ≤ (c : Int) := by omega
  have i5 : (fs.length : Int) ≤ (c : Int) := by omega
  have HCat : Hid (∀ W, FdN W (some x) c fs → Calls Tryz.prog 75 #[.slice (some ⟨W.heap.size, 0, none⟩) 2 2] (W.alloc (.cells #[.slice (some x) q c, .slice (some x) 0 0] 30)).drew fun e w' => ∃ v, e = .returned v ∧ FOwn w' W.heap.size v (dropF fs nm) ∧ Below W.heap.size W w') := hide (fun W hW => by
    rw [unhide HSet]
    exact concat2 W _ q c (fs.take q) _ 0 0 (fs.drop c) (by simp; omega) (by simp; omega) (hW.take q (by omega)) (by rw [List.drop_of_length_le (by omega)]; exact FdN.empty (fun h => absurd (by omega) h) (by omega)) (by simp; omega))
  go_enter Tryz.func31, Tryz.ntmps31
  clear HSet
  go_upto_region 2 with (go_at_call 74; refine (unhide HPl _ (Below.refl _ _)).mono ?_; rintro e w2 ⟨rfl, b2⟩; have HB2 := hide b2; have HV2 := hide ((unhide HV).below (unhide HB2) (Nat.le_refl _)); clear b2)
  go_region_law (first | (go_simp; go_at_call 75; refine (unhide HCat _ (unhide HV2)).mono ?_; rintro e w3 ⟨v, rfl, own3, b3⟩; have HO3 := hide own3; have HB3 := hide ((unhide HB2).trans (b3.mono (unhide HB2).size)); clear own3 b3))
  all_goals
    go_wp2
    go_ret
    exact ⟨v, rfl, (unhide HO3).mono (unhide HB2).size, unhide HB3⟩

set_option maxHeartbeats 4000000 in
theorem Drop_nil  (c : Nat) (fs : List Fld) (nm : List UInt8) (w : World) (hv : FdN w none c fs) (hlen : fs.length * 48 ≤ 140737488355328) (hcp : c = behF fs nm) :
    Calls Tryz.prog 31 #[.slice none fs.length c, sv nm] w fun e w' => ∃ v, e = .returned v ∧ FOwn w' w.heap.size v (dropF fs nm) ∧ Below w.heap.size w w' := by
  obtain ⟨hq1, hq2⟩ := atF_le fs nm
  have HPl : Hid (∀ W, Below w.heap.size w W → Calls Tryz.prog 74 #[.slice none fs.length c, sv nm] W fun e w' => e = .returned (.tuple #[.int .i64 (atF fs nm : Nat), .int .i64 (behF fs nm : Nat)]) ∧ Below W.heap.size W w') := hide (fun W hW => place_any _ _ _ fs nm W (hv.1.below hW (Nat.le_refl _)))
  have HSet : Hid (dropF fs nm = fs.take (atF fs nm) ++ fs.drop (behF fs nm)) := hide rfl
  obtain ⟨q, hq⟩ : ∃ q, q = atF fs nm := ⟨_, rfl⟩
  obtain ⟨p, hp⟩ : ∃ p, p = behF fs nm := ⟨_, rfl⟩
  rw [← hq, ← hp] at HPl HSet hq1
  rw [← hp] at hq2 hcp
  have hc : fs.length ≤ c ∧ c ≤ 9223372036854775807 := by obtain ⟨_, _, e, h1, h2, _⟩ := hv.1; cases e; exact ⟨h1, h2⟩
  have HV := hide hv
  clear hq hp hv
  subst hcp
  have i1 : (0 : Int) ≤ (q : Int) := by omega
  have i2 : (q : Int) ≤ (c : Int) := by omega
  have i3 : (c : Int) ≤ (fs.length : Int) := by omega
  have i4 : (0 : Int) ≤ (c : Int) := by omega
  have i5 : (fs.length : Int) ≤ (c : Int) := by omega
  have HCat : Hid (∀ W, FdN W none c fs → Calls Tryz.prog 75 #[.slice (some ⟨W.heap.size, 0, none⟩) 2 2] (W.alloc (.cells #[.slice none q c, .slice none 0 0] 30)).drew fun e w' => ∃ v, e = .returned v ∧ FOwn w' W.heap.size v (dropF fs nm) ∧ Below W.heap.size W w') := hide (fun W hW => by
    rw [unhide HSet]
    exact concat2 W _ q c (fs.take q) _ 0 0 (fs.drop c) (by simp; omega) (by simp; omega) (hW.take q (by omega)) (by rw [List.drop_of_length_le (by omega)]; exact FdN.empty (fun h => absurd (by omega) h) (by omega)) (by simp; omega))
  go_enter Tryz.func31, Tryz.ntmps31
  clear HSet
  go_upto_region 2 with (go_at_call 74; refine (unhide HPl _ (Below.refl _ _)).mono ?_; rintro e w2 ⟨rfl, b2⟩; have HB2 := hide b2; have HV2 := hide ((unhide HV).below (unhide HB2) (Nat.le_refl _)); clear b2)
  go_region_law (first | (go_simp; go_at_call 75; refine (unhide HCat _ (unhide HV2)).mono ?_; rintro e w3 ⟨v, rfl, own3, b3⟩; have HO3 := hide own3; have HB3 := hide ((unhide HB2).trans (b3.mono (unhide HB2).size)); clear own3 b3))
  all_goals
    go_wp2
    go_ret
    exact ⟨v, rfl, (unhide HO3).mono (unhide HB2).size, unhide HB3⟩

/-- Set of any list. -/
theorem Set_any (a : Option Addr) (c : Nat) (fs : List Fld) (f : Fld) (w : World) (hv : FdN w a c fs) (hlen : (fs.length + 1) * 48 ≤ 140737488355328) :
    Calls Tryz.prog 30 #[.slice a fs.length c, .agg (fv f)] w fun e w' => ∃ v, e = .returned v ∧ FOwn w' w.heap.size v (setF fs f) ∧ Below w.heap.size w w' := by
  by_cases hcp : c = behF fs f.name
  · cases a with
    | none => exact Set_nil c fs f w hv hlen hcp
    | some x => exact Set_end x c fs f w hv hlen hcp
  · have hc : fs.length ≤ c := by obtain ⟨_, _, e, h1, h2, _⟩ := hv.1; cases e; exact h1
    have := (atF_le fs f.name).2
    obtain ⟨b, off, rfl⟩ := hv.2 (by omega)
    exact Set_mid b off c fs f w hv hlen hcp
/-- Drop of any list. -/
theorem Drop_any (a : Option Addr) (c : Nat) (fs : List Fld) (nm : List UInt8) (w : World) (hv : FdN w a c fs) (hlen : fs.length * 48 ≤ 140737488355328) :
    Calls Tryz.prog 31 #[.slice a fs.length c, sv nm] w fun e w' => ∃ v, e = .returned v ∧ FOwn w' w.heap.size v (dropF fs nm) ∧ Below w.heap.size w w' := by
  by_cases hcp : c = behF fs nm
  · cases a with
    | none => exact Drop_nil c fs nm w hv hlen hcp
    | some x => exact Drop_end x c fs nm w hv hlen hcp
  · have hc : fs.length ≤ c := by obtain ⟨_, _, e, h1, h2, _⟩ := hv.1; cases e; exact h1
    have := (atF_le fs nm).2
    obtain ⟨b, off, rfl⟩ := hv.2 (by omega)
    exact Drop_mid b off c fs nm w hv hlen hcp
end Go.Proofs.YtingpmgpjmlioaaGreatDoor
