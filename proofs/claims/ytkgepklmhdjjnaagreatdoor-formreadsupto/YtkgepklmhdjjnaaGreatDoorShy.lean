/-
  DERIVED. The walk of readField.
-/
import Derived.Test.YtkgepklmhdjjnaaGreatDoorSht
namespace Go.Proofs.YtkgepklmhdjjnaaGreatDoor
open Go.RowKit
set_option linter.unusedVariables false

/-- A value that has a name. -/
def namedF (nm : List UInt8) : Option Fld → Except Int Fld
  | none => .error 122
  | some f => .ok ⟨nm, f.text, f.n, f.s⟩
/-- What a part tells. -/
def readP (p : List UInt8) : Except Int Fld := match (cutA 61 p).2 with
  | none => .error 121
  | some v => if nameB (cutA 61 p).1 then namedF (cutA 61 p).1 (readV v) else .error 121
def errN : Except Int Fld → Int
  | .error n => n
  | .ok _ => 0
def RfPost (w : World) (o : Except Int Fld) (e : Ending) (w' : World) : Prop :=
  ∃ f : Fld, e = .returned (.tuple #[.agg (fv f), .int .i64 (errN o)]) ∧ (∀ g, o = .ok g → f = g) ∧ Below w.heap.size w w'

theorem cutA_len (c : UInt8) (s : List UInt8) : (cutA c s).1.length ≤ s.length ∧ ((cutA c s).2.getD []).length ≤ s.length := by
  induction s with
  | nil => simp [cutA]
  | cons d r ih =>
    unfold cutA
    split
    · simp
    · simp; omega

set_option maxHeartbeats 1000000 in
theorem Clone_any (s : List UInt8) (w : World) (hs : s.length ≤ 281474976710656) :
    Calls Tryz.prog 85 #[sv s] w fun e w' => e = .returned (sv s) ∧ Below w.heap.size w w' := by
  have HC := hide (Tryz.stringslite_Clone ⟨s.toArray⟩ w (by show s.toArray.size ≤ _; simp; omega))
  go_enter Tryz.func85, Tryz.ntmps85
  go_wp2_with (go_at_call 144; refine (unhide HC).mono ?_; rintro e w' ⟨rfl, b4⟩; have HB := hide b4; clear b4)
  go_ret
  exact ⟨rfl, unhide HB⟩

theorem FBox.put0 {w : World} {q : Nat} {f : Fld} (h : FBox w q f) (a : List UInt8) : FBox (w.setCell ⟨q, 0, none⟩ (sv a)) q ⟨a, f.text, f.n, f.s⟩ := by
  unfold FBox at h ⊢
  rw [heap_setCell_same w q 0 _ _ _ h]
  rfl
theorem FBox.set0 {w : World} {b : Nat} {f : Fld} (h : FBox w b f) (q : Nat) (hq : q ≠ b) (x : Value) : FBox (w.setCell ⟨q, 0, none⟩ x) b f := by
  exact h.same (heap_setCell_other _ _ _ _ (Ne.symm hq))

set_option maxHeartbeats 2000000 in
theorem rf_name (p nm v : List UInt8) (there : Bool) (w : World) (hp : p.length ≤ 9223372036854775000) (hnm : nm.length ≤ 9223372036854775807) (hc : ∀ W, Calls Tryz.prog 83 #[sv p, .string ⟨#[61]⟩] W fun e w' => e = .returned (.tuple #[sv nm, sv v, .bool there]) ∧ Below W.heap.size W w') (hbad : there = false ∨ nameB nm = false) :
    Calls Tryz.prog 38 #[sv p] w fun e w' => e = .returned (.tuple #[.agg (fv fld0), .int .i64 121]) ∧ Below w.heap.size w w' := by
  have HC := hide hc
  clear hc
  have hcase : there = false ∨ (there = true ∧ nameB nm = false) := by
    cases there with
    | false => exact .inl rfl
    | true => exact .inr ⟨rfl, hbad.resolve_left (by simp)⟩
  clear hbad
  rcases hcase with rfl | ⟨rfl, hn⟩
  · go_enter Tryz.func38, Tryz.ntmps38
    go_upto_region 1 with fail
    have hb1 : Below w.heap.size w (w.alloc (.cells (fv fld0) 33)) := (Below.refl _ _).alloc (Nat.le_refl _) _
    have hf1 := FBox.new w fld0
    obtain ⟨w1, hw1⟩ : ∃ w1, w1 = w.alloc (.cells (fv fld0) 33) := ⟨_, rfl⟩
    rw [← hw1] at hb1 hf1
    rw [show w.alloc (.cells #[Value.string ⟨#[]⟩, .bool false, .int .i64 0, Value.string ⟨#[]⟩] 33) = w1 from hw1.symm]
    have HB1 := hide hb1
    have HF1 := hide hf1
    clear hw1 hb1 hf1
    go_wp2_with (first | (go_at_call 83; refine (unhide HC _).mono ?_; rintro e w2 ⟨rfl, b2⟩; have HB2 := hide ((unhide HB1).trans (b2.mono (unhide HB1).size)); have HF2 := hide ((unhide HF1).below b2 (Nat.le_refl _)); obtain ⟨c0, c1, c2, c3, cf⟩ := (unhide HF2).cells; have HE := hide ((unhide HF2).put [] false 0 []); have BE := hide (below_put (unhide HB2) (Nat.le_refl _) [] false 0 []); clear b2))
    exact bodyPost_ret (results_ct rfl _ _ w.heap.size 33 (fv fld0) (0, 0) _ (.int .i64 121) rfl rfl (unhide HE) Tryz.underlying33 rfl sizeField) rfl ⟨rfl, unhide BE⟩
  · have HN := hide hn
    clear hn
    go_enter Tryz.func38, Tryz.ntmps38
    go_upto_region 1 with fail
    have hb1 : Below w.heap.size w (w.alloc (.cells (fv fld0) 33)) := (Below.refl _ _).alloc (Nat.le_refl _) _
    have hf1 := FBox.new w fld0
    obtain ⟨w1, hw1⟩ : ∃ w1, w1 = w.alloc (.cells (fv fld0) 33) := ⟨_, rfl⟩
    rw [← hw1] at hb1 hf1
    rw [show w.alloc (.cells #[Value.string ⟨#[]⟩, .bool false, .int .i64 0, Value.string ⟨#[]⟩] 33) = w1 from hw1.symm]
    have HB1 := hide hb1
    have HF1 := hide hf1
    clear hw1 hb1 hf1
    go_wp2_with (first | (go_at_call 83; refine (unhide HC _).mono ?_; rintro e w2 ⟨rfl, b2⟩; have HB2 := hide ((unhide HB1).trans (b2.mono (unhide HB1).size)); have HF2 := hide ((unhide HF1).below b2 (Nat.le_refl _)); obtain ⟨c0, c1, c2, c3, cf⟩ := (unhide HF2).cells; have HE := hide ((unhide HF2).put [] false 0 []); have BE := hide (below_put (unhide HB2) (Nat.le_refl _) [] false 0 []); clear b2) | (go_at_call 17; refine (Name_any nm _ hnm).mono ?_; rintro e w' ⟨rfl, rfl⟩; rw [unhide HN]))
    exact bodyPost_ret (results_ct rfl _ _ w.heap.size 33 (fv fld0) (0, 0) _ (.int .i64 121) rfl rfl (unhide HE) Tryz.underlying33 rfl sizeField) rfl ⟨rfl, unhide BE⟩

set_option maxHeartbeats 4000000 in
theorem rf_val (p nm v : List UInt8) (w : World) (hp : p.length ≤ 9223372036854775000) (hnm : nm.length ≤ 281474976710656) (hc : ∀ W, Calls Tryz.prog 83 #[sv p, .string ⟨#[61]⟩] W fun e w' => e = .returned (.tuple #[sv nm, sv v, .bool true]) ∧ Below W.heap.size W w') (hn : nameB nm = true)
    (o : Option Fld) (hv : ∀ W, Below w.heap.size w W → Calls Tryz.prog 84 #[sv v] W (RvPost W o)) :
    Calls Tryz.prog 38 #[sv p] w (RfPost w (namedF nm o)) := by
  have HC := hide hc
  have HN := hide hn
  have HVal := hide hv
  clear hc hn hv
  rcases o with _ | ⟨gn, gt, gi, gs⟩
  · go_enter Tryz.func38, Tryz.ntmps38
    go_upto_region 1 with fail
    have hb1 : Below w.heap.size w (w.alloc (.cells (fv fld0) 33)) := (Below.refl _ _).alloc (Nat.le_refl _) _
    have hf1 := FBox.new w fld0
    obtain ⟨w1, hw1⟩ : ∃ w1, w1 = w.alloc (.cells (fv fld0) 33) := ⟨_, rfl⟩
    rw [← hw1] at hb1 hf1
    rw [show w.alloc (.cells #[Value.string ⟨#[]⟩, .bool false, .int .i64 0, Value.string ⟨#[]⟩] 33) = w1 from hw1.symm]
    have HB1 := hide hb1
    have HF1 := hide hf1
    clear hw1 hb1 hf1
    go_wp2_with (first | (go_at_call 83; refine (unhide HC _).mono ?_; rintro e w2 ⟨rfl, b2⟩; have HB2 := hide ((unhide HB1).trans (b2.mono (unhide HB1).size)); have HF2 := hide ((unhide HF1).below b2 (Nat.le_refl _)); clear b2) | (go_at_call 17; refine (Name_any nm _ (by omega)).mono ?_; rintro e w' ⟨rfl, rfl⟩; rw [unhide HN]) | (go_at_call 84; refine (unhide HVal _ (unhide HB2)).mono ?_; rintro e w3 ⟨⟨an, ak, ai, az⟩, rfl, -, b3⟩; have HB3 := hide (((unhide HB2).trans (b3.mono (unhide HB2).size)).alloc (Nat.le_trans (unhide HB2).size b3.size) (.cells (fv ⟨an, ak, ai, az⟩) 33)); have HF3 := hide (((unhide HF2).below b3 (Nat.le_refl _)).below ((Below.refl _ _).alloc (Nat.le_refl _) (.cells (fv ⟨an, ak, ai, az⟩) 33)) (Nat.le_refl _)); obtain ⟨c0, c1, c2, c3, cf⟩ := (unhide HF3).cells; have HE := hide ((unhide HF3).put [] false 0 []); have BE := hide (below_put (unhide HB3) (Nat.le_refl _) [] false 0 []); clear b3))
    exact bodyPost_ret (results_ct rfl _ _ w.heap.size 33 (fv fld0) (0, 0) _ (.int .i64 122) rfl rfl (unhide HE) Tryz.underlying33 rfl sizeField) rfl ⟨fld0, rfl, (fun g hg => by cases hg), unhide BE⟩
  · go_enter Tryz.func38, Tryz.ntmps38
    go_upto_region 1 with fail
    have hb1 : Below w.heap.size w (w.alloc (.cells (fv fld0) 33)) := (Below.refl _ _).alloc (Nat.le_refl _) _
    have hf1 := FBox.new w fld0
    obtain ⟨w1, hw1⟩ : ∃ w1, w1 = w.alloc (.cells (fv fld0) 33) := ⟨_, rfl⟩
    rw [← hw1] at hb1 hf1
    rw [show w.alloc (.cells #[Value.string ⟨#[]⟩, .bool false, .int .i64 0, Value.string ⟨#[]⟩] 33) = w1 from hw1.symm]
    have HB1 := hide hb1
    have HF1 := hide hf1
    clear hw1 hb1 hf1
    go_upto_region 7 with (first | (go_at_call 83; refine (unhide HC _).mono ?_; rintro e w2 ⟨rfl, b2⟩; have HB2 := hide ((unhide HB1).trans (b2.mono (unhide HB1).size)); have HF2 := hide ((unhide HF1).below b2 (Nat.le_refl _)); clear b2) | (go_at_call 17; refine (Name_any nm _ (by omega)).mono ?_; rintro e w' ⟨rfl, rfl⟩; rw [unhide HN]) | (go_at_call 84; refine (unhide HVal _ (unhide HB2)).mono ?_; rintro e w3 ⟨f, rfl, hf, b3⟩; obtain rfl := hf _ rfl; have HB3 := hide ((unhide HB2).trans (b3.mono (unhide HB2).size)); have HF3 := hide ((unhide HF2).below b3 (Nat.le_refl _)); clear b3 hf))
    have hb4 := (unhide HB3).alloc (unhide HB3).size (.cells (fv ⟨gn, gt, gi, gs⟩) 33)
    have hf4 := (unhide HF3).below ((Below.refl _ _).alloc (Nat.le_refl _) (.cells (fv ⟨gn, gt, gi, gs⟩) 33)) (Nat.le_refl _)
    have hg4 := FBox.new w3 ⟨gn, gt, gi, gs⟩
    have hq : w.heap.size < w3.heap.size := (unhide HF3).lt
    obtain ⟨w4, hw4⟩ : ∃ w4, w4 = w3.alloc (.cells (fv ⟨gn, gt, gi, gs⟩) 33) := ⟨_, rfl⟩
    rw [← hw4] at hb4 hf4 hg4
    rw [show w3.alloc (.cells #[Value.string ⟨gn.toArray⟩, .bool gt, .int .i64 gi, Value.string ⟨gs.toArray⟩] 33) = w4 from hw4.symm]
    obtain ⟨q, hqe⟩ : ∃ q, q = w3.heap.size := ⟨_, rfl⟩
    rw [← hqe] at hg4 hq ⊢
    have HB4 := hide hb4
    have HF4 := hide hf4
    have HG4 := hide hg4
    clear hw4 hb4 hf4 hg4 hqe HB3 HF3 HVal HC HN
    go_upto_region 8 with (go_at_call 85; refine (Clone_any nm _ hnm).mono ?_; rintro e w5 ⟨rfl, b5⟩; have HB5 := hide ((unhide HB4).trans (b5.mono (unhide HB4).size)); have HF5 := hide ((unhide HF4).below b5 (Nat.le_refl _)); have HG5 := hide ((unhide HG4).below b5 (Nat.le_refl _)); obtain ⟨g0, g1, g2, g3, gf⟩ := (unhide HG5).cells; clear b5)
    have hb6 := (unhide HB5).setCell (p := ⟨q, 0, none⟩) (Nat.le_of_lt hq) (sv nm)
    have hf6 := (unhide HF5).set0 q (Nat.ne_of_gt hq) (sv nm)
    have hg6 := (unhide HG5).put0 nm
    clear g0 g1 g2 g3 gf
    obtain ⟨w6, hw6⟩ : ∃ w6, w6 = w5.setCell ⟨q, 0, none⟩ (sv nm) := ⟨_, rfl⟩
    rw [← hw6] at hb6 hf6 hg6 ⊢
    obtain ⟨d0, d1, d2, d3, df⟩ := hg6.cells
    obtain ⟨c0, c1, c2, c3, cf⟩ := hf6.cells
    simp only at d0 d1 d2 d3
    have HE := hide (hf6.put nm gt gi gs)
    have BE := hide (below_put hb6 (Nat.le_refl _) nm gt gi gs)
    clear hw6 hb6 hf6 hg6
    go_wp2
    exact bodyPost_ret (results_ct rfl _ _ w.heap.size 33 (fv ⟨nm, gt, gi, gs⟩) (0, 0) _ (.int .i64 0) rfl rfl (unhide HE) Tryz.underlying33 rfl sizeField) rfl ⟨⟨nm, gt, gi, gs⟩, rfl, (fun g hg => by cases hg; rfl), unhide BE⟩

theorem readField_any (p : List UInt8) (w : World) (hp : p.length ≤ 140737488355328) (hva : Vars w) :
    Calls Tryz.prog 38 #[sv p] w (RfPost w (readP p)) := by
  have hc := fun W => Cut_any p 61 W (by omega)
  have hl := cutA_len 61 p
  unfold readP
  obtain ⟨cp, hq⟩ : ∃ cp, cp = cutA 61 p := ⟨_, rfl⟩
  rw [← hq] at hc hl ⊢
  obtain ⟨nm, vo⟩ := cp
  clear hq
  simp only at hl ⊢
  cases vo with
  | none =>
    refine (rf_name p nm [] false w (by omega) (by omega) hc (.inl rfl)).mono ?_
    rintro e w' ⟨rfl, hb⟩
    exact ⟨fld0, rfl, (fun g hg => by cases hg), hb⟩
  | some v =>
    simp only [Option.getD_some] at hl
    cases hn : nameB nm with
    | false =>
      refine (rf_name p nm v true w (by omega) (by omega) hc (.inr hn)).mono ?_
      rintro e w' ⟨rfl, hb⟩
      exact ⟨fld0, rfl, (fun g hg => by cases hg), hb⟩
    | true =>
      exact rf_val p nm v w (by omega) (by omega) hc hn (readV v) (fun W hW => readValue_any v W (by omega) (hva.below hW (Nat.le_refl _)))
end Go.Proofs.YtkgepklmhdjjnaaGreatDoor
