/-
  DERIVED. The document's value.
-/
import Derived.Test.YtkgepklmhdjjnaaGreatDoorShRn
import Derived.Test.YtkgepklmhdjjnaaGreatDoorShy
namespace Go.Proofs.YtkgepklmhdjjnaaGreatDoor
open Go.RowKit
set_option linter.unusedVariables false

/-- A value's text under a name, as the document reads it. -/
def valN (nm v : List UInt8) : Option Fld := (readV v).map (fun f => ⟨nm, f.text, f.n, f.s⟩)

set_option maxHeartbeats 2000000 in
theorem rval_txt (nm r : List UInt8) (w : World) (hr : r.length ≤ 140737488355327) (t : List UInt8) (ok b : Bool) (hu : unA (unesc r) = .tuple #[sv t, .bool ok]) (hb : b = (ok && decide ((t.length : Int) ≤ 200))) :
    Calls Tryz.prog 42 #[sv nm, sv (39 :: r)] w fun e w' => e = .returned (.tuple #[.agg (fv ⟨nm, true, 0, t⟩), .bool b]) ∧ Below w.heap.size w w' := by
  have HU : Hid (∀ W, Calls Tryz.prog 14 #[sv r] W fun e w' => e = .returned (.tuple #[sv t, .bool ok]) ∧ Below W.heap.size W w') := hide (fun W => by have := rUnescaped_any r W (by omega); rw [hu] at this; exact this)
  obtain ⟨v, hv⟩ : ∃ v, v = 39 :: r := ⟨_, rfl⟩
  have hB := byte_at (s := v) (k := 0) (c := 39) (by rw [hv]; rfl)
  have hvl : v.length = r.length + 1 := by rw [hv]; simp
  have HX : Hid ((⟨v.toArray⟩ : ByteArray).extract 1 v.length = ⟨r.toArray⟩) := hide (by rw [ext_drop, hv]; simp)
  rw [← hv]
  clear hu hv
  have hp1 : (0 : Int) < v.length := by omega
  have hp2 : 0 < v.length := by omega
  have hp3 : (1 : Int) ≤ v.length := by omega
  have HBb := hide hb
  clear hvl hb
  go_enter Tryz.func42, Tryz.ntmps42
  go_upto_region 1 with fail
  have hb1 : Below w.heap.size w (w.alloc (.cells (fv fld0) 33)) := (Below.refl _ _).alloc (Nat.le_refl _) _
  have hf1 := FBox.new w fld0
  obtain ⟨w1, hw1⟩ : ∃ w1, w1 = w.alloc (.cells (fv fld0) 33) := ⟨_, rfl⟩
  rw [← hw1] at hb1 hf1
  rw [show w.alloc (.cells #[Value.string ⟨#[]⟩, .bool false, .int .i64 0, Value.string ⟨#[]⟩] 33) = w1 from hw1.symm]
  have HB1 := hide hb1
  have HF1 := hide hf1
  clear hw1 hb1 hf1
  go_upto_region 3 with (go_at_call 14; rw [unhide HX]; refine (unhide HU _).mono ?_; rintro e w2 ⟨rfl, b2⟩; have HB2 := hide ((unhide HB1).trans (b2.mono (unhide HB1).size)); have HF2 := hide ((unhide HF1).below b2 (Nat.le_refl _)); clear b2)
  obtain ⟨c0, c1, c2, c3, cf⟩ := (unhide HF2).cells
  have HE := hide ((unhide HF2).put nm true 0 t)
  have BE := hide (below_put (unhide HB2) (Nat.le_refl _) nm true 0 t)
  cases ok with
  | false =>
    go_wp2
    rw [unhide HBb]
    exact bodyPost_ret (results_ct rfl _ _ w.heap.size 33 (fv ⟨nm, true, 0, t⟩) (0, 0) _ (.bool false) rfl rfl (unhide HE) Tryz.underlying33 rfl sizeField) rfl ⟨rfl, unhide BE⟩
  | true =>
    go_wp2
    rw [unhide HBb]
    exact bodyPost_ret (results_ct rfl _ _ w.heap.size 33 (fv ⟨nm, true, 0, t⟩) (0, 0) _ (.bool (decide ((t.length : Int) ≤ 200))) rfl rfl (unhide HE) Tryz.underlying33 rfl sizeField) rfl ⟨rfl, unhide BE⟩

set_option maxHeartbeats 2000000 in
theorem rval_num (nm v : List UInt8) (w : World) (hl : v.length ≤ 140737488355328) (hp : ∀ r, v ≠ 39 :: r) :
    Calls Tryz.prog 42 #[sv nm, sv v] w fun e w' => e = .returned (.tuple #[.agg (fv ⟨nm, false, (refNum v).getD 0, []⟩), .bool (refNum v).isSome]) ∧ Below w.heap.size w w' := by
  have HU : Hid (∀ W, Calls Tryz.prog 89 #[sv v] W fun e w' => e = .returned (.tuple #[.int .i64 ((refNum v).getD 0), .bool (refNum v).isSome]) ∧ W = w') := hide (fun W => rNumber_any v W hl)
  obtain ⟨z, hz⟩ : ∃ z, z = (refNum v).getD 0 := ⟨_, rfl⟩
  obtain ⟨k, hk⟩ : ∃ k, k = (refNum v).isSome := ⟨_, rfl⟩
  rw [← hz, ← hk] at HU ⊢
  clear hz hk
  have hcase : (v.length = 0 ∧ v = []) ∨ ∃ c, v[0]? = some c ∧ ((c.toNat : Int) == 39) = false ∧ 0 < v.length := by
    rcases v with _ | ⟨c, r⟩
    · exact .inl ⟨rfl, rfl⟩
    · refine .inr ⟨c, rfl, ?_, by simp⟩
      rw [beq_eq_false_iff_ne]
      intro e
      exact hp r (by rw [show c = 39 from UInt8.toNat_inj.1 (by show c.toNat = 39; omega)])
  clear hp
  rcases hcase with ⟨_, rfl⟩ | ⟨c, hc, h39, hpos⟩
  · go_enter Tryz.func42, Tryz.ntmps42
    go_upto_region 1 with fail
    have hb1 : Below w.heap.size w (w.alloc (.cells (fv fld0) 33)) := (Below.refl _ _).alloc (Nat.le_refl _) _
    have hf1 := FBox.new w fld0
    obtain ⟨w1, hw1⟩ : ∃ w1, w1 = w.alloc (.cells (fv fld0) 33) := ⟨_, rfl⟩
    rw [← hw1] at hb1 hf1
    rw [show w.alloc (.cells #[Value.string ⟨#[]⟩, .bool false, .int .i64 0, Value.string ⟨#[]⟩] 33) = w1 from hw1.symm]
    have HB1 := hide hb1
    have HF1 := hide hf1
    clear hw1 hb1 hf1
    go_upto_region 5 with (go_at_call 89; refine (unhide HU _).mono ?_; rintro e w2 ⟨rfl, rfl⟩)
    obtain ⟨c0, c1, c2, c3, cf⟩ := (unhide HF1).cells
    have HE := hide ((unhide HF1).put nm false z [])
    have BE := hide (below_put (unhide HB1) (Nat.le_refl _) nm false z [])
    go_wp2
    exact bodyPost_ret (results_ct rfl _ _ w.heap.size 33 (fv ⟨nm, false, z, []⟩) (0, 0) _ (.bool k) rfl rfl (unhide HE) Tryz.underlying33 rfl sizeField) rfl ⟨rfl, unhide BE⟩
  · have hB := byte_at hc
    have hp1 : (0 : Int) < v.length := by omega
    clear hc
    go_enter Tryz.func42, Tryz.ntmps42
    go_upto_region 1 with fail
    have hb1 : Below w.heap.size w (w.alloc (.cells (fv fld0) 33)) := (Below.refl _ _).alloc (Nat.le_refl _) _
    have hf1 := FBox.new w fld0
    obtain ⟨w1, hw1⟩ : ∃ w1, w1 = w.alloc (.cells (fv fld0) 33) := ⟨_, rfl⟩
    rw [← hw1] at hb1 hf1
    rw [show w.alloc (.cells #[Value.string ⟨#[]⟩, .bool false, .int .i64 0, Value.string ⟨#[]⟩] 33) = w1 from hw1.symm]
    have HB1 := hide hb1
    have HF1 := hide hf1
    clear hw1 hb1 hf1
    go_upto_region 5 with (go_at_call 89; refine (unhide HU _).mono ?_; rintro e w2 ⟨rfl, rfl⟩)
    obtain ⟨c0, c1, c2, c3, cf⟩ := (unhide HF1).cells
    have HE := hide ((unhide HF1).put nm false z [])
    have BE := hide (below_put (unhide HB1) (Nat.le_refl _) nm false z [])
    go_wp2
    exact bodyPost_ret (results_ct rfl _ _ w.heap.size 33 (fv ⟨nm, false, z, []⟩) (0, 0) _ (.bool k) rfl rfl (unhide HE) Tryz.underlying33 rfl sizeField) rfl ⟨rfl, unhide BE⟩

/-- What the document's value hands out: a field, and whether it is one. -/
def RnPost (w : World) (o : Option Fld) (e : Ending) (w' : World) : Prop :=
  ∃ f : Fld, e = .returned (.tuple #[.agg (fv f), .bool o.isSome]) ∧ (∀ g, o = some g → f = g) ∧ Below w.heap.size w w'

theorem rvalue_any (nm v : List UInt8) (w : World) (hl : v.length ≤ 140737488355328) : Calls Tryz.prog 42 #[sv nm, sv v] w (RnPost w (valN nm v)) := by
  by_cases hq : ∃ r, v = 39 :: r
  · obtain ⟨r, rfl⟩ := hq
    have hrl : r.length ≤ 140737488355327 := by simp at hl; omega
    have hv : valN nm (39 :: r) = (readTxt r).map (fun s => ⟨nm, true, 0, s⟩) := by
      unfold valN
      rw [show readV (39 :: r) = (readTxt r).map (fun s => ⟨[], true, 0, s⟩) from rfl]
      cases readTxt r <;> rfl
    cases hu : unesc r with
    | none =>
      refine (rval_txt nm r w hrl [] false false (by rw [hu]; rfl) rfl).mono ?_
      rintro e w' ⟨rfl, b⟩
      refine ⟨⟨nm, true, 0, []⟩, ?_, fun g hg => ?_, b⟩
      · rw [hv]; unfold readTxt; rw [hu]; rfl
      · rw [hv] at hg; unfold readTxt at hg; rw [hu] at hg; cases hg
    | some t =>
      refine (rval_txt nm r w hrl t true (decide (t.length ≤ 200)) (by rw [hu]; rfl) (by simp; omega)).mono ?_
      rintro e w' ⟨rfl, b⟩
      refine ⟨⟨nm, true, 0, t⟩, ?_, fun g hg => ?_, b⟩
      · rw [hv]; unfold readTxt; rw [hu]; simp only
        by_cases h2 : t.length ≤ 200
        · rw [if_pos h2, decide_eq_true h2]; rfl
        · rw [if_neg h2, decide_eq_false h2]; rfl
      · rw [hv] at hg; unfold readTxt at hg; rw [hu] at hg; simp only at hg
        by_cases h2 : t.length ≤ 200
        · rw [if_pos h2] at hg; exact Option.some.inj hg
        · rw [if_neg h2] at hg; cases hg
  · have hp : ∀ r, v ≠ 39 :: r := fun r e => hq ⟨r, e⟩
    have hv : valN nm v = (refNum v).map (fun n => ⟨nm, false, n, []⟩) := by
      rw [refNum_eq]
      rcases v with _ | ⟨c, r⟩
      · have : readNum [] = none := by
          cases h : readNum [] with
          | none => rfl
          | some n => exact absurd ((readNum_iff [] n).1 h).2.2 (itoa_ne n)
        rw [this]; rfl
      · unfold valN
        rw [show readV (c :: r) = (readNum (c :: r)).map (fun n => ⟨[], false, n, []⟩) by show (if c = 39 then _ else _) = _; rw [if_neg (fun e => hp r (by rw [e]))]]
        cases readNum (c :: r) <;> rfl
    refine (rval_num nm v w hl hp).mono ?_
    rintro e w' ⟨rfl, b⟩
    refine ⟨⟨nm, false, (refNum v).getD 0, []⟩, ?_, fun g hg => ?_, b⟩
    · rw [hv]; cases refNum v <;> rfl
    · rw [hv] at hg
      cases hn : refNum v with
      | none => rw [hn] at hg; cases hg
      | some n => rw [hn] at hg; exact Option.some.inj hg
end Go.Proofs.YtkgepklmhdjjnaaGreatDoor
