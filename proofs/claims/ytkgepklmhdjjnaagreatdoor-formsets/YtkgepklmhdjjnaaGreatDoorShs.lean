/-
  DERIVED. The walk of readValue.
-/
import Derived.Test.YtkgepklmhdjjnaaGreatDoorShr
namespace Go.Proofs.YtkgepklmhdjjnaaGreatDoor
open Go.RowKit
set_option linter.unusedVariables false

/-- A number's text. -/
def readNum (v : List UInt8) : Option Int := match Lib.atoiAll v with
  | .ok n => if Lib.itoa n = v then some n else none
  | _ => none
/-- A text's text, without its quote. -/
def readTxt (r : List UInt8) : Option (List UInt8) := match unesc r with
  | some s => if s.length ≤ 200 then some s else none
  | none => none
/-- A value's text: a field without a name. -/
def readV (v : List UInt8) : Option Fld := match v with
  | [] => none
  | c :: r => if c = 39 then (readTxt r).map (fun s => ⟨[], true, 0, s⟩) else (readNum (c :: r)).map (fun n => ⟨[], false, n, []⟩)

/-- What readValue hands out: a field, and whether it is one. -/
def RvPost (w : World) (o : Option Fld) (e : Ending) (w' : World) : Prop :=
  ∃ f : Fld, e = .returned (.tuple #[.agg (fv f), .bool o.isSome]) ∧ (∀ g, o = some g → f = g) ∧ Below w.heap.size w w'

theorem prefix_yes (r : List UInt8) : Lib.trimPrefix (⟨(39 :: r).toArray⟩ : ByteArray).data.toList (⟨#[39]⟩ : ByteArray).data.toList = r ∧ Lib.hasPrefix (⟨(39 :: r).toArray⟩ : ByteArray).data.toList (⟨#[39]⟩ : ByteArray).data.toList = true := by
  simp [Lib.trimPrefix, Lib.hasPrefix]
theorem prefix_no (v : List UInt8) (h : ∀ r, v ≠ 39 :: r) : Lib.trimPrefix (⟨v.toArray⟩ : ByteArray).data.toList (⟨#[39]⟩ : ByteArray).data.toList = v ∧ Lib.hasPrefix (⟨v.toArray⟩ : ByteArray).data.toList (⟨#[39]⟩ : ByteArray).data.toList = false := by
  have : Lib.hasPrefix v [39] = false := by
    unfold Lib.hasPrefix
    rcases v with _ | ⟨c, r⟩
    · rfl
    · have hc : ¬ 39 = c := fun e => h r (by rw [e])
      simp [List.isPrefixOf, hc]
  simp [Lib.trimPrefix, this]

theorem Prefix_yes (r : List UInt8) (w : World) :
    Calls Tryz.prog 142 #[sv (39 :: r), .string ⟨#[39]⟩] w fun e w' => e = .returned (.tuple #[sv r, .bool true]) ∧ w = w' := by
  have := Tryz.strings_CutPrefix ⟨(39 :: r).toArray⟩ ⟨#[39]⟩ w
  rw [(prefix_yes r).1, (prefix_yes r).2] at this
  exact this.mono (fun e w' h => ⟨h.1, h.2.symm⟩)
theorem Prefix_no (v : List UInt8) (h : ∀ r, v ≠ 39 :: r) (w : World) :
    Calls Tryz.prog 142 #[sv v, .string ⟨#[39]⟩] w fun e w' => e = .returned (.tuple #[sv v, .bool false]) ∧ w = w' := by
  have := Tryz.strings_CutPrefix ⟨v.toArray⟩ ⟨#[39]⟩ w
  rw [(prefix_no v h).1, (prefix_no v h).2] at this
  exact this.mono (fun e w' h => ⟨h.1, h.2.symm⟩)

abbrev fld0 : Fld := ⟨[], false, 0, []⟩

set_option maxHeartbeats 2000000 in
theorem rv_none (r : List UInt8) (w : World) (hr : r.length ≤ 140737488355328) (hu : unesc r = none) :
    Calls Tryz.prog 84 #[sv (39 :: r)] w fun e w' => e = .returned (.tuple #[.agg (fv ⟨[], true, 0, []⟩), .bool false]) ∧ Below w.heap.size w w' := by
  have HU : Hid (∀ W, Calls Tryz.prog 13 #[sv r] W fun e w' => e = .returned (.tuple #[sv [], .bool false]) ∧ Below W.heap.size W w') := hide (fun W => by have := Unescape_any r W hr; rw [hu] at this; exact this)
  have HP := hide (Prefix_yes r)
  obtain ⟨v, hv⟩ : ∃ v, v = 39 :: r := ⟨_, rfl⟩
  rw [← hv] at HP ⊢
  clear hu hv
  go_enter Tryz.func84, Tryz.ntmps84
  go_upto_region 1 with fail
  have hb1 : Below w.heap.size w (w.alloc (.cells (fv fld0) 33)) := (Below.refl _ _).alloc (Nat.le_refl _) _
  have hf1 := FBox.new w fld0
  obtain ⟨w1, hw1⟩ : ∃ w1, w1 = w.alloc (.cells (fv fld0) 33) := ⟨_, rfl⟩
  rw [← hw1] at hb1 hf1
  rw [show w.alloc (.cells #[Value.string ⟨#[]⟩, .bool false, .int .i64 0, Value.string ⟨#[]⟩] 33) = w1 from hw1.symm]
  have HB1 := hide hb1
  have HF1 := hide hf1
  clear hw1 hb1 hf1
  go_upto_region 4 with (first | (go_at_call 142; refine (unhide HP _).mono ?_; rintro e w' ⟨rfl, rfl⟩) | (go_at_call 13; refine (unhide HU _).mono ?_; rintro e w2 ⟨rfl, b2⟩; have HB2 := hide ((unhide HB1).trans (b2.mono (unhide HB1).size)); have HF2 := hide ((unhide HF1).below b2 (Nat.le_refl _)); clear b2))
  obtain ⟨c0, c1, c2, c3, cf⟩ := (unhide HF2).cells
  have HE := hide ((unhide HF2).put [] true 0 [])
  have BE := hide (below_put (unhide HB2) (Nat.le_refl _) [] true 0 [])
  go_wp2
  exact bodyPost_ret (results_ct rfl _ _ w.heap.size 33 (fv ⟨[], true, 0, []⟩) (0, 0) _ (.bool false) rfl rfl (unhide HE) Tryz.underlying33 rfl sizeField) rfl ⟨rfl, unhide BE⟩


set_option maxHeartbeats 2000000 in
theorem rv_some (r : List UInt8) (w : World) (hr : r.length ≤ 140737488355328) (s : List UInt8) (hu : unesc r = some s) :
    Calls Tryz.prog 84 #[sv (39 :: r)] w fun e w' => e = .returned (.tuple #[.agg (fv ⟨[], true, 0, s⟩), .bool (decide ((s.length : Int) ≤ 200))]) ∧ Below w.heap.size w w' := by
  have HU : Hid (∀ W, Calls Tryz.prog 13 #[sv r] W fun e w' => e = .returned (.tuple #[sv s, .bool true]) ∧ Below W.heap.size W w') := hide (fun W => by have := Unescape_any r W hr; rw [hu] at this; exact this)
  have HP := hide (Prefix_yes r)
  obtain ⟨v, hv⟩ : ∃ v, v = 39 :: r := ⟨_, rfl⟩
  rw [← hv] at HP ⊢
  clear hu hv
  go_enter Tryz.func84, Tryz.ntmps84
  go_upto_region 1 with fail
  have hb1 : Below w.heap.size w (w.alloc (.cells (fv fld0) 33)) := (Below.refl _ _).alloc (Nat.le_refl _) _
  have hf1 := FBox.new w fld0
  obtain ⟨w1, hw1⟩ : ∃ w1, w1 = w.alloc (.cells (fv fld0) 33) := ⟨_, rfl⟩
  rw [← hw1] at hb1 hf1
  rw [show w.alloc (.cells #[Value.string ⟨#[]⟩, .bool false, .int .i64 0, Value.string ⟨#[]⟩] 33) = w1 from hw1.symm]
  have HB1 := hide hb1
  have HF1 := hide hf1
  clear hw1 hb1 hf1
  go_upto_region 4 with (first | (go_at_call 142; refine (unhide HP _).mono ?_; rintro e w' ⟨rfl, rfl⟩) | (go_at_call 13; refine (unhide HU _).mono ?_; rintro e w2 ⟨rfl, b2⟩; have HB2 := hide ((unhide HB1).trans (b2.mono (unhide HB1).size)); have HF2 := hide ((unhide HF1).below b2 (Nat.le_refl _)); clear b2))
  obtain ⟨c0, c1, c2, c3, cf⟩ := (unhide HF2).cells
  have HE := hide ((unhide HF2).put [] true 0 s)
  have BE := hide (below_put (unhide HB2) (Nat.le_refl _) [] true 0 s)
  go_wp2
  exact bodyPost_ret (results_ct rfl _ _ w.heap.size 33 (fv ⟨[], true, 0, s⟩) (0, 0) _ (.bool (decide ((s.length : Int) ≤ 200))) rfl rfl (unhide HE) Tryz.underlying33 rfl sizeField) rfl ⟨rfl, unhide BE⟩

end Go.Proofs.YtkgepklmhdjjnaaGreatDoor
