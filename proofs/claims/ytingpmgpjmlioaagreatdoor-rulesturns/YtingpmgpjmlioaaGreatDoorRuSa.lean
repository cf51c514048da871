/-
  DERIVED. Sums, products and differences of two values: plain.
-/
import Derived.Test.YtingpmgpjmlioaaGreatDoorRuDg
namespace Go.Proofs.YtingpmgpjmlioaaGreatDoor
open Go.RowKit
set_option linter.unusedVariables false

/-- An expression that has a value. -/
def valX (f : Fld) : Ex := if f.text then .mk 2 0 f.s [] else .mk 1 f.n [] []
def twoX (k : Int) (f g : Fld) : Ex := .mk k 0 [] [valX f, valX g]
/-- What two values come to. -/
def twR (k : Int) (f g : Fld) : Except Int Fld := if f.text || g.text then .error 134 else if inB (opZ k f.n g.n) then .ok ⟨[], false, opZ k f.n g.n, []⟩ else .error 135

theorem nodes_two (k : Int) (f g : Fld) : nodesX (twoX k f g) = [twoX k f g, valX f, valX g] := by
  unfold twoX valX
  cases f.text <;> cases g.text <;> kernel_rfl
theorem form_two {k : Int} (hk : k = 6 ∨ k = 7 ∨ k = 8) (f g : Fld) : formX (twoX k f g) = true := by
  unfold formX
  rw [nodes_two]
  have h1 : okX (valX f) = true := by unfold valX; cases f.text <;> rfl
  have h2 : okX (valX g) = true := by unfold valX; cases g.text <;> rfl
  have h0 : okX (twoX k f g) = true := by rcases hk with rfl | rfl | rfl <;> rfl
  simp [h0, h1, h2]
theorem eval_val (S : Sc) (f : Fld) : evalX S (valX f) = .ok ⟨[], f.text, if f.text then 0 else f.n, if f.text then f.s else []⟩ := by
  rw [evalX_eq]
  unfold valX
  cases f.text <;> (simp only [Bool.false_eq_true, if_false, if_true, Ex.args, evalL]; rfl)
theorem eval_two (S : Sc) {k : Int} (hk : k = 6 ∨ k = 7 ∨ k = 8) (f g : Fld) : evalA S (twoX k f g) = twR k f g := by
  unfold evalA
  rw [form_two hk, if_pos rfl, evalX_eq]
  have hl : evalL S (twoX k f g).args = .ok [⟨[], f.text, if f.text then 0 else f.n, if f.text then f.s else []⟩, ⟨[], g.text, if g.text then 0 else g.n, if g.text then g.s else []⟩] := by
    show evalL S [valX f, valX g] = _
    rw [evalL_cons, eval_val]
    simp only
    rw [evalL_cons, eval_val]
    simp only [evalL]
  rw [hl]
  simp only
  unfold opX twR twoX
  simp only [Ex.kind, Ex.n, Ex.s]
  rcases hk with rfl | rfl | rfl <;> (cases f.text <;> cases g.text <;> simp)
theorem evalE_two (st : List UInt8) (l m : List Fld) {k : Int} (hk : k = 6 ∨ k = 7 ∨ k = 8) (f g : Fld) : evalE st l m (twoX k f g) = twR k f g := eval_two _ hk f g
theorem twR_turn {k : Int} (hk : k = 6 ∨ k = 8) (f g : Fld) : twR k f g = twR k g f := by
  unfold twR
  rw [Bool.or_comm f.text g.text]
  have : opZ k f.n g.n = opZ k g.n f.n := by
    rcases hk with rfl | rfl
    · simp [opZ, Int.add_comm]
    · simp [opZ, Int.mul_comm]
  rw [this]
/-- A difference and that the other way round. -/
theorem twR_sub (f g : Fld) : (∃ n, twR 7 f g = .error n ∧ twR 7 g f = .error n) ∨ ∃ z : Int, -1000000000000000 ≤ z ∧ z ≤ 1000000000000000 ∧ twR 7 f g = .ok ⟨[], false, z, []⟩ ∧ twR 7 g f = .ok ⟨[], false, -z, []⟩ := by
  unfold twR
  rw [Bool.or_comm g.text f.text]
  cases hb : (f.text || g.text) with
  | true => exact .inl ⟨134, by simp, by simp⟩
  | false =>
    have e : opZ 7 g.n f.n = - opZ 7 f.n g.n := by simp [opZ]; omega
    have e2 : inB (- opZ 7 f.n g.n) = inB (opZ 7 f.n g.n) := by
      rw [Bool.eq_iff_iff, inB_iff, inB_iff]; omega
    rw [e, e2]
    cases hi : inB (opZ 7 f.n g.n) with
    | true =>
      have := inB_iff.1 hi
      exact .inr ⟨opZ 7 f.n g.n, this.1, this.2, by simp, by simp⟩
    | false => exact .inl ⟨135, by simp, by simp⟩
theorem twR_err {k : Int} {f g : Fld} {n : Int} (h : twR k f g = .error n) : n = 134 ∨ n = 135 := by
  unfold twR at h
  split at h
  · injection h with h; exact .inl h.symm
  · split at h
    · cases h
    · injection h with h; exact .inr h.symm
/-- Not turns a condition's answer, and no error. -/
theorem holds_not (st : List UInt8) (l m : List Fld) (d : Cd) : (∃ n, holdsE st l m d = .error n ∧ holdsE st l m ⟨d.kind, !d.neg, d.A, d.B⟩ = .error n) ∨ ∃ b, holdsE st l m d = .ok b ∧ holdsE st l m ⟨d.kind, !d.neg, d.A, d.B⟩ = .ok (!b) := by
  unfold holdsE holdsR
  have e : isSoR ⟨st, l, m, none, 0, none, 0, 0⟩ ⟨d.kind, !d.neg, d.A, d.B⟩ = isSoR ⟨st, l, m, none, 0, none, 0, 0⟩ d := by
    simp only [isSoR]
  rw [e]
  cases isSoR ⟨st, l, m, none, 0, none, 0, 0⟩ d with
  | error n => exact .inl ⟨n, rfl, rfl⟩
  | ok t =>
    refine .inr ⟨t != d.neg, rfl, ?_⟩
    show Except.ok (t != !d.neg) = Except.ok (!(t != d.neg))
    cases t <;> cases d.neg <;> rfl
end Go.Proofs.YtingpmgpjmlioaaGreatDoor
