/-
  DERIVED. How runs, ints and calls that came in are opened.
-/
import Derived.Test.YtikoegmpbjeadabRows
import Derived.Test.YtikoegmpbjeadabIawake
import Derived.OpenShut
import Derived.ShutString
import Derived.SizedLaws
import Derived.Deep.Slices
import Derived.Deep.Lists
namespace Go.Proofs.Ytikoegmpbjeadab
open Go.ChangeShapes Go.WideShapes Go.ChangeAt Go.RowKit
set_option linter.unusedVariables false

theorem own_knob : ownKnob Try.prog.godebug = none := by kernel_rfl
theorem laid_out : laidOutB Try.prog = true := by kernel_rfl
theorem Try.cellsInt : Try.prog.cellsOf 3 = 1 := by kernel_rfl
theorem Try.cellsRun : Try.prog.cellsOf 34 = 2 := by kernel_rfl
theorem Try.cellsRuns : Try.prog.cellsOf 29 = 1 := by kernel_rfl
theorem Try.underRun : ∃ f0 f1, Try.prog.underlying 34 = some (.struct #[f0, f1]) ∧ (f0.offset = 0 ∧ f1.offset = 1) ∧ f0.type = 3 ∧ f1.type = 3 := ⟨_, _, Try.underlying34, ⟨rfl, rfl⟩, rfl, rfl⟩

set_option maxRecDepth 100000 in
theorem open_runs {H : Type} {enc : TypeId × Value → H} {W : World} {v : Value} {y : DataW H × List MemPlace} {fuel : Nat}
    (hf : DataW.trod enc Try.prog W 0 (fun _ => true) true fuel 29 [v] = some y) : ∃ l : List (Int × Int), Rn W v l := by
  obtain ⟨f0, f1, hu, ⟨o0, o1⟩, t0, t1⟩ := Try.underRun
  rcases Go.Deep.open_slice Try.underlying29 hf with ⟨hcs, hx⟩ | ⟨x, n, cap, m, k, D, Pl, hcs, _, hl, hm, hz, hx, hcell⟩
  · simp at hcs
    subst hcs
    exact ⟨[], none, 0, rfl, by simp, by simp, by simp, fun h => absurd rfl h⟩
  · simp at hcs
    subst hcs
    rw [if_pos rfl] at hz
    subst hz
    unfold maxLen at hm
    have hel : ∀ i, i < n → ∃ e : Int × Int, fits e ∧ W.cell? (x.add (i * 2)) = some (.int .i64 e.1) ∧ W.cell? (x.add (i * 2 + 1)) = some (.int .i64 e.2) := by
      intro i hi
      obtain ⟨cs, q1, q2⟩ := hcell i (by omega)
      rw [Try.cellsRun] at q1
      obtain ⟨_, hlen, hc⟩ := World.cells?_some q1
      match cs, hlen with
      | [c0, c1], _ =>
        obtain ⟨xs, k', _, _, _, hxl, hfl⟩ := DataW.trod_struct hu q2
        match xs, hxl with
        | [x0, x1], _ =>
          have g0 := hfl 0 f0 rfl
          have g1 := hfl 1 f1 rfl
          rw [o0, t0, Try.cellsInt] at g0
          rw [o1, t1, Try.cellsInt] at g1
          obtain ⟨s0, e0, _, w0⟩ := DataW.trod_int Try.underlying3 g0
          obtain ⟨s1, e1, _, w1⟩ := DataW.trod_int Try.underlying3 g1
          simp at e0 e1
          subst e0 e1
          have k0 := hc 0 (by omega)
          have k1 := hc 1 (by omega)
          rw [Go.Deep.add_add] at k0 k1
          have b0 := bounds_i64 w0
          have b1 := bounds_i64 w1
          exact ⟨(s0, s1), ⟨by simp only; omega, by simp only; omega, by simp only; omega, by simp only; omega⟩, k0, k1⟩
    obtain ⟨F, hF⟩ := Go.Deep.choose_lt (α := Int × Int) hel
    have hlen : ((List.range n).map F).length = n := by simp
    refine ⟨(List.range n).map F, some x, _, by rw [hlen], by rw [hlen]; omega, by omega, fun y hy => ?_, fun hz => ?_⟩
    · obtain ⟨i, hi, rfl⟩ := List.mem_map.1 hy
      exact (hF i (List.mem_range.1 hi)).1
    · rw [hlen] at hz
      have h0 := (hF 0 (by omega)).2.1
      have hsp := World.cell?_spot h0
      obtain ⟨b, off, sp⟩ := x
      have hsp' : sp = none := by
        cases sp with
        | none => rfl
        | some k => simp [Addr.add] at hsp
      subst hsp'
      refine ⟨b, off, rfl, ?_, fun i hi => ?_⟩
      · rw [addr_add] at h0
        exact World.block_lt_of_cell? W ⟨b, off + 0 * 2, none⟩ h0
      · have hi' : i < n := by rw [hlen] at hi; exact hi
        obtain ⟨_, q0, q1⟩ := hF i hi'
        rw [addr_add] at q0 q1
        have e : ((List.range n).map F)[i] = F i := by simp
        rw [e]
        simp only [← Nat.add_assoc] at q1
        exact ⟨q0, q1⟩

/-- A slice of numbers. -/
def Ints (w : World) (v : Value) (l : List Int) : Prop :=
  ∃ ao cap, v = .slice ao l.length cap ∧ l.length ≤ 9223372036854775807 ∧ (∀ x ∈ l, I64 x) ∧ (l ≠ [] → ∃ pb off, ao = some ⟨pb, off, none⟩ ∧ pb < w.heap.size ∧ ∀ i, (h : i < l.length) → w.cell? ⟨pb, off + i, none⟩ = some (.int .i64 l[i]))
theorem open_intl {H : Type} {enc : TypeId × Value → H} {W : World} {a : Option Addr} {n c : Nat} {d : DataW H} {p : List MemPlace}
    (h : DataW.Trod enc Try.prog W 0 (fun _ => true) true 22 (.slice a n c) d p) : ∃ l : List Int, Ints W (.slice a n c) l := by
  obtain ⟨fuel, hf⟩ := h
  rcases open_ints Try.underlying22 Try.underlying3 Try.cellsInt hf with ⟨hcs, hx⟩ | ⟨x, l, cp, zs, hcs, _, hl, hm, hz, hx, hcell, hwz⟩
  · simp [Value.cells] at hcs
    obtain ⟨rfl, rfl, rfl⟩ := hcs
    exact ⟨[], none, 0, rfl, by simp, by simp, fun h => absurd rfl h⟩
  · simp [Value.cells] at hcs
    obtain ⟨rfl, rfl, rfl⟩ := hcs
    rw [if_pos rfl] at hz
    unfold maxLen at hm
    have hlen : (zs.take n).length = n := by simp; omega
    refine ⟨zs.take n, some x, c, by rw [hlen], by rw [hlen]; omega, fun y hy => ?_, fun hne => ?_⟩
    · have := bounds_i64 (hwz y (List.mem_of_mem_take hy)); exact ⟨by omega, by omega⟩
    · have hn0 : 0 < n := by rw [← hlen]; exact List.length_pos_iff.2 hne
      have h0 := hcell 0 (by omega)
      have hsp := World.cell?_spot h0
      obtain ⟨b, off, sp⟩ := x
      have hsp' : sp = none := by
        cases sp with
        | none => rfl
        | some k => simp [Addr.add] at hsp
      subst hsp'
      refine ⟨b, off, rfl, ?_, fun i hi => ?_⟩
      · rw [addr_add] at h0
        exact World.block_lt_of_cell? W ⟨b, off + 0, none⟩ h0
      · have hi' : i < n := by rw [hlen] at hi; exact hi
        have := hcell i (by omega)
        rw [addr_add] at this
        rw [this]
        simp [List.getD_eq_getElem?_getD, List.getElem?_eq_getElem (show i < zs.length by omega)]

end Go.Proofs.Ytikoegmpbjeadab
