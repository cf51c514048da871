/-
  DERIVED. How an event is opened.
-/
import Derived.Test.YtfgjbmpbailebaaDoorUpP
namespace Go.Proofs.YtfgjbmpbailebaaDoor
open Go.ChangeShapes Go.WideShapes Go.ChangeAt Go.RowKit
set_option linter.unusedVariables false

theorem Tryd.cellsEv : Tryd.prog.cellsOf 26 = 3 := by kernel_rfl

set_option maxRecDepth 100000 in
theorem open_event {H : Type} {enc : TypeId × Value → H} {W : World} {b0 : Nat} {v : Value} {d : DataW H} {p : List MemPlace} {ts : List TypeId} {ds : List (DataW H)} (hsz : (DataW.weightsEach Tryd.prog ts ds).all (· ≤ reachBytes) = true) {j : Nat} (hj : ds[j]? = some d) (ht : ts[j]? = some 26) (hv : Value.okWide Tryd.prog W .any b0 26 v)
    (h : DataW.Trod enc Tryd.prog W 0 (fun _ => true) true 26 v d p) : ∃ tp vr fa fc fs, v = .agg (evv tp vr (.slice fa (List.length fs) fc)) ∧ FdN W fa fc fs ∧ (∀ f ∈ fs, fits f) ∧ fs.length * 48 ≤ 140737488351232 ∧ tp.length ≤ 9223372036854775807 ∧ I64 vr := by
  obtain ⟨f0, f1, f2, hu, hone, t0, t1, t2⟩ := Tryd.underEv
  obtain ⟨v0, v1, v2, y0, y1, y2, k, rfl, hd, _, g0, g1, g2⟩ := Go.Joins.open_agg3 hu hone Tryd.cellsEv hv h
  rw [t0] at g0
  rw [t1] at g1
  rw [t2] at g2
  obtain ⟨s0, e0, _, w0⟩ := DataW.trod_string Tryd.underlying9 g0
  obtain ⟨s1, e1, _, w1⟩ := DataW.trod_int Tryd.underlying3 g1
  have bn := bounds_i64 w1
  simp at e0 e1
  subst e0 e1
  unfold maxLen at w0
  have l0 : s0.data.toList.length = s0.size := by rw [Array.length_toList]; rfl
  obtain ⟨a', n', c', fs, rfl, h1, h2⟩ := open_fields g2
  have hn : n' = fs.length := by obtain ⟨_, _, e, _⟩ := h1; cases e; rfl
  subst hn
  have hroom := open_room (W := W) (d := y2.1) (p := y2.2) (n := fs.length) (a := a') (c := c') ⟨_, g2⟩
  refine ⟨s0.data.toList, s1, a', c', fs, by rw [str_list], ⟨h1, hroom⟩, h2, ?_, by omega, ⟨by omega, by omega⟩⟩
  have hin : ∀ x ∈ d.weights Tryd.prog 26, x ≤ reachBytes := fun x hx => by
    have := List.all_eq_true.1 hsz x (DataW.weights_mem_each ht hj x hx)
    simpa using this
  rcases Go.Deep.open_slice Tryd.underlying24 g2 with ⟨hcs, _⟩ | ⟨x, n', cap, m, k, D, Pl, hcs, _, hl, hm, hz, hx, hcell⟩
  · simp at hcs
    rw [hcs.2.1]; simp
  · simp at hcs
    obtain ⟨rfl, hnn, rfl⟩ := hcs
    have := hin ((((List.range n').map D).length + ((List.range (m - n')).map fun j => D (n' + j)).length) * Tryd.prog.bytesOf 30) (by
      rw [hd]
      simp only [DataW.weights, hu, DataW.weightsEach, List.map_cons, t2, List.mem_append, hx]
      simp [DataW.weights, Tryd.underlying24])
    rw [show Tryd.prog.bytesOf 30 = 48 by kernel_rfl] at this
    simp only [List.length_map, List.length_range, reachBytes] at this
    omega
end Go.Proofs.YtfgjbmpbailebaaDoor
