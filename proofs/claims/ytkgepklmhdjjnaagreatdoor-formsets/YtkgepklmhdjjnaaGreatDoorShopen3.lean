/-
  DERIVED. How long an argument []api.Field can be.
-/
import Derived.Test.YtkgepklmhdjjnaaGreatDoorShopen2
import Derived.SizedLaws
namespace Go.Proofs.YtkgepklmhdjjnaaGreatDoor
open Go.ChangeShapes Go.WideShapes Go.ChangeAt Go.RowKit
set_option linter.unusedVariables false

set_option maxRecDepth 100000 in
theorem fields_bound {H : Type} {enc : TypeId × Value → H} {W : World} {a : Option Addr} {n c : Nat} {d : DataW H} {p : List MemPlace} {ts : List TypeId} {ds : List (DataW H)} (hsz : (DataW.weightsEach Tryz.prog ts ds).all (· ≤ reachBytes) = true) {j : Nat} (hj : ds[j]? = some d)
    (h : DataW.Trod enc Tryz.prog W 0 (fun _ => true) true 23 (.slice a n c) d p) (ht : ts[j]? = some 23) : n * 48 ≤ 140737488351232 := by
  obtain ⟨fuel, hf⟩ := h
  rcases Go.Deep.open_slice Tryz.underlying23 hf with ⟨hcs, _⟩ | ⟨x, n', cap, m, k, D, Pl, hcs, _, hl, hm, hz, hx, hcell⟩
  · simp [Value.cells] at hcs
    rw [hcs.2.1]; omega
  · simp [Value.cells] at hcs
    obtain ⟨rfl, rfl, rfl⟩ := hcs
    have hd := congrArg Prod.fst hx
    simp only at hd
    rw [hd] at hj
    have := sized_slice hsz ht hj Tryz.underlying23
    rw [show Tryz.prog.bytesOf 33 = 48 by kernel_rfl] at this
    simp only [List.length_map, List.length_range, reachBytes] at this
    omega
end Go.Proofs.YtkgepklmhdjjnaaGreatDoor
