/-
  DERIVED. How arguments []api.Field and api.Field are opened: with their room.
-/
import Derived.Test.YtkgepklmhdjjnaaGreatDoorShopen
import Derived.Test.YtkgepklmhdjjnaaGreatDoorShco
namespace Go.Proofs.YtkgepklmhdjjnaaGreatDoor
open Go.ChangeShapes Go.WideShapes Go.ChangeAt Go.RowKit
set_option linter.unusedVariables false

set_option maxRecDepth 100000 in
theorem open_room {H : Type} {enc : TypeId × Value → H} {W : World} {a : Option Addr} {n c : Nat} {d : DataW H} {p : List MemPlace}
    (h : DataW.Trod enc Tryz.prog W 0 (fun _ => true) true 23 (.slice a n c) d p) : c ≠ 0 → ∃ b off, a = some ⟨b, off, none⟩ := by
  intro hc
  obtain ⟨fuel, hf⟩ := h
  rcases Go.Deep.open_slice Tryz.underlying23 hf with ⟨hcs, _⟩ | ⟨x, n', cap, m, k, D, Pl, hcs, _, hl, hm, hz, hx, hcell⟩
  · simp [Value.cells] at hcs
    exact absurd hcs.2.2 hc
  · simp [Value.cells] at hcs
    obtain ⟨rfl, rfl, rfl⟩ := hcs
    rw [if_pos rfl] at hz
    subst hz
    obtain ⟨cs, q1, _⟩ := hcell 0 (by omega)
    rw [Tryz.cellsFld] at q1
    obtain ⟨_, hlen, hcc⟩ := World.cells?_some q1
    have h0 := hcc 0 (by omega)
    rw [List.getElem?_eq_getElem (by omega)] at h0
    have hsp := World.cell?_spot h0
    obtain ⟨b, off, sp⟩ := x
    cases sp with
    | none => exact ⟨b, off, rfl⟩
    | some z => simp [Addr.add] at hsp

set_option maxRecDepth 100000 in
theorem open_fdn {H : Type} {enc : TypeId × Value → H} {W : World} {a : Option Addr} {n c : Nat} {d : DataW H} {p : List MemPlace} {ts : List TypeId} {ds : List (DataW H)} (hsz : (DataW.weightsEach Tryz.prog ts ds).all (· ≤ reachBytes) = true) {j : Nat} (hj : ds[j]? = some d)
    (h : DataW.Trod enc Tryz.prog W 0 (fun _ => true) true 23 (.slice a n c) d p) (ht : ts[j]? = some 23) : ∃ l : List Fld, n = l.length ∧ FdN W a c l ∧ (∀ f ∈ l, fits f) := by
  obtain ⟨l, h1, h2, _⟩ := open_flds hsz hj h ht
  have hn : n = l.length := by obtain ⟨_, _, e, _⟩ := h1; cases e; rfl
  subst hn
  exact ⟨l, rfl, ⟨h1, open_room h⟩, h2⟩

theorem Tryz.oneFld : ∃ f0 f1 f2 f3, Tryz.prog.underlying 33 = some (.struct #[f0, f1, f2, f3]) ∧ Go.Deep.oneCellFields Tryz.prog #[f0, f1, f2, f3] = true ∧ f0.type = 9 ∧ f1.type = 4 ∧ f2.type = 3 ∧ f3.type = 9 := ⟨_, _, _, _, Tryz.underlying33, by kernel_rfl, rfl, rfl, rfl, rfl⟩

set_option maxRecDepth 100000 in
theorem open_fld {H : Type} {enc : TypeId × Value → H} {W : World} {b0 : Nat} {v : Value} {d : DataW H} {p : List MemPlace} (hv : Value.okWide Tryz.prog W .any b0 33 v)
    (h : DataW.Trod enc Tryz.prog W 0 (fun _ => true) true 33 v d p) : ∃ l : Fld, v = .agg (fv l) ∧ fits l := by
  obtain ⟨f0, f1, f2, f3, hu, hone, t0, t1, t2, t3⟩ := Tryz.oneFld
  obtain ⟨v0, v1, v2, v3, y0, y1, y2, y3, k, rfl, _, _, g0, g1, g2, g3⟩ := Go.Joins.open_agg4 hu hone Tryz.cellsFld hv h
  rw [t0] at g0
  rw [t1] at g1
  rw [t2] at g2
  rw [t3] at g3
  obtain ⟨s0, e0, _, w0⟩ := DataW.trod_string Tryz.underlying9 g0
  obtain ⟨s1, e1, _⟩ := DataW.trod_bool Tryz.underlying4 g1
  obtain ⟨s2, e2, _, w2⟩ := DataW.trod_int Tryz.underlying3 g2
  have bn := bounds_i64 w2
  obtain ⟨s3, e3, _, w3⟩ := DataW.trod_string Tryz.underlying9 g3
  simp at e0 e1 e2 e3
  subst e0 e1 e2 e3
  unfold maxLen at w0 w3
  have l0 : s0.data.toList.length = s0.size := by rw [Array.length_toList]; rfl
  have l3 : s3.data.toList.length = s3.size := by rw [Array.length_toList]; rfl
  refine ⟨⟨s0.data.toList, s1, s2, s3.data.toList⟩, by rw [str_list, str_list], by show s0.data.toList.length ≤ _; omega, by show s3.data.toList.length ≤ _; omega, by show _ ≤ s2; omega, by show s2 ≤ _; omega⟩
end Go.Proofs.YtkgepklmhdjjnaaGreatDoor
