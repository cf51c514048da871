/-
  DERIVED. How an argument []api.Field is opened.
-/
import Derived.Test.YtingpmgpjmlioaaGreatDoorShf
import Derived.Deep.Slices
import Derived.Lib.SmallJoins
import Derived.ChangeSame
import Derived.ChangeVars
import Derived.JoinedOf
import Derived.RowKitTokens
import Derived.SizedLaws
import Derived.OpenShut
import Derived.ShutString
import Derived.ChangeMaps
import Derived.Test.YtingpmgpjmlioaaGreatDoorShco
namespace Go.Proofs.YtingpmgpjmlioaaGreatDoor
open Go.ChangeShapes Go.WideShapes Go.ChangeAt Go.RowKit
set_option linter.unusedVariables false

theorem Tryz.cellsFld : Tryz.prog.cellsOf 48 = 4 := by kernel_rfl
theorem Tryz.cellsStr : Tryz.prog.cellsOf 9 = 1 := by kernel_rfl
theorem Tryz.cellsBool : Tryz.prog.cellsOf 4 = 1 := by kernel_rfl
theorem Tryz.cellsInt : Tryz.prog.cellsOf 3 = 1 := by kernel_rfl

theorem Tryz.underFld : ∃ f0 f1 f2 f3, Tryz.prog.underlying 48 = some (.struct #[f0, f1, f2, f3]) ∧ (f0.offset = 0 ∧ f1.offset = 1 ∧ f2.offset = 2 ∧ f3.offset = 3) ∧ f0.type = 9 ∧ f1.type = 4 ∧ f2.type = 3 ∧ f3.type = 9 := ⟨_, _, _, _, Tryz.underlying48, ⟨rfl, rfl, rfl, rfl⟩, rfl, rfl, rfl, rfl⟩

instance : Inhabited Fld := ⟨⟨[], false, 0, []⟩⟩

theorem str_list (s : ByteArray) : Value.string s = sv s.data.toList := by
  show Value.string s = Value.string ⟨s.data.toList.toArray⟩
  simp

set_option maxRecDepth 100000 in
theorem open_fields {H : Type} {enc : TypeId × Value → H} {W : World} {v : Value} {y : DataW H × List MemPlace} {fuel : Nat}
    (hf : DataW.trod enc Tryz.prog W 0 (fun _ => true) true fuel 30 [v] = some y) : ∃ a n c fs, v = .slice a n c ∧ FdL W (.slice a n c) fs ∧ ∀ f ∈ fs, fits f := by
  obtain ⟨f0, f1, f2, f3, hu, ⟨o0, o1, o2, o3⟩, t0, t1, t2, t3⟩ := Tryz.underFld
  rcases Go.Deep.open_slice Tryz.underlying30 hf with ⟨hcs, hx⟩ | ⟨x, n, cap, m, k, D, Pl, hcs, _, hl, hm, hz, hx, hcell⟩
  · simp only [List.cons.injEq, and_true] at hcs
    subst hcs
    exact ⟨_, _, _, [], rfl, ⟨none, 0, rfl, by simp, by omega, fun h => by simp at h⟩, fun f hf => by simp at hf⟩
  · simp only [List.cons.injEq, and_true] at hcs
    subst hcs
    rw [if_pos rfl] at hz
    subst hz
    unfold maxLen at hm
    have hel : ∀ i, i < n → ∃ f : Fld, fits f ∧ W.cell? (x.add (i * 4)) = some (sv f.name) ∧ W.cell? (x.add (i * 4 + 1)) = some (.bool f.text) ∧ W.cell? (x.add (i * 4 + 2)) = some (.int .i64 f.n) ∧ W.cell? (x.add (i * 4 + 3)) = some (sv f.s) := by
      intro i hi
      obtain ⟨cs, q1, q2⟩ := hcell i (by omega)
      rw [Tryz.cellsFld] at q1
      obtain ⟨_, hlen, hc⟩ := World.cells?_some q1
      match cs, hlen with
      | [c0, c1, c2, c3], _ =>
        obtain ⟨xs, k', _, _, _, hxl, hfl⟩ := DataW.trod_struct hu q2
        match xs, hxl with
        | [x0, x1, x2, x3], _ =>
          have g0 := hfl 0 f0 rfl
          have g1 := hfl 1 f1 rfl
          have g2 := hfl 2 f2 rfl
          have g3 := hfl 3 f3 rfl
          rw [o0, t0, Tryz.cellsStr] at g0
          rw [o1, t1, Tryz.cellsBool] at g1
          rw [o2, t2, Tryz.cellsInt] at g2
          rw [o3, t3, Tryz.cellsStr] at g3
          obtain ⟨s0, e0, _, w0⟩ := DataW.trod_string Tryz.underlying9 g0
          obtain ⟨s1, e1, _⟩ := DataW.trod_bool Tryz.underlying4 g1
          obtain ⟨s2, e2, _, w2⟩ := DataW.trod_int Tryz.underlying3 g2
          have bn := bounds_i64 w2
          obtain ⟨s3, e3, _, w3⟩ := DataW.trod_string Tryz.underlying9 g3
          simp at e0 e1 e2 e3
          subst e0 e1 e2 e3
          unfold maxLen at w0 w3
          have l0 : s0.data.toList.length = s0.size := by rw [Array.length_toList]; rfl
          have l3 : s3.data.toList.length = s3.size := by rw [Array.length_toList]; rfl
          have k0 := hc 0 (by omega)
          have k1 := hc 1 (by omega)
          have k2 := hc 2 (by omega)
          have k3 := hc 3 (by omega)
          rw [Go.Deep.add_add] at k0 k1 k2 k3
          refine ⟨⟨s0.data.toList, s1, s2, s3.data.toList⟩, ⟨by show s0.data.toList.length ≤ _; omega, by show s3.data.toList.length ≤ _; omega, by show _ ≤ s2; omega, by show s2 ≤ _; omega⟩, ?_, ?_, ?_, ?_⟩
          · rw [← str_list]; exact k0
          · exact k1
          · exact k2
          · rw [← str_list]; exact k3
    obtain ⟨F, hF⟩ := Go.Deep.choose_lt (α := Fld) hel
    have hlen : ((List.range n).map F).length = n := by simp
    refine ⟨some x, n, _, (List.range n).map F, rfl, ⟨some x, _, by rw [hlen], by rw [hlen]; exact hl, by omega, fun hz => ?_⟩, ?_⟩
    · rw [hlen] at hz
      have h0 := (hF 0 (by omega)).2.1
      have hsp := World.cell?_spot h0
      obtain ⟨b, off, sp⟩ := x
      have hsp' : sp = none := by
        cases sp with
        | none => rfl
        | some k => simp [Addr.add] at hsp
      subst hsp'
      refine ⟨b, off, rfl, ?_, fun i hi => ?_⟩
      · rw [addr_add] at h0
        exact World.block_lt_of_cell? W ⟨b, off + 0 * 4, none⟩ h0
      · have hi' : i < n := by rw [hlen] at hi; exact hi
        obtain ⟨_, q0, q1, q2, q3⟩ := hF i hi'
        rw [addr_add] at q0 q1 q2 q3
        have e : ((List.range n).map F)[i] = F i := by simp
        rw [e]
        exact ⟨q0, by rw [Nat.add_assoc]; exact q1, by rw [Nat.add_assoc]; exact q2, by rw [Nat.add_assoc]; exact q3⟩
    · intro f hf
      obtain ⟨i, hi, rfl⟩ := List.mem_map.1 hf
      exact (hF i (by simpa using hi)).1

/-- An argument []api.Field: what it reads as; its fields are of this machine's sizes. -/
theorem open_flds {H : Type} {enc : TypeId × Value → H} {W : World} {a : Option Addr} {n c : Nat} {d : DataW H} {p : List MemPlace} {ts : List TypeId} {ds : List (DataW H)} (hsz : (DataW.weightsEach Tryz.prog ts ds).all (· ≤ reachBytes) = true) {j : Nat} (hj : ds[j]? = some d)
    (h : DataW.Trod enc Tryz.prog W 0 (fun _ => true) true 30 (.slice a n c) d p) (ht : ts[j]? = some 30) : ∃ l : List Fld, FdL W (.slice a n c) l ∧ (∀ f ∈ l, fits f) ∧ True := by
  obtain ⟨fuel, hf⟩ := h
  obtain ⟨a', n', c', fs, e, h1, h2⟩ := open_fields hf
  cases e
  exact ⟨fs, h1, h2, trivial⟩
end Go.Proofs.YtingpmgpjmlioaaGreatDoor

namespace Go.Proofs.YtingpmgpjmlioaaGreatDoor
open Go.ChangeShapes Go.WideShapes Go.ChangeAt Go.RowKit
set_option linter.unusedVariables false

set_option maxRecDepth 100000 in
theorem open_room {H : Type} {enc : TypeId × Value → H} {W : World} {a : Option Addr} {n c : Nat} {d : DataW H} {p : List MemPlace}
    (h : DataW.Trod enc Tryz.prog W 0 (fun _ => true) true 30 (.slice a n c) d p) : c ≠ 0 → ∃ b off, a = some ⟨b, off, none⟩ := by
  intro hc
  obtain ⟨fuel, hf⟩ := h
  rcases Go.Deep.open_slice Tryz.underlying30 hf with ⟨hcs, _⟩ | ⟨x, n', cap, m, k, D, Pl, hcs, _, hl, hm, hz, hx, hcell⟩
  · simp [Value.cells] at hcs
    exact absurd hcs.2.2 hc
  · simp [Value.cells] at hcs
    obtain ⟨rfl, rfl, rfl⟩ := hcs
    rw [if_pos rfl] at hz
    subst hz
    obtain ⟨cs, q1, _⟩ := hcell 0 (by omega)
    rw [Tryz.cellsFld] at q1
    obtain ⟨_, hlen, hcc⟩ := World.cells?_some q1
    have h0 := hcc 0 (by omega)
    rw [List.getElem?_eq_getElem (by omega)] at h0
    have hsp := World.cell?_spot h0
    obtain ⟨b, off, sp⟩ := x
    cases sp with
    | none => exact ⟨b, off, rfl⟩
    | some z => simp [Addr.add] at hsp

set_option maxRecDepth 100000 in
theorem open_fdn {H : Type} {enc : TypeId × Value → H} {W : World} {a : Option Addr} {n c : Nat} {d : DataW H} {p : List MemPlace} {ts : List TypeId} {ds : List (DataW H)} (hsz : (DataW.weightsEach Tryz.prog ts ds).all (· ≤ reachBytes) = true) {j : Nat} (hj : ds[j]? = some d)
    (h : DataW.Trod enc Tryz.prog W 0 (fun _ => true) true 30 (.slice a n c) d p) (ht : ts[j]? = some 30) : ∃ l : List Fld, n = l.length ∧ FdN W a c l ∧ (∀ f ∈ l, fits f) := by
  obtain ⟨l, h1, h2, _⟩ := open_flds hsz hj h ht
  have hn : n = l.length := by obtain ⟨_, _, e, _⟩ := h1; cases e; rfl
  subst hn
  exact ⟨l, rfl, ⟨h1, open_room h⟩, h2⟩

theorem Tryz.oneFld : ∃ f0 f1 f2 f3, Tryz.prog.underlying 48 = some (.struct #[f0, f1, f2, f3]) ∧ Go.Deep.oneCellFields Tryz.prog #[f0, f1, f2, f3] = true ∧ f0.type = 9 ∧ f1.type = 4 ∧ f2.type = 3 ∧ f3.type = 9 := ⟨_, _, _, _, Tryz.underlying48, by kernel_rfl, rfl, rfl, rfl, rfl⟩

set_option maxRecDepth 100000 in
theorem open_fld {H : Type} {enc : TypeId × Value → H} {W : World} {b0 : Nat} {v : Value} {d : DataW H} {p : List MemPlace} (hv : Value.okWide Tryz.prog W .any b0 48 v)
    (h : DataW.Trod enc Tryz.prog W 0 (fun _ => true) true 48 v d p) : ∃ l : Fld, v = .agg (fv l) ∧ fits l := by
  obtain ⟨f0, f1, f2, f3, hu, hone, t0, t1, t2, t3⟩ := Tryz.oneFld
  obtain ⟨v0, v1, v2, v3, y0, y1, y2, y3, k, rfl, _, _, g0, g1, g2, g3⟩ := Go.Joins.open_agg4 hu hone Tryz.cellsFld hv h
  rw [t0] at g0
  rw [t1] at g1
  rw [t2] at g2
  rw [t3] at g3
  obtain ⟨s0, e0, _, w0⟩ := DataW.trod_string Tryz.underlying9 g0
  obtain ⟨s1, e1, _⟩ := DataW.trod_bool Tryz.underlying4 g1
  obtain ⟨s2, e2, _, w2⟩ := DataW.trod_int Tryz.underlying3 g2
  have bn := bounds_i64 w2
  obtain ⟨s3, e3, _, w3⟩ := DataW.trod_string Tryz.underlying9 g3
  simp at e0 e1 e2 e3
  subst e0 e1 e2 e3
  unfold maxLen at w0 w3
  have l0 : s0.data.toList.length = s0.size := by rw [Array.length_toList]; rfl
  have l3 : s3.data.toList.length = s3.size := by rw [Array.length_toList]; rfl
  refine ⟨⟨s0.data.toList, s1, s2, s3.data.toList⟩, by rw [str_list, str_list], by show s0.data.toList.length ≤ _; omega, by show s3.data.toList.length ≤ _; omega, by show _ ≤ s2; omega, by show s2 ≤ _; omega⟩
end Go.Proofs.YtingpmgpjmlioaaGreatDoor
