/-
  DERIVED. How upcasters and an event are opened.
-/
import Derived.Test.YtfgjbmpbailebaaDoorUpE
import Derived.Test.YtfgjbmpbailebaaDoorShopen3
import Derived.Test.YtfgjbmpbailebaaDoorUpA
namespace Go.Proofs.YtfgjbmpbailebaaDoor
open Go.ChangeShapes Go.WideShapes Go.ChangeAt Go.RowKit
set_option linter.unusedVariables false

theorem Tryd.cellsChg : Tryd.prog.cellsOf 49 = 7 := by kernel_rfl
theorem Tryd.cellsUp : Tryd.prog.cellsOf 38 = 3 := by kernel_rfl
theorem Tryd.cellsChs : Tryd.prog.cellsOf 36 = 1 := by kernel_rfl
theorem Tryd.cellsFds : Tryd.prog.cellsOf 24 = 1 := by kernel_rfl
theorem Tryd.underChg : ∃ f0 f1 f2 f3, Tryd.prog.underlying 49 = some (.struct #[f0, f1, f2, f3]) ∧ (f0.offset = 0 ∧ f1.offset = 1 ∧ f2.offset = 2 ∧ f3.offset = 3) ∧ f0.type = 3 ∧ f1.type = 9 ∧ f2.type = 9 ∧ f3.type = 30 := ⟨_, _, _, _, Tryd.underlying49, ⟨rfl, rfl, rfl, rfl⟩, rfl, rfl, rfl, rfl⟩
theorem Tryd.underUp : ∃ f0 f1 f2, Tryd.prog.underlying 38 = some (.struct #[f0, f1, f2]) ∧ (f0.offset = 0 ∧ f1.offset = 1 ∧ f2.offset = 2) ∧ f0.type = 9 ∧ f1.type = 3 ∧ f2.type = 36 := ⟨_, _, _, Tryd.underlying38, ⟨rfl, rfl, rfl⟩, rfl, rfl, rfl⟩
theorem Tryd.underEv : ∃ f0 f1 f2, Tryd.prog.underlying 26 = some (.struct #[f0, f1, f2]) ∧ Go.Deep.oneCellFields Tryd.prog #[f0, f1, f2] = true ∧ f0.type = 9 ∧ f1.type = 3 ∧ f2.type = 24 := ⟨_, _, _, Tryd.underlying26, by kernel_rfl, rfl, rfl, rfl⟩

instance : Inhabited Chg := ⟨⟨0, [], [], ⟨[], false, 0, []⟩⟩⟩
instance : Inhabited Upc := ⟨⟨[], 0, []⟩⟩

set_option maxRecDepth 100000 in
theorem open_changes {H : Type} {enc : TypeId × Value → H} {W : World} {v : Value} {y : DataW H × List MemPlace} {fuel : Nat}
    (hf : DataW.trod enc Tryd.prog W 0 (fun _ => true) true fuel 36 [v] = some y) : ∃ a n c cs, v = .slice a n c ∧ ChL W (.slice a n c) cs ∧ ∀ x ∈ cs, fitC x := by
  obtain ⟨p0, p1, p2, p3, hup, ⟨r0, r1, r2, r3⟩, s0, s1, s2, s3⟩ := Tryd.underChg
  obtain ⟨f0, f1, f2, f3, hu, ⟨o0, o1, o2, o3⟩, t0, t1, t2, t3⟩ := Tryd.underFld
  rcases Go.Deep.open_slice Tryd.underlying36 hf with ⟨hcs, hx⟩ | ⟨x, n, cap, m, k, D, Pl, hcs, _, hl, hm, hz, hx, hcell⟩
  · simp only [List.cons.injEq, and_true] at hcs
    subst hcs
    exact ⟨_, _, _, [], rfl, ⟨none, 0, rfl, by simp, by omega, fun h => by simp at h⟩, fun f hf => by simp at hf⟩
  · simp only [List.cons.injEq, and_true] at hcs
    subst hcs
    rw [if_pos rfl] at hz
    subst hz
    unfold maxLen at hm
    have hel : ∀ i, i < n → ∃ g : Chg, fitC g ∧ W.cell? (x.add (i * 7)) = some (.int .i64 g.kind) ∧ W.cell? (x.add (i * 7 + 1)) = some (sv g.name) ∧ W.cell? (x.add (i * 7 + 2)) = some (sv g.tn) ∧ W.cell? (x.add (i * 7 + 3)) = some (sv g.f.name) ∧ W.cell? (x.add (i * 7 + 4)) = some (.bool g.f.text) ∧ W.cell? (x.add (i * 7 + 5)) = some (.int .i64 g.f.n) ∧ W.cell? (x.add (i * 7 + 6)) = some (sv g.f.s) := by
      intro i hi
      obtain ⟨cs, q1, q2⟩ := hcell i (by omega)
      rw [Tryd.cellsChg] at q1
      obtain ⟨_, hlen, hc⟩ := World.cells?_some q1
      match cs, hlen with
      | [c0, c1, c2, c3, c4, c5, c6], _ =>
        obtain ⟨xs, k', _, _, _, hxl, hfl⟩ := DataW.trod_struct hup q2
        match xs, hxl with
        | [x0, x1, x2, x3], _ =>
          have g0 := hfl 0 p0 rfl
          have g1 := hfl 1 p1 rfl
          have g2 := hfl 2 p2 rfl
          have g3 := hfl 3 p3 rfl
          rw [r0, s0, Tryd.cellsInt] at g0
          rw [r1, s1, Tryd.cellsStr] at g1
          rw [r2, s2, Tryd.cellsStr] at g2
          rw [r3, s3, Tryd.cellsFld] at g3
          obtain ⟨b0, e0, _, w0⟩ := DataW.trod_int Tryd.underlying3 g0
          obtain ⟨b1, e1, _, w1⟩ := DataW.trod_string Tryd.underlying9 g1
          obtain ⟨b2, e2, _, w2⟩ := DataW.trod_string Tryd.underlying9 g2
          obtain ⟨ys, k2, _, _, _, hyl, hyf⟩ := DataW.trod_struct hu g3
          match ys, hyl with
          | [y0, y1, y2, y3], _ =>
            have m0 := hyf 0 f0 rfl
            have m1 := hyf 1 f1 rfl
            have m2 := hyf 2 f2 rfl
            have m3 := hyf 3 f3 rfl
            rw [o0, t0, Tryd.cellsStr] at m0
            rw [o1, t1, Tryd.cellsBool] at m1
            rw [o2, t2, Tryd.cellsInt] at m2
            rw [o3, t3, Tryd.cellsStr] at m3
            obtain ⟨d0, e3, _, w3⟩ := DataW.trod_string Tryd.underlying9 m0
            obtain ⟨d1, e4, _⟩ := DataW.trod_bool Tryd.underlying4 m1
            obtain ⟨d2, e5, _, w5⟩ := DataW.trod_int Tryd.underlying3 m2
            obtain ⟨d3, e6, _, w6⟩ := DataW.trod_string Tryd.underlying9 m3
            simp at e0 e1 e2 e3 e4 e5 e6
            subst e0 e1 e2 e3 e4 e5 e6
            have bn0 := bounds_i64 w0
            have bn5 := bounds_i64 w5
            unfold maxLen at w1 w2 w3 w6
            have l1 : b1.data.toList.length = b1.size := by rw [Array.length_toList]; rfl
            have l2 : b2.data.toList.length = b2.size := by rw [Array.length_toList]; rfl
            have l3 : d0.data.toList.length = d0.size := by rw [Array.length_toList]; rfl
            have l6 : d3.data.toList.length = d3.size := by rw [Array.length_toList]; rfl
            have k0 := hc 0 (by omega)
            have k1 := hc 1 (by omega)
            have k2 := hc 2 (by omega)
            have k3 := hc 3 (by omega)
            have k4 := hc 4 (by omega)
            have k5 := hc 5 (by omega)
            have k6 := hc 6 (by omega)
            rw [Go.Deep.add_add] at k0 k1 k2 k3 k4 k5 k6
            refine ⟨⟨b0, b1.data.toList, b2.data.toList, ⟨d0.data.toList, d1, d2, d3.data.toList⟩⟩, ⟨by show b1.data.toList.length ≤ _; omega, by show b2.data.toList.length ≤ _; omega, by show d0.data.toList.length ≤ _; omega, by show d3.data.toList.length ≤ _; omega, ⟨by show _ ≤ d2; omega, by show d2 ≤ _; omega⟩, by show _ ≤ b0; omega, by show b0 ≤ _; omega⟩, ?_, ?_, ?_, ?_, ?_, ?_, ?_⟩
            · exact k0
            · rw [← str_list]; exact k1
            · rw [← str_list]; exact k2
            · rw [← str_list]; exact k3
            · exact k4
            · exact k5
            · rw [← str_list]; exact k6
    obtain ⟨F, hF⟩ := Go.Deep.choose_lt (α := Chg) hel
    have hlen : ((List.range n).map F).length = n := by simp
    refine ⟨some x, n, _, (List.range n).map F, rfl, ⟨some x, _, by rw [hlen], by rw [hlen]; exact hl, by omega, fun hz => ?_⟩, ?_⟩
    · rw [hlen] at hz
      have h0 := (hF 0 (by omega)).2.1
      have hsp := World.cell?_spot h0
      obtain ⟨b, off, sp⟩ := x
      have hsp' : sp = none := by
        cases sp with
        | none => rfl
        | some k => simp [Addr.add] at hsp
      subst hsp'
      refine ⟨b, off, rfl, ?_, fun i g hi => ?_⟩
      · rw [addr_add] at h0
        exact World.block_lt_of_cell? W ⟨b, off + 0 * 7, none⟩ h0
      · rw [List.getElem?_map, Option.map_eq_some_iff] at hi
        obtain ⟨i', hi1, rfl⟩ := hi
        obtain ⟨hi2, rfl⟩ := List.getElem?_eq_some_iff.1 hi1
        rw [List.getElem_range]
        obtain ⟨_, q0, q1, q2, q3, q4, q5, q6⟩ := hF i (by simpa using hi2)
        rw [addr_add] at q0 q1 q2 q3 q4 q5 q6
        exact ⟨q0, by rw [Nat.add_assoc]; exact q1, by rw [Nat.add_assoc]; exact q2, by rw [Nat.add_assoc]; exact q3, by rw [Nat.add_assoc]; exact q4, by rw [Nat.add_assoc]; exact q5, by rw [Nat.add_assoc]; exact q6⟩
    · intro f hf
      obtain ⟨i, hi, rfl⟩ := List.mem_map.1 hf
      exact (hF i (by simpa using hi)).1

set_option maxRecDepth 100000 in
theorem open_upcasts {H : Type} {enc : TypeId × Value → H} {W : World} {v : Value} {y : DataW H × List MemPlace} {fuel : Nat}
    (hf : DataW.trod enc Tryd.prog W 0 (fun _ => true) true fuel 23 [v] = some y) : ∃ a n c us, v = .slice a n c ∧ UpL W (.slice a n c) us ∧ ∀ x ∈ us, fitU x := by
  obtain ⟨f0, f1, f2, hu, ⟨o0, o1, o2⟩, t0, t1, t2⟩ := Tryd.underUp
  rcases Go.Deep.open_slice Tryd.underlying23 hf with ⟨hcs, hx⟩ | ⟨x, n, cap, m, k, D, Pl, hcs, _, hl, hm, hz, hx, hcell⟩
  · simp only [List.cons.injEq, and_true] at hcs
    subst hcs
    exact ⟨_, _, _, [], rfl, ⟨none, 0, rfl, by simp, by omega, fun h => by simp at h⟩, fun f hf => by simp at hf⟩
  · simp only [List.cons.injEq, and_true] at hcs
    subst hcs
    rw [if_pos rfl] at hz
    subst hz
    unfold maxLen at hm
    have hel : ∀ i, i < n → ∃ u : Upc, fitU u ∧ W.cell? (x.add (i * 3)) = some (sv u.type) ∧ W.cell? (x.add (i * 3 + 1)) = some (.int .i64 u.frm) ∧ ∃ a' c', W.cell? (x.add (i * 3 + 2)) = some (.slice a' u.chs.length c') ∧ ChL W (.slice a' u.chs.length c') u.chs := by
      intro i hi
      obtain ⟨cs, q1, q2⟩ := hcell i (by omega)
      rw [Tryd.cellsUp] at q1
      obtain ⟨_, hlen, hc⟩ := World.cells?_some q1
      match cs, hlen with
      | [c0, c1, c2], _ =>
        obtain ⟨xs, k', _, _, _, hxl, hfl⟩ := DataW.trod_struct hu q2
        match xs, hxl with
        | [x0, x1, x2], _ =>
          have g0 := hfl 0 f0 rfl
          have g1 := hfl 1 f1 rfl
          have g2 := hfl 2 f2 rfl
          rw [o0, t0, Tryd.cellsStr] at g0
          rw [o1, t1, Tryd.cellsInt] at g1
          rw [o2, t2, Tryd.cellsChs] at g2
          obtain ⟨s0, e0, _, w0⟩ := DataW.trod_string Tryd.underlying9 g0
          obtain ⟨s1, e1, _, w1⟩ := DataW.trod_int Tryd.underlying3 g1
          have bn := bounds_i64 w1
          simp at e0 e1
          subst e0 e1
          simp at g2
          obtain ⟨a', n', c', fs, rfl, h1, h2⟩ := open_changes g2
          obtain rfl : n' = fs.length := h1.len.1
          unfold maxLen at w0
          have l0 : s0.data.toList.length = s0.size := by rw [Array.length_toList]; rfl
          have k0 := hc 0 (by omega)
          have k1 := hc 1 (by omega)
          have k2 := hc 2 (by omega)
          rw [Go.Deep.add_add] at k0 k1 k2
          refine ⟨⟨s0.data.toList, s1, fs⟩, ⟨by show s0.data.toList.length ≤ _; omega, ⟨by show _ ≤ s1; omega, by show s1 ≤ _; omega⟩, h2⟩, ?_, ?_, a', c', ?_, h1⟩
          · rw [← str_list]; exact k0
          · exact k1
          · exact k2
    obtain ⟨F, hF⟩ := Go.Deep.choose_lt (α := Upc) hel
    have hlen : ((List.range n).map F).length = n := by simp
    refine ⟨some x, n, _, (List.range n).map F, rfl, ⟨some x, _, by rw [hlen], by rw [hlen]; exact hl, by omega, fun hz => ?_⟩, ?_⟩
    · rw [hlen] at hz
      have h0 := (hF 0 (by omega)).2.1
      have hsp := World.cell?_spot h0
      obtain ⟨b, off, sp⟩ := x
      have hsp' : sp = none := by
        cases sp with
        | none => rfl
        | some k => simp [Addr.add] at hsp
      subst hsp'
      refine ⟨b, off, rfl, ?_, fun i g hi => ?_⟩
      · rw [addr_add] at h0
        exact World.block_lt_of_cell? W ⟨b, off + 0 * 3, none⟩ h0
      · rw [List.getElem?_map, Option.map_eq_some_iff] at hi
        obtain ⟨i', hi1, rfl⟩ := hi
        obtain ⟨hi2, rfl⟩ := List.getElem?_eq_some_iff.1 hi1
        rw [List.getElem_range]
        obtain ⟨_, q0, q1, a', c', q2, q3⟩ := hF i (by simpa using hi2)
        rw [addr_add] at q0 q1 q2
        exact ⟨q0, by rw [Nat.add_assoc]; exact q1, a', c', by rw [Nat.add_assoc]; exact q2, q3⟩
    · intro f hf
      obtain ⟨i, hi, rfl⟩ := List.mem_map.1 hf
      exact (hF i (by simpa using hi)).1

/-- An argument []api.Upcast. -/
theorem open_ups {H : Type} {enc : TypeId × Value → H} {W : World} {a : Option Addr} {n c : Nat} {d : DataW H} {p : List MemPlace} {ts : List TypeId} {ds : List (DataW H)} (hsz : (DataW.weightsEach Tryd.prog ts ds).all (· ≤ reachBytes) = true) {j : Nat} (hj : ds[j]? = some d)
    (h : DataW.Trod enc Tryd.prog W 0 (fun _ => true) true 23 (.slice a n c) d p) (ht : ts[j]? = some 23) : ∃ l : List Upc, UpL W (.slice a n c) l ∧ (∀ u ∈ l, fitU u) ∧ l.length < 10000000000000 := by
  obtain ⟨fuel, hf⟩ := h
  obtain ⟨a', n', c', us, e, h1, h2⟩ := open_upcasts hf
  cases e
  refine ⟨us, h1, h2, ?_⟩
  rw [← h1.len.1]
  rcases Go.Deep.open_slice Tryd.underlying23 hf with ⟨hcs, _⟩ | ⟨x, n', cap, m, k, D, Pl, hcs, _, hl, hm, hz, hx, hcell⟩
  · simp [Value.cells] at hcs
    rw [hcs.2.1]; omega
  · simp [Value.cells] at hcs
    obtain ⟨rfl, rfl, rfl⟩ := hcs
    have hd := congrArg Prod.fst hx
    simp only at hd
    rw [hd] at hj
    have := sized_slice hsz ht hj Tryd.underlying23
    rw [show Tryd.prog.bytesOf 38 = 48 by kernel_rfl] at this
    simp only [List.length_map, List.length_range, reachBytes] at this
    omega
end Go.Proofs.YtfgjbmpbailebaaDoor

namespace Go.Proofs.YtfgjbmpbailebaaDoor
open Go.ChangeShapes Go.WideShapes Go.ChangeAt Go.RowKit
set_option linter.unusedVariables false

theorem Tryd.cellsEv : Tryd.prog.cellsOf 26 = 3 := by kernel_rfl

set_option maxRecDepth 100000 in
theorem open_event {H : Type} {enc : TypeId × Value → H} {W : World} {b0 : Nat} {v : Value} {d : DataW H} {p : List MemPlace} {ts : List TypeId} {ds : List (DataW H)} (hsz : (DataW.weightsEach Tryd.prog ts ds).all (· ≤ reachBytes) = true) {j : Nat} (hj : ds[j]? = some d) (ht : ts[j]? = some 26) (hv : Value.okWide Tryd.prog W .any b0 26 v)
    (h : DataW.Trod enc Tryd.prog W 0 (fun _ => true) true 26 v d p) : ∃ tp vr fa fc fs, v = .agg (evv tp vr (.slice fa (List.length fs) fc)) ∧ FdN W fa fc fs ∧ (∀ f ∈ fs, fits f) ∧ fs.length * 48 ≤ 140737488351232 ∧ tp.length ≤ 9223372036854775807 ∧ I64 vr := by
  obtain ⟨f0, f1, f2, hu, hone, t0, t1, t2⟩ := Tryd.underEv
  obtain ⟨v0, v1, v2, y0, y1, y2, k, rfl, hd, _, g0, g1, g2⟩ := Go.Joins.open_agg3 hu hone Tryd.cellsEv hv h
  rw [t0] at g0
  rw [t1] at g1
  rw [t2] at g2
  obtain ⟨s0, e0, _, w0⟩ := DataW.trod_string Tryd.underlying9 g0
  obtain ⟨s1, e1, _, w1⟩ := DataW.trod_int Tryd.underlying3 g1
  have bn := bounds_i64 w1
  simp at e0 e1
  subst e0 e1
  unfold maxLen at w0
  have l0 : s0.data.toList.length = s0.size := by rw [Array.length_toList]; rfl
  obtain ⟨a', n', c', fs, rfl, h1, h2⟩ := open_fields g2
  have hn : n' = fs.length := by obtain ⟨_, _, e, _⟩ := h1; cases e; rfl
  subst hn
  have hroom := open_room (W := W) (d := y2.1) (p := y2.2) (n := fs.length) (a := a') (c := c') ⟨_, g2⟩
  refine ⟨s0.data.toList, s1, a', c', fs, by rw [str_list], ⟨h1, hroom⟩, h2, ?_, by omega, ⟨by omega, by omega⟩⟩
  have hin : ∀ x ∈ d.weights Tryd.prog 26, x ≤ reachBytes := fun x hx => by
    have := List.all_eq_true.1 hsz x (DataW.weights_mem_each ht hj x hx)
    simpa using this
  rcases Go.Deep.open_slice Tryd.underlying24 g2 with ⟨hcs, _⟩ | ⟨x, n', cap, m, k, D, Pl, hcs, _, hl, hm, hz, hx, hcell⟩
  · simp at hcs
    rw [hcs.2.1]; simp
  · simp at hcs
    obtain ⟨rfl, hnn, rfl⟩ := hcs
    have := hin ((((List.range n').map D).length + ((List.range (m - n')).map fun j => D (n' + j)).length) * Tryd.prog.bytesOf 30) (by
      rw [hd]
      simp only [DataW.weights, hu, DataW.weightsEach, List.map_cons, t2, List.mem_append, hx]
      simp [Tryd.underlying24])
    rw [show Tryd.prog.bytesOf 30 = 48 by kernel_rfl] at this
    simp only [List.length_map, List.length_range, reachBytes] at this
    omega
end Go.Proofs.YtfgjbmpbailebaaDoor
