/-
  DERIVED. How calls that came in are opened, and how long their runs may be.
-/
import Derived.Test.YtmnmciajldoabaaAopen
namespace Go.Proofs.Ytmnmciajldoabaa
open Go.ChangeShapes Go.WideShapes Go.ChangeAt Go.RowKit
set_option linter.unusedVariables false

theorem bulkAll_len {H : Type} : ∀ (l : List (DataW H)), l.length ≤ Rows.uptoBulkAll l
  | [] => by simp
  | d :: r => by
    have h1 : 1 ≤ Rows.uptoBulk d := by
      cases d with
      | lit l => cases l <;> simp [Rows.uptoBulk]
      | nil => simp [Rows.uptoBulk]
      | ptr d => simp [Rows.uptoBulk]
      | slice elems spare => simp [Rows.uptoBulk]
      | agg parts => simp [Rows.uptoBulk]
      | iface t d => simp [Rows.uptoBulk]
      | map entries => simp [Rows.uptoBulk]
      | held h => simp [Rows.uptoBulk]
    have := bulkAll_len r
    simp only [Rows.uptoBulkAll, List.length_cons]; omega
theorem bulkAll_mem {H : Type} {d : DataW H} : ∀ {l : List (DataW H)}, d ∈ l → Rows.uptoBulk d ≤ Rows.uptoBulkAll l
  | x :: l, h => by
    simp only [Rows.uptoBulkAll]
    rcases List.mem_cons.1 h with rfl | h
    · omega
    · have := bulkAll_mem h
      omega
theorem open_runs3 {H : Type} {enc : TypeId × Value → H} {W : World} {v : Value} {y : DataW H × List MemPlace} {fuel : Nat}
    (hf : DataW.trod enc Try.prog W 0 (fun _ => true) true fuel 28 [v] = some y) : ∃ l : List (Int × Int), Rn W v l ∧ (∀ n c, v = .slice none n c → c = 0) ∧ l.length ≤ Rows.uptoBulk y.1 := by
  obtain ⟨l, hl⟩ := open_runs hf
  refine ⟨l, hl, ?_⟩
  rcases Go.Deep.open_slice Try.underlying28 hf with ⟨hcs, hx⟩ | ⟨x, n, cap, m, k, D, Pl, hcs, _, hln, hm, hz, hx, hcell⟩
  · simp at hcs
    subst hcs
    obtain ⟨ao, cp, e, _⟩ := hl
    injection e with e1 e2 e3
    exact ⟨fun n c e => by injection e with _ _ e; exact e.symm, by omega⟩
  · simp at hcs
    subst hcs
    obtain ⟨ao, cp, e, _⟩ := hl
    injection e with e1 e2 e3
    refine ⟨(fun n c e => by cases e), ?_⟩
    rw [hx]
    simp only [Rows.uptoBulk]
    have := bulkAll_len ((List.range n).map D)
    simp at this
    omega
/-- A slice of calls, whose runs are no longer than B. -/
def AClL3 (w : World) (v : Value) (l : List ACl) (B : Nat) : Prop :=
  ∃ ao cap, v = .slice ao l.length cap ∧ l.length ≤ 9223372036854775807 ∧ (0 < l.length → ∃ b off, ao = some ⟨b, off, none⟩ ∧ b < w.heap.size ∧ ∀ i, (h : i < l.length) → AClAt w b (off + i * 3) l[i] ∧ (∃ v, w.cell? ⟨b, off + i * 3 + 2, none⟩ = some v ∧ Rn w v l[i].l ∧ ∀ n c, v = .slice none n c → c = 0) ∧ l[i].l.length ≤ B)

set_option maxRecDepth 100000 in
theorem open_acalls3 {H : Type} {enc : TypeId × Value → H} {W : World} {a : Option Addr} {n c : Nat} {d : DataW H} {p : List MemPlace}
    (h : DataW.Trod enc Try.prog W 0 (fun _ => true) true 22 (.slice a n c) d p) : ∃ l : List ACl, AClL3 W (.slice a n c) l (Rows.uptoBulk d) := by
  obtain ⟨fuel, hf⟩ := h
  obtain ⟨f0, f1, f2, hu, ⟨o0, o1, o2⟩, t0, t1, t2⟩ := Try.underACall
  rcases Go.Deep.open_slice Try.underlying22 hf with ⟨hcs, hx⟩ | ⟨x, n', cap, m, k, D, Pl, hcs, _, hl, hm, hz, hx, hcell⟩
  · simp [Value.cells] at hcs
    obtain ⟨rfl, rfl, rfl⟩ := hcs
    exact ⟨[], none, 0, rfl, by simp, fun h => by simp at h⟩
  · simp [Value.cells] at hcs
    obtain ⟨rfl, rfl, rfl⟩ := hcs
    rw [if_pos rfl] at hz
    subst hz
    unfold maxLen at hm
    have hel : ∀ i, i < n → ∃ e : ACl, I64 e.kind ∧ I64 e.n ∧ W.cell? (x.add (i * 3)) = some (.int .i64 e.kind) ∧ W.cell? (x.add (i * 3 + 1)) = some (.int .i64 e.n) ∧ (∃ v, W.cell? (x.add (i * 3 + 2)) = some v ∧ Rn W v e.l ∧ ∀ n c, v = .slice none n c → c = 0) ∧ e.l.length ≤ Rows.uptoBulk (D i) := by
      intro i hi
      obtain ⟨cs, q1, q2⟩ := hcell i (by omega)
      rw [Try.cellsACall] at q1
      obtain ⟨_, hlen, hc⟩ := World.cells?_some q1
      match cs, hlen with
      | [c0, c1, c2], _ =>
        obtain ⟨xs, k', _, hDx, _, hxl, hfl⟩ := DataW.trod_struct hu q2
        match xs, hxl with
        | [x0, x1, x2], _ =>
          have g0 := hfl 0 f0 rfl
          have g1 := hfl 1 f1 rfl
          have g2 := hfl 2 f2 rfl
          rw [o0, t0, Try.cellsInt] at g0
          rw [o1, t1, Try.cellsInt] at g1
          rw [o2, t2, Try.cellsRuns] at g2
          obtain ⟨s0, e0, _, w0⟩ := DataW.trod_int Try.underlying3 g0
          obtain ⟨s1, e1, _, w1⟩ := DataW.trod_int Try.underlying3 g1
          simp at e0 e1
          subst e0 e1
          simp at g2
          obtain ⟨l2, h2, hn2, hb2⟩ := open_runs3 g2
          have hDi : D i = .agg [x0.1, x1.1, x2.1] := by simpa using congrArg Prod.fst hDx
          have hbd : l2.length ≤ Rows.uptoBulk (D i) := by
            rw [hDi]
            simp only [Rows.uptoBulk, Rows.uptoBulkAll]
            omega
          have k0 := hc 0 (by omega)
          have k1 := hc 1 (by omega)
          have k2 := hc 2 (by omega)
          rw [Go.Deep.add_add] at k0 k1 k2
          have b0 := bounds_i64 w0
          have b1 := bounds_i64 w1
          exact ⟨⟨s0, s1, l2⟩, ⟨by simp only; omega, by simp only; omega⟩, ⟨by simp only; omega, by simp only; omega⟩, k0, k1, ⟨c2, k2, h2, hn2⟩, hbd⟩
    obtain ⟨F, hF⟩ := Go.Deep.choose_lt (α := ACl) hel
    have hlen : ((List.range n).map F).length = n := by simp
    refine ⟨(List.range n).map F, some x, _, by rw [hlen], by rw [hlen]; omega, fun hz => ?_⟩
    rw [hlen] at hz
    have h0 := (hF 0 (by omega)).2.2.1
    have hsp := World.cell?_spot h0
    obtain ⟨b, off, sp⟩ := x
    have hsp' : sp = none := by
      cases sp with
      | none => rfl
      | some k => simp [Addr.add] at hsp
    subst hsp'
    refine ⟨b, off, rfl, ?_, fun i hi => ?_⟩
    · rw [addr_add] at h0
      exact World.block_lt_of_cell? W ⟨b, off + 0 * 3, none⟩ h0
    · have hi' : i < n := by rw [hlen] at hi; exact hi
      obtain ⟨j0, j1, q0, q1, ⟨v, q2, q3, qn⟩, q5⟩ := hF i hi'
      rw [addr_add] at q0 q1 q2
      have e : ((List.range n).map F)[i] = F i := by simp
      rw [e]
      simp only [← Nat.add_assoc] at q1 q2
      refine ⟨{ c0 := q0, c1 := q1, c2 := ⟨v, q2, q3⟩, i0 := j0, i1 := j1 }, ⟨v, q2, q3, qn⟩, ?_⟩
      have hdd : d = .slice ((List.range n).map D) ((List.range (m - n)).map fun j => D (n + j)) := by simpa using congrArg Prod.fst hx
      have hmem := bulkAll_mem (show D i ∈ (List.range n).map D from List.mem_map.2 ⟨i, List.mem_range.2 hi', rfl⟩)
      rw [hdd]
      simp only [Rows.uptoBulk]
      omega
end Go.Proofs.Ytmnmciajldoabaa
