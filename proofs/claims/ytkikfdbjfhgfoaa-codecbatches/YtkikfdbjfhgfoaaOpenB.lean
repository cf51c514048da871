/-
  DERIVED. How an argument api.Batch is opened.
-/
import Derived.Test.YtkikfdbjfhgfoaaOpenE
import Derived.Test.YtkikfdbjfhgfoaaBat
namespace Go.Proofs.Ytkikfdbjfhgfoaa
open Go.ChangeShapes Go.WideShapes Go.ChangeAt Go.RowKit
set_option linter.unusedVariables false

theorem Try.cellsBt : Try.prog.cellsOf 25 = 4 := by kernel_rfl
theorem Try.underBt : ∃ f0 f1 f2 f3, Try.prog.underlying 25 = some (.struct #[f0, f1, f2, f3]) ∧ (f0.offset = 0 ∧ f1.offset = 1 ∧ f2.offset = 2 ∧ f3.offset = 3) ∧ f0.type = 9 ∧ f1.type = 9 ∧ f2.type = 3 ∧ f3.type = 23 := ⟨_, _, _, _, Try.underlying25, ⟨rfl, rfl, rfl, rfl⟩, rfl, rfl, rfl, rfl⟩
theorem Try.underEv2 : ∃ f0 f1 f2, Try.prog.underlying 59 = some (.struct #[f0, f1, f2]) ∧ (f0.offset = 0 ∧ f1.offset = 1 ∧ f2.offset = 2) ∧ f0.type = 9 ∧ f1.type = 3 ∧ f2.type = 57 := ⟨_, _, _, Try.underlying59, ⟨rfl, rfl, rfl⟩, rfl, rfl, rfl⟩
theorem Try.cellsFds : Try.prog.cellsOf 57 = 1 := by kernel_rfl
theorem Try.cellsEvs : Try.prog.cellsOf 23 = 1 := by kernel_rfl

instance : Inhabited Evn := ⟨⟨[], 0, []⟩⟩

set_option maxRecDepth 100000 in
theorem open_events {H : Type} {enc : TypeId × Value → H} {W : World} {v : Value} {y : DataW H × List MemPlace} {fuel : Nat}
    (hf : DataW.trod enc Try.prog W 0 (fun _ => true) true fuel 23 [v] = some y) : ∃ a n c es, v = .slice a n c ∧ EvL W (.slice a n c) es ∧ ∀ e ∈ es, fitE e := by
  obtain ⟨f0, f1, f2, hu, ⟨o0, o1, o2⟩, t0, t1, t2⟩ := Try.underEv2
  rcases Go.Deep.open_slice Try.underlying23 hf with ⟨hcs, hx⟩ | ⟨x, n, cap, m, k, D, Pl, hcs, _, hl, hm, hz, hx, hcell⟩
  · simp only [List.cons.injEq, and_true] at hcs
    subst hcs
    exact ⟨_, _, _, [], rfl, ⟨none, 0, rfl, by simp, by omega, fun h => by simp at h⟩, fun f hf => by simp at hf⟩
  · simp only [List.cons.injEq, and_true] at hcs
    subst hcs
    rw [if_pos rfl] at hz
    subst hz
    unfold maxLen at hm
    have hel : ∀ i, i < n → ∃ e : Evn, fitE e ∧ W.cell? (x.add (i * 3)) = some (sv e.type) ∧ W.cell? (x.add (i * 3 + 1)) = some (.int .i64 e.ver) ∧ ∃ a' n' c', W.cell? (x.add (i * 3 + 2)) = some (.slice a' n' c') ∧ FdL W (.slice a' n' c') e.fields := by
      intro i hi
      obtain ⟨cs, q1, q2⟩ := hcell i (by omega)
      rw [Try.cellsEv] at q1
      obtain ⟨_, hlen, hc⟩ := World.cells?_some q1
      match cs, hlen with
      | [c0, c1, c2], _ =>
        obtain ⟨xs, k', _, _, _, hxl, hfl⟩ := DataW.trod_struct hu q2
        match xs, hxl with
        | [x0, x1, x2], _ =>
          have g0 := hfl 0 f0 rfl
          have g1 := hfl 1 f1 rfl
          have g2 := hfl 2 f2 rfl
          rw [o0, t0, Try.cellsStr] at g0
          rw [o1, t1, Try.cellsInt] at g1
          rw [o2, t2, Try.cellsFds] at g2
          obtain ⟨s0, e0, _, w0⟩ := DataW.trod_string Try.underlying9 g0
          obtain ⟨s1, e1, _, _⟩ := DataW.trod_int Try.underlying3 g1
          simp at e0 e1
          subst e0 e1
          simp at g2
          obtain ⟨a', n', c', fs, rfl, h1, h2⟩ := open_fields g2
          unfold maxLen at w0
          have l0 : s0.data.toList.length = s0.size := by rw [Array.length_toList]; rfl
          have k0 := hc 0 (by omega)
          have k1 := hc 1 (by omega)
          have k2 := hc 2 (by omega)
          rw [Go.Deep.add_add] at k0 k1 k2
          refine ⟨⟨s0.data.toList, s1, fs⟩, ⟨by show s0.data.toList.length ≤ _; omega, h2⟩, ?_, ?_, a', n', c', ?_, h1⟩
          · rw [← str_list]; exact k0
          · exact k1
          · exact k2
    obtain ⟨F, hF⟩ := Go.Deep.choose_lt (α := Evn) hel
    have hlen : ((List.range n).map F).length = n := by simp
    refine ⟨some x, n, _, (List.range n).map F, rfl, ⟨some x, _, by rw [hlen], by rw [hlen]; exact hl, by omega, fun hz => ?_⟩, ?_⟩
    · rw [hlen] at hz
      have h0 := (hF 0 (by omega)).2.1
      have hsp := World.cell?_spot h0
      obtain ⟨b, off, sp⟩ := x
      have hsp' : sp = none := by
        cases sp with
        | none => rfl
        | some k => simp [Addr.add] at hsp
      subst hsp'
      refine ⟨b, off, rfl, ?_, fun i hi => ?_⟩
      · rw [addr_add] at h0
        exact World.block_lt_of_cell? W ⟨b, off + 0 * 3, none⟩ h0
      · have hi' : i < n := by rw [hlen] at hi; exact hi
        obtain ⟨_, q0, q1, a', n', c', q2, q3⟩ := hF i hi'
        rw [addr_add] at q0 q1 q2
        have e : ((List.range n).map F)[i] = F i := by simp
        rw [e]
        exact ⟨q0, by rw [Nat.add_assoc]; exact q1, a', n', c', by rw [Nat.add_assoc]; exact q2, q3⟩
    · intro f hf
      obtain ⟨i, hi, rfl⟩ := List.mem_map.1 hf
      exact (hF i (by simpa using hi)).1

set_option maxRecDepth 100000 in
theorem open_batch {H : Type} {enc : TypeId × Value → H} {W : World} {b0 : Nat} {v : Value} {d : DataW H} {p : List MemPlace} (hv : Value.okWide Try.prog W .any b0 25 v)
    (h : DataW.Trod enc Try.prog W 0 (fun _ => true) true 25 v d p) : ∃ s k i a n c es, v = .agg (bt s k i a n c) ∧ s.length ≤ 9223372036854775807 ∧ EvL W (.slice a n c) es ∧ ∀ e ∈ es, fitE e := by
  obtain ⟨f0, f1, f2, f3, hu, ⟨o0, o1, o2, o3⟩, t0, t1, t2, t3⟩ := Try.underBt
  obtain ⟨cs, rfl, hsz⟩ := okWide_struct hu hv
  rw [Try.cellsBt] at hsz
  obtain ⟨fuel, hf⟩ := h
  obtain ⟨l, rfl⟩ : ∃ l, cs = List.toArray l := ⟨cs.toList, by simp⟩
  match l, hsz with
  | [c0, c1, c2, c3], _ =>
    obtain ⟨xs, k', _, _, _, hxl, hfl⟩ := DataW.trod_struct hu hf
    match xs, hxl with
    | [x0, x1, x2, x3], _ =>
      have g0 := hfl 0 f0 rfl
      have g1 := hfl 1 f1 rfl
      have g2 := hfl 2 f2 rfl
      have g3 := hfl 3 f3 rfl
      rw [o0, t0, Try.cellsStr] at g0
      rw [o1, t1, Try.cellsStr] at g1
      rw [o2, t2, Try.cellsInt] at g2
      rw [o3, t3, Try.cellsEvs] at g3
      simp [Value.cells] at g0 g1 g2 g3
      obtain ⟨s0, e0, _, w0⟩ := DataW.trod_string Try.underlying9 g0
      obtain ⟨s1, e1, _, _⟩ := DataW.trod_string Try.underlying9 g1
      obtain ⟨s2, e2, _, _⟩ := DataW.trod_int Try.underlying3 g2
      simp at e0 e1 e2
      subst e0 e1 e2
      obtain ⟨a', n', c', es, rfl, h1, h2⟩ := open_events g3
      unfold maxLen at w0
      have l0 : s0.data.toList.length = s0.size := by rw [Array.length_toList]; rfl
      exact ⟨s0.data.toList, s1.data.toList, s2, a', n', c', es, by rw [str_list s0, str_list s1], by omega, h1, h2⟩
end Go.Proofs.Ytkikfdbjfhgfoaa
