/-
  DERIVED. How fields, events and the calls of a law on streams are opened.
-/
import Derived.Test.YtabcmmhmghgliaaXopen
import Derived.Test.YtabcmmhmghgliaaXev
import Derived.Lib.SmallJoins
namespace Go.Proofs.Ytabcmmhmghgliaa
open Go.ChangeShapes Go.WideShapes Go.ChangeAt Go.RowKit
set_option linter.unusedVariables false

theorem Try.cellsFld : Try.prog.cellsOf 73 = 4 := by kernel_rfl
theorem Try.cellsEv : Try.prog.cellsOf 49 = 3 := by kernel_rfl
theorem Try.cellsStr : Try.prog.cellsOf 9 = 1 := by kernel_rfl
theorem Try.cellsBool : Try.prog.cellsOf 4 = 1 := by kernel_rfl
theorem Try.cellsInt : Try.prog.cellsOf 3 = 1 := by kernel_rfl

theorem Try.underFld : ∃ f0 f1 f2 f3, Try.prog.underlying 73 = some (.struct #[f0, f1, f2, f3]) ∧ (f0.offset = 0 ∧ f1.offset = 1 ∧ f2.offset = 2 ∧ f3.offset = 3) ∧ f0.type = 9 ∧ f1.type = 4 ∧ f2.type = 3 ∧ f3.type = 9 := ⟨_, _, _, _, Try.underlying73, ⟨rfl, rfl, rfl, rfl⟩, rfl, rfl, rfl, rfl⟩
theorem Try.underEv : ∃ f0 f1 f2, Try.prog.underlying 49 = some (.struct #[f0, f1, f2]) ∧ Go.Deep.oneCellFields Try.prog #[f0, f1, f2] = true ∧ f0.type = 9 ∧ f1.type = 3 ∧ f2.type = 47 := ⟨_, _, _, Try.underlying49, by kernel_rfl, rfl, rfl, rfl⟩

instance : Inhabited Fld := ⟨⟨[], false, 0, []⟩⟩

theorem str_list (s : ByteArray) : Value.string s = sv s.data.toList := by
  show Value.string s = Value.string ⟨s.data.toList.toArray⟩
  simp

set_option maxRecDepth 100000 in
theorem open_fields {H : Type} {enc : TypeId × Value → H} {W : World} {v : Value} {y : DataW H × List MemPlace} {fuel : Nat}
    (hf : DataW.trod enc Try.prog W 0 (fun _ => true) true fuel 47 [v] = some y) : ∃ a n c fs, v = .slice a n c ∧ FdL W (.slice a n c) fs ∧ ∀ f ∈ fs, fits f ∧ (-9223372036854775808 ≤ f.n ∧ f.n ≤ 9223372036854775807) := by
  obtain ⟨f0, f1, f2, f3, hu, ⟨o0, o1, o2, o3⟩, t0, t1, t2, t3⟩ := Try.underFld
  rcases Go.Deep.open_slice Try.underlying47 hf with ⟨hcs, hx⟩ | ⟨x, n, cap, m, k, D, Pl, hcs, _, hl, hm, hz, hx, hcell⟩
  · simp only [List.cons.injEq, and_true] at hcs
    subst hcs
    exact ⟨_, _, _, [], rfl, ⟨none, 0, rfl, by simp, by omega, fun h => by simp at h⟩, fun f hf => by simp at hf⟩
  · simp only [List.cons.injEq, and_true] at hcs
    subst hcs
    rw [if_pos rfl] at hz
    subst hz
    unfold maxLen at hm
    have hel : ∀ i, i < n → ∃ f : Fld, (fits f ∧ (-9223372036854775808 ≤ f.n ∧ f.n ≤ 9223372036854775807)) ∧ W.cell? (x.add (i * 4)) = some (sv f.name) ∧ W.cell? (x.add (i * 4 + 1)) = some (.bool f.text) ∧ W.cell? (x.add (i * 4 + 2)) = some (.int .i64 f.n) ∧ W.cell? (x.add (i * 4 + 3)) = some (sv f.s) := by
      intro i hi
      obtain ⟨cs, q1, q2⟩ := hcell i (by omega)
      rw [Try.cellsFld] at q1
      obtain ⟨_, hlen, hc⟩ := World.cells?_some q1
      match cs, hlen with
      | [c0, c1, c2, c3], _ =>
        obtain ⟨xs, k', _, _, _, hxl, hfl⟩ := DataW.trod_struct hu q2
        match xs, hxl with
        | [x0, x1, x2, x3], _ =>
          have g0 := hfl 0 f0 rfl
          have g1 := hfl 1 f1 rfl
          have g2 := hfl 2 f2 rfl
          have g3 := hfl 3 f3 rfl
          rw [o0, t0, Try.cellsStr] at g0
          rw [o1, t1, Try.cellsBool] at g1
          rw [o2, t2, Try.cellsInt] at g2
          rw [o3, t3, Try.cellsStr] at g3
          obtain ⟨s0, e0, _, w0⟩ := DataW.trod_string Try.underlying9 g0
          obtain ⟨s1, e1, _⟩ := DataW.trod_bool Try.underlying4 g1
          obtain ⟨s2, e2, _, w2⟩ := DataW.trod_int Try.underlying3 g2
          have bn := bounds_i64 w2
          obtain ⟨s3, e3, _, w3⟩ := DataW.trod_string Try.underlying9 g3
          simp at e0 e1 e2 e3
          subst e0 e1 e2 e3
          unfold maxLen at w0 w3
          have l0 : s0.data.toList.length = s0.size := by rw [Array.length_toList]; rfl
          have l3 : s3.data.toList.length = s3.size := by rw [Array.length_toList]; rfl
          have k0 := hc 0 (by omega)
          have k1 := hc 1 (by omega)
          have k2 := hc 2 (by omega)
          have k3 := hc 3 (by omega)
          rw [Go.Deep.add_add] at k0 k1 k2 k3
          refine ⟨⟨s0.data.toList, s1, s2, s3.data.toList⟩, ⟨⟨by show s0.data.toList.length ≤ _; omega, by show s3.data.toList.length ≤ _; omega⟩, ⟨by show _ ≤ s2; omega, by show s2 ≤ _; omega⟩⟩, ?_, ?_, ?_, ?_⟩
          · rw [← str_list]; exact k0
          · exact k1
          · exact k2
          · rw [← str_list]; exact k3
    obtain ⟨F, hF⟩ := Go.Deep.choose_lt (α := Fld) hel
    have hlen : ((List.range n).map F).length = n := by simp
    refine ⟨some x, n, _, (List.range n).map F, rfl, ⟨some x, _, by rw [hlen], by rw [hlen]; exact hl, by omega, fun hz => ?_⟩, ?_⟩
    · rw [hlen] at hz
      have h0 := (hF 0 (by omega)).2.1
      have hsp := World.cell?_spot h0
      obtain ⟨b, off, sp⟩ := x
      have hsp' : sp = none := by
        cases sp with
        | none => rfl
        | some k => simp [Addr.add] at hsp
      subst hsp'
      refine ⟨b, off, rfl, ?_, fun i hi => ?_⟩
      · rw [addr_add] at h0
        exact World.block_lt_of_cell? W ⟨b, off + 0 * 4, none⟩ h0
      · have hi' : i < n := by rw [hlen] at hi; exact hi
        obtain ⟨_, q0, q1, q2, q3⟩ := hF i hi'
        rw [addr_add] at q0 q1 q2 q3
        have e : ((List.range n).map F)[i] = F i := by simp
        rw [e]
        exact ⟨q0, by rw [Nat.add_assoc]; exact q1, by rw [Nat.add_assoc]; exact q2, by rw [Nat.add_assoc]; exact q3⟩
    · intro f hf
      obtain ⟨i, hi, rfl⟩ := List.mem_map.1 hf
      exact (hF i (by simpa using hi)).1

theorem Try.underEv2 : ∃ f0 f1 f2, Try.prog.underlying 49 = some (.struct #[f0, f1, f2]) ∧ (f0.offset = 0 ∧ f1.offset = 1 ∧ f2.offset = 2) ∧ f0.type = 9 ∧ f1.type = 3 ∧ f2.type = 47 := ⟨_, _, _, Try.underlying49, ⟨rfl, rfl, rfl⟩, rfl, rfl, rfl⟩
theorem Try.cellsFds : Try.prog.cellsOf 47 = 1 := by kernel_rfl
theorem Try.cellsEvs : Try.prog.cellsOf 31 = 1 := by kernel_rfl

instance : Inhabited Evn := ⟨⟨[], 0, []⟩⟩

set_option maxRecDepth 100000 in
theorem open_events {H : Type} {enc : TypeId × Value → H} {W : World} {v : Value} {y : DataW H × List MemPlace} {fuel : Nat}
    (hf : DataW.trod enc Try.prog W 0 (fun _ => true) true fuel 31 [v] = some y) : ∃ a n c es, v = .slice a n c ∧ EvL W (.slice a n c) es ∧ ∀ e ∈ es, fitE e := by
  obtain ⟨f0, f1, f2, hu, ⟨o0, o1, o2⟩, t0, t1, t2⟩ := Try.underEv2
  rcases Go.Deep.open_slice Try.underlying31 hf with ⟨hcs, hx⟩ | ⟨x, n, cap, m, k, D, Pl, hcs, _, hl, hm, hz, hx, hcell⟩
  · simp only [List.cons.injEq, and_true] at hcs
    subst hcs
    exact ⟨_, _, _, [], rfl, ⟨none, 0, rfl, by simp, by omega, fun h => by simp at h⟩, fun f hf => by simp at hf⟩
  · simp only [List.cons.injEq, and_true] at hcs
    subst hcs
    rw [if_pos rfl] at hz
    subst hz
    unfold maxLen at hm
    have hel : ∀ i, i < n → ∃ e : Evn, fitE e ∧ W.cell? (x.add (i * 3)) = some (sv e.type) ∧ W.cell? (x.add (i * 3 + 1)) = some (.int .i64 e.ver) ∧ ∃ a' n' c', W.cell? (x.add (i * 3 + 2)) = some (.slice a' n' c') ∧ FdL W (.slice a' n' c') e.fields := by
      intro i hi
      obtain ⟨cs, q1, q2⟩ := hcell i (by omega)
      rw [Try.cellsEv] at q1
      obtain ⟨_, hlen, hc⟩ := World.cells?_some q1
      match cs, hlen with
      | [c0, c1, c2], _ =>
        obtain ⟨xs, k', _, _, _, hxl, hfl⟩ := DataW.trod_struct hu q2
        match xs, hxl with
        | [x0, x1, x2], _ =>
          have g0 := hfl 0 f0 rfl
          have g1 := hfl 1 f1 rfl
          have g2 := hfl 2 f2 rfl
          rw [o0, t0, Try.cellsStr] at g0
          rw [o1, t1, Try.cellsInt] at g1
          rw [o2, t2, Try.cellsFds] at g2
          obtain ⟨s0, e0, _, w0⟩ := DataW.trod_string Try.underlying9 g0
          obtain ⟨s1, e1, _, _⟩ := DataW.trod_int Try.underlying3 g1
          simp at e0 e1
          subst e0 e1
          simp at g2
          obtain ⟨a', n', c', fs, rfl, h1, h2⟩ := open_fields g2
          unfold maxLen at w0
          have l0 : s0.data.toList.length = s0.size := by rw [Array.length_toList]; rfl
          have k0 := hc 0 (by omega)
          have k1 := hc 1 (by omega)
          have k2 := hc 2 (by omega)
          rw [Go.Deep.add_add] at k0 k1 k2
          refine ⟨⟨s0.data.toList, s1, fs⟩, ⟨by show s0.data.toList.length ≤ _; omega, fun f hf => (h2 f hf).1⟩, ?_, ?_, a', n', c', ?_, h1⟩
          · rw [← str_list]; exact k0
          · exact k1
          · exact k2
    obtain ⟨F, hF⟩ := Go.Deep.choose_lt (α := Evn) hel
    have hlen : ((List.range n).map F).length = n := by simp
    refine ⟨some x, n, _, (List.range n).map F, rfl, ⟨some x, _, by rw [hlen], by rw [hlen]; exact hl, by omega, fun hz => ?_⟩, ?_⟩
    · rw [hlen] at hz
      have h0 := (hF 0 (by omega)).2.1
      have hsp := World.cell?_spot h0
      obtain ⟨b, off, sp⟩ := x
      have hsp' : sp = none := by
        cases sp with
        | none => rfl
        | some k => simp [Addr.add] at hsp
      subst hsp'
      refine ⟨b, off, rfl, ?_, fun i hi => ?_⟩
      · rw [addr_add] at h0
        exact World.block_lt_of_cell? W ⟨b, off + 0 * 3, none⟩ h0
      · have hi' : i < n := by rw [hlen] at hi; exact hi
        obtain ⟨_, q0, q1, a', n', c', q2, q3⟩ := hF i hi'
        rw [addr_add] at q0 q1 q2
        have e : ((List.range n).map F)[i] = F i := by simp
        rw [e]
        exact ⟨q0, by rw [Nat.add_assoc]; exact q1, a', n', c', by rw [Nat.add_assoc]; exact q2, q3⟩
    · intro f hf
      obtain ⟨i, hi, rfl⟩ := List.mem_map.1 hf
      exact (hF i (by simpa using hi)).1

theorem open_evs {H : Type} {enc : TypeId × Value → H} {W : World} {a : Option Addr} {n c : Nat} {d : DataW H} {p : List MemPlace} (h : DataW.Trod enc Try.prog W 0 (fun _ => true) true 31 (.slice a n c) d p) : ∃ es, EvL W (.slice a n c) es ∧ ∀ e ∈ es, fitE e := by
  obtain ⟨fuel, hf⟩ := h
  obtain ⟨a', n', c', es, e, h1, h2⟩ := open_events (v := .slice a n c) (y := (d, p)) (fuel := fuel) (by simpa [Value.cells] using hf)
  cases e
  exact ⟨es, h1, h2⟩

/-- A call of a law on streams, as it reads. -/
structure SCl where
  stream : List UInt8
  key : List UInt8
  evs : List Evn
instance : Inhabited SCl := ⟨⟨[], [], []⟩⟩
structure SClAt (w : World) (b o : Nat) (c : SCl) : Prop where
  c1 : w.cell? ⟨b, o + 1, none⟩ = some (sv c.stream)
  c2 : w.cell? ⟨b, o + 2, none⟩ = some (sv c.key)
  c5 : ∃ a n cp, w.cell? ⟨b, o + 5, none⟩ = some (.slice a n cp) ∧ EvL w (.slice a n cp) c.evs
  s1 : c.stream.length ≤ maxLen
  s2 : c.key.length ≤ maxLen
  fit : ∀ e ∈ c.evs, fitE e
/-- A slice of calls. -/
def SClL (w : World) (v : Value) (l : List SCl) : Prop :=
  ∃ ao cap, v = .slice ao l.length cap ∧ l.length ≤ 9223372036854775807 ∧ (0 < l.length → ∃ b off, ao = some ⟨b, off, none⟩ ∧ b < w.heap.size ∧ ∀ i, (h : i < l.length) → SClAt w b (off + i * 10) l[i])
theorem Try.cellsSCall : Try.prog.cellsOf 35 = 10 := by kernel_rfl
theorem Try.underSCall : ∃ f0 f1 f2 f3 f4 f5 f6, Try.prog.underlying 35 = some (.struct #[f0, f1, f2, f3, f4, f5, f6]) ∧ (f1.offset = 1 ∧ f2.offset = 2 ∧ f5.offset = 5) ∧ f1.type = 9 ∧ f2.type = 9 ∧ f5.type = 31 := ⟨_, _, _, _, _, _, _, Try.underlying35, ⟨rfl, rfl, rfl⟩, rfl, rfl, rfl⟩

set_option maxRecDepth 100000 in
theorem open_scalls {H : Type} {enc : TypeId × Value → H} {W : World} {a : Option Addr} {n c : Nat} {d : DataW H} {p : List MemPlace}
    (h : DataW.Trod enc Try.prog W 0 (fun _ => true) true 22 (.slice a n c) d p) : ∃ l : List SCl, SClL W (.slice a n c) l := by
  obtain ⟨fuel, hf⟩ := h
  obtain ⟨f0, f1, f2, f3, f4, f5, f6, hu, ⟨o1, o2, o5⟩, t1, t2, t5⟩ := Try.underSCall
  rcases Go.Deep.open_slice Try.underlying22 hf with ⟨hcs, hx⟩ | ⟨x, n', cap, m, k, D, Pl, hcs, _, hl, hm, hz, hx, hcell⟩
  · simp [Value.cells] at hcs
    obtain ⟨rfl, rfl, rfl⟩ := hcs
    exact ⟨[], none, 0, rfl, by simp, fun h => by simp at h⟩
  · simp [Value.cells] at hcs
    obtain ⟨rfl, rfl, rfl⟩ := hcs
    rw [if_pos rfl] at hz
    subst hz
    have hm' := hm
    unfold maxLen at hm
    have hel : ∀ i, i < n → ∃ e : SCl, (∃ v0, W.cell? (x.add (i * 10)) = some v0) ∧ e.stream.length ≤ maxLen ∧ e.key.length ≤ maxLen ∧ (∀ g ∈ e.evs, fitE g) ∧ W.cell? (x.add (i * 10 + 1)) = some (sv e.stream) ∧ W.cell? (x.add (i * 10 + 2)) = some (sv e.key) ∧ ∃ a n cp, W.cell? (x.add (i * 10 + 5)) = some (.slice a n cp) ∧ EvL W (.slice a n cp) e.evs := by
      intro i hi
      obtain ⟨cs, q1, q2⟩ := hcell i (by omega)
      rw [Try.cellsSCall] at q1
      obtain ⟨_, hlen, hc⟩ := World.cells?_some q1
      match cs, hlen with
      | [c0, c1, c2, c3, c4, c5, c6, c7, c8, c9], _ =>
        obtain ⟨xs, k', _, hDx, _, hxl, hfl⟩ := DataW.trod_struct hu q2
        match xs, hxl with
        | [x0, x1, x2, x3, x4, x5, x6], _ =>
          have g1 := hfl 1 f1 rfl
          have g2 := hfl 2 f2 rfl
          have g5 := hfl 5 f5 rfl
          rw [o1, t1, Try.cellsStr] at g1
          rw [o2, t2, Try.cellsStr] at g2
          rw [o5, t5, Try.cellsEvs] at g5
          obtain ⟨s1, e1, _, w1⟩ := DataW.trod_string Try.underlying9 g1
          obtain ⟨s2, e2, _, w2⟩ := DataW.trod_string Try.underlying9 g2
          simp at e1 e2
          subst e1 e2
          simp at g5
          obtain ⟨a', n', c', es, rfl, h1, h2⟩ := open_events g5
          have l1 : s1.data.toList.length = s1.size := by rw [Array.length_toList]; rfl
          have l2 : s2.data.toList.length = s2.size := by rw [Array.length_toList]; rfl
          have k0 := hc 0 (by omega)
          have k1 := hc 1 (by omega)
          have k2 := hc 2 (by omega)
          have k5 := hc 5 (by omega)
          rw [Go.Deep.add_add] at k0 k1 k2 k5
          refine ⟨⟨s1.data.toList, s2.data.toList, es⟩, ⟨_, k0⟩, by show s1.data.toList.length ≤ _; omega, by show s2.data.toList.length ≤ _; omega, h2, ?_, ?_, a', n', c', ?_, h1⟩
          · rw [← str_list]; exact k1
          · rw [← str_list]; exact k2
          · exact k5
    obtain ⟨F, hF⟩ := Go.Deep.choose_lt (α := SCl) hel
    have hlen : ((List.range n).map F).length = n := by simp
    refine ⟨(List.range n).map F, some x, _, by rw [hlen], by rw [hlen]; omega, fun hz => ?_⟩
    rw [hlen] at hz
    obtain ⟨v0, h0⟩ := (hF 0 (by omega)).1
    have hsp := World.cell?_spot h0
    obtain ⟨b, off, sp⟩ := x
    have hsp' : sp = none := by
      cases sp with
      | none => rfl
      | some k => simp [Addr.add] at hsp
    subst hsp'
    refine ⟨b, off, rfl, ?_, fun i hi => ?_⟩
    · rw [addr_add] at h0
      exact World.block_lt_of_cell? W ⟨b, off + 0 * 10, none⟩ h0
    · have hi' : i < n := by rw [hlen] at hi; exact hi
      obtain ⟨_, q0, q1, q2, q3, q4, a', n', c', q5, q6⟩ := hF i hi'
      rw [addr_add] at q3 q4 q5
      have e : ((List.range n).map F)[i] = F i := by simp
      rw [e]
      exact ⟨by rw [Nat.add_assoc]; exact q3, by rw [Nat.add_assoc]; exact q4, ⟨a', n', c', by rw [Nat.add_assoc]; exact q5, q6⟩, q0, q1, q2⟩

theorem SClL.below {w w' : World} {v : Value} {l : List SCl} (h : SClL w v l) (hb : Below w.heap.size w w') : SClL w' v l := by
  obtain ⟨ao, cap, rfl, h1, h4⟩ := h
  refine ⟨ao, cap, rfl, h1, fun hz => ?_⟩
  obtain ⟨b, off, e, hlt, hc⟩ := h4 hz
  refine ⟨b, off, e, by have := hb.size; omega, fun i hi => ?_⟩
  obtain ⟨c1, c2, ⟨a, n, cp, c5, c6⟩, s1, s2, fit⟩ := hc i hi
  exact ⟨(hb.cell (p := ⟨b, off + i * 10 + 1, none⟩) hlt).trans c1, (hb.cell (p := ⟨b, off + i * 10 + 2, none⟩) hlt).trans c2, ⟨a, n, cp, (hb.cell (p := ⟨b, off + i * 10 + 5, none⟩) hlt).trans c5, c6.below hb (Nat.le_refl _)⟩, s1, s2, fit⟩
end Go.Proofs.Ytabcmmhmghgliaa
