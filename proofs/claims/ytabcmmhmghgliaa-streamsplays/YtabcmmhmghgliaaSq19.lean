/-
  DERIVED. How the calls of StreamsPlays are opened, and how much they may weigh.
-/
import Derived.Test.YtabcmmhmghgliaaSq18
import Derived.Test.YtabcmmhmghgliaaXopen2
namespace Go.Proofs.Ytabcmmhmghgliaa
open Go.ChangeShapes Go.WideShapes Go.ChangeAt Go.RowKit
set_option linter.unusedVariables false

theorem weightsAll_mem {H : Type} {P : Program} {e : TypeId} {d : DataW H} {n : Nat} : ∀ {l : List (DataW H)}, d ∈ l → n ∈ d.weights P e → n ∈ DataW.weightsAll P e l
  | x :: l, h, hn => by
    simp only [DataW.weightsAll, List.mem_append]
    rcases List.mem_cons.1 h with rfl | h
    · exact .inl hn
    · exact .inr (weightsAll_mem h hn)
theorem Try.bytesFld : Try.prog.bytesOf 73 = 48 := by kernel_rfl
theorem Try.bytesEv : Try.prog.bytesOf 49 = 48 := by kernel_rfl
theorem open_fieldsB {H : Type} {enc : TypeId × Value → H} {W : World} {v : Value} {y : DataW H × List MemPlace} {fuel : Nat}
    (hf : DataW.trod enc Try.prog W 0 (fun _ => true) true fuel 47 [v] = some y) : ∃ a n c fs, v = .slice a n c ∧ FdL W (.slice a n c) fs ∧ (∀ f ∈ fs, fits f ∧ (-9223372036854775808 ≤ f.n ∧ f.n ≤ 9223372036854775807)) ∧ ∀ B, (∀ x ∈ y.1.weights Try.prog 47, x ≤ B) → fs.length * 48 ≤ B := by
  obtain ⟨a, n, c, fs, rfl, h1, h2⟩ := open_fields hf
  refine ⟨a, n, c, fs, rfl, h1, h2, fun B hB => ?_⟩
  have hl : n = fs.length := by obtain ⟨_, _, e, _⟩ := h1; injection e with e1 e2 e3
  rcases Go.Deep.open_slice Try.underlying47 hf with ⟨hcs, hx⟩ | ⟨x, n', cap, m, k, D, Pl, hcs, _, hln, hm, hz, hx, hcell⟩
  · simp at hcs
    omega
  · simp at hcs
    obtain ⟨_, rfl, _⟩ := hcs
    have hw := hB ((((List.range n).map D).length + ((List.range (m - n)).map fun j => D (n + j)).length) * Try.prog.bytesOf 73) (by rw [hx]; simp [DataW.weights, Try.underlying47])
    rw [Try.bytesFld] at hw
    simp at hw
    omega

set_option maxRecDepth 100000 in
theorem open_eventsB {H : Type} {enc : TypeId × Value → H} {W : World} {v : Value} {y : DataW H × List MemPlace} {fuel : Nat}
    (hf : DataW.trod enc Try.prog W 0 (fun _ => true) true fuel 31 [v] = some y) : ∃ a n c es, v = .slice a n c ∧ EvL W (.slice a n c) es ∧ (∀ e ∈ es, fitE e) ∧ ∀ B, (∀ x ∈ y.1.weights Try.prog 31, x ≤ B) → es.length * 48 ≤ B ∧ ∀ e ∈ es, e.fields.length * 48 ≤ B := by
  obtain ⟨f0, f1, f2, hu, ⟨o0, o1, o2⟩, t0, t1, t2⟩ := Try.underEv2
  rcases Go.Deep.open_slice Try.underlying31 hf with ⟨hcs, hx⟩ | ⟨x, n, cap, m, k, D, Pl, hcs, _, hl, hm, hz, hx, hcell⟩
  · simp only [List.cons.injEq, and_true] at hcs
    subst hcs
    exact ⟨_, _, _, [], rfl, ⟨none, 0, rfl, by simp, by omega, fun h => by simp at h⟩, fun f hf => by simp at hf, fun B _ => ⟨by simp, fun e he => by simp at he⟩⟩
  · simp only [List.cons.injEq, and_true] at hcs
    subst hcs
    rw [if_pos rfl] at hz
    subst hz
    unfold maxLen at hm
    have hel : ∀ i, i < n → ∃ e : Evn, (fitE e ∧ ∀ B, (∀ x ∈ (D i).weights Try.prog 49, x ≤ B) → e.fields.length * 48 ≤ B) ∧ W.cell? (x.add (i * 3)) = some (sv e.type) ∧ W.cell? (x.add (i * 3 + 1)) = some (.int .i64 e.ver) ∧ ∃ a' n' c', W.cell? (x.add (i * 3 + 2)) = some (.slice a' n' c') ∧ FdL W (.slice a' n' c') e.fields := by
      intro i hi
      obtain ⟨cs, q1, q2⟩ := hcell i (by omega)
      rw [Try.cellsEv] at q1
      obtain ⟨_, hlen, hc⟩ := World.cells?_some q1
      match cs, hlen with
      | [c0, c1, c2], _ =>
        obtain ⟨xs, k', _, hDx, _, hxl, hfl⟩ := DataW.trod_struct hu q2
        match xs, hxl with
        | [x0, x1, x2], _ =>
          have g0 := hfl 0 f0 rfl
          have g1 := hfl 1 f1 rfl
          have g2 := hfl 2 f2 rfl
          rw [o0, t0, Try.cellsStr] at g0
          rw [o1, t1, Try.cellsInt] at g1
          rw [o2, t2, Try.cellsFds] at g2
          obtain ⟨s0, e0, _, w0⟩ := DataW.trod_string Try.underlying9 g0
          obtain ⟨s1, e1, _, _⟩ := DataW.trod_int Try.underlying3 g1
          simp at e0 e1
          subst e0 e1
          simp at g2
          obtain ⟨a', n', c', fs, rfl, h1, h2, hb2⟩ := open_fieldsB g2
          have hDi : D i = .agg [x0.1, x1.1, x2.1] := by simpa using congrArg Prod.fst hDx
          have hbd : ∀ B, (∀ x ∈ (D i).weights Try.prog 49, x ≤ B) → fs.length * 48 ≤ B := by
            intro B hB
            refine hb2 B fun x hx => hB x ?_
            rw [hDi]
            simp only [DataW.weights, hu, DataW.weightsEach, List.map_cons, t2, List.mem_append]
            exact .inr (.inr (.inl hx))
          unfold maxLen at w0
          have l0 : s0.data.toList.length = s0.size := by rw [Array.length_toList]; rfl
          have k0 := hc 0 (by omega)
          have k1 := hc 1 (by omega)
          have k2 := hc 2 (by omega)
          rw [Go.Deep.add_add] at k0 k1 k2
          refine ⟨⟨s0.data.toList, s1, fs⟩, ⟨⟨by show s0.data.toList.length ≤ _; omega, fun f hf => (h2 f hf).1⟩, hbd⟩, ?_, ?_, a', n', c', ?_, h1⟩
          · rw [← str_list]; exact k0
          · exact k1
          · exact k2
    obtain ⟨F, hF⟩ := Go.Deep.choose_lt (α := Evn) hel
    have hlen : ((List.range n).map F).length = n := by simp
    refine ⟨some x, n, _, (List.range n).map F, rfl, ⟨some x, _, by rw [hlen], by rw [hlen]; exact hl, by omega, fun hz => ?_⟩, ?_, ?_⟩
    · rw [hlen] at hz
      have h0 := (hF 0 (by omega)).2.1
      have hsp := World.cell?_spot h0
      obtain ⟨b, off, sp⟩ := x
      have hsp' : sp = none := by
        cases sp with
        | none => rfl
        | some k => simp [Addr.add] at hsp
      subst hsp'
      refine ⟨b, off, rfl, ?_, fun i hi => ?_⟩
      · rw [addr_add] at h0
        exact World.block_lt_of_cell? W ⟨b, off + 0 * 3, none⟩ h0
      · have hi' : i < n := by rw [hlen] at hi; exact hi
        obtain ⟨_, q0, q1, a', n', c', q2, q3⟩ := hF i hi'
        rw [addr_add] at q0 q1 q2
        have e : ((List.range n).map F)[i] = F i := by simp
        rw [e]
        exact ⟨q0, by rw [Nat.add_assoc]; exact q1, a', n', c', by rw [Nat.add_assoc]; exact q2, q3⟩
    · intro f hf
      obtain ⟨i, hi, rfl⟩ := List.mem_map.1 hf
      exact (hF i (by simpa using hi)).1.1
    · intro B hB
      have hw := hB ((((List.range n).map D).length + ((List.range (m - n)).map fun j => D (n + j)).length) * Try.prog.bytesOf 49) (by rw [hx]; simp [DataW.weights, Try.underlying31])
      rw [Try.bytesEv] at hw
      simp at hw
      refine ⟨by rw [hlen]; omega, fun e he => ?_⟩
      obtain ⟨i, hi, rfl⟩ := List.mem_map.1 he
      have hi' : i < n := by simpa using hi
      refine (hF i hi').1.2 B fun z hz => hB z ?_
      rw [hx]
      simp only [DataW.weights, Try.underlying31, List.mem_cons, List.mem_append]
      exact .inr (.inl (weightsAll_mem (List.mem_map.2 ⟨i, List.mem_range.2 hi', rfl⟩) hz))


theorem Try.underBatch : ∃ f0 f1 f2 f3, Try.prog.underlying 33 = some (.struct #[f0, f1, f2, f3]) ∧ (f0.offset = 0 ∧ f1.offset = 1 ∧ f2.offset = 2 ∧ f3.offset = 3) ∧ f0.type = 9 ∧ f1.type = 9 ∧ f2.type = 3 ∧ f3.type = 31 := ⟨_, _, _, _, Try.underlying33, ⟨rfl, rfl, rfl, rfl⟩, rfl, rfl, rfl, rfl⟩
theorem Try.cellsBatch : Try.prog.cellsOf 33 = 4 := by kernel_rfl
theorem Try.underPCall : ∃ f0 f1 f2 f3 f4 f5 f6, Try.prog.underlying 35 = some (.struct #[f0, f1, f2, f3, f4, f5, f6]) ∧ (f0.offset = 0 ∧ f1.offset = 1 ∧ f2.offset = 2 ∧ f3.offset = 3 ∧ f4.offset = 4 ∧ f5.offset = 5 ∧ f6.offset = 6) ∧ f0.type = 3 ∧ f1.type = 9 ∧ f2.type = 9 ∧ f3.type = 3 ∧ f4.type = 3 ∧ f5.type = 31 ∧ f6.type = 33 := ⟨_, _, _, _, _, _, _, Try.underlying35, ⟨rfl, rfl, rfl, rfl, rfl, rfl, rfl⟩, rfl, rfl, rfl, rfl, rfl, rfl, rfl⟩
instance : Inhabited PCl := ⟨⟨0, [], [], 0, 0, none, 0, 0, [], [], [], 0, none, 0, 0, []⟩⟩
/-- Events, as they are opened. -/
def EvB (W : World) (B : Nat) (a : Option Addr) (n c : Nat) (es : List Evn) : Prop := EvL W (.slice a n c) es ∧ (∀ e ∈ es, fitE e) ∧ es.length * 48 ≤ B ∧ ∀ e ∈ es, e.fields.length * 48 ≤ B

set_option maxRecDepth 100000 in
set_option maxHeartbeats 2000000 in
theorem open_pcalls {H : Type} {enc : TypeId × Value → H} {W : World} {a : Option Addr} {n c : Nat} {d : DataW H} {p : List MemPlace}
    (h : DataW.Trod enc Try.prog W 0 (fun _ => true) true 22 (.slice a n c) d p) (hB : ∀ x ∈ d.weights Try.prog 22, x ≤ 140737488351232) : ∃ l : List PCl, PClL W (.slice a n c) l := by
  obtain ⟨fuel, hf⟩ := h
  obtain ⟨f0, f1, f2, f3, f4, f5, f6, hu, ⟨o0, o1, o2, o3, o4, o5, o6⟩, t0, t1, t2, t3, t4, t5, t6⟩ := Try.underPCall
  obtain ⟨g0, g1, g2, g3, hub, ⟨p0, p1, p2, p3⟩, u0, u1, u2, u3⟩ := Try.underBatch
  rcases Go.Deep.open_slice Try.underlying22 hf with ⟨hcs, hx⟩ | ⟨x, n', cap, m, k, D, Pl, hcs, _, hl, hm, hz, hx, hcell⟩
  · simp [Value.cells] at hcs
    obtain ⟨rfl, rfl, rfl⟩ := hcs
    exact ⟨[], none, 0, rfl, by simp, fun h => by simp at h⟩
  · simp [Value.cells] at hcs
    obtain ⟨rfl, rfl, rfl⟩ := hcs
    rw [if_pos rfl] at hz
    subst hz
    have hm' := hm
    unfold maxLen at hm
    have hel : ∀ i, i < n → ∃ e : PCl, W.cell? (x.add (i * 10)) = some (.int .i64 e.kd) ∧ W.cell? (x.add (i * 10 + 1)) = some (sv e.s) ∧ W.cell? (x.add (i * 10 + 2)) = some (sv e.k) ∧ W.cell? (x.add (i * 10 + 3)) = some (.int .i64 e.n) ∧ W.cell? (x.add (i * 10 + 4)) = some (.int .i64 e.m) ∧ W.cell? (x.add (i * 10 + 5)) = some (.slice e.ea e.en e.ec) ∧ W.cell? (x.add (i * 10 + 6)) = some (sv e.bs) ∧ W.cell? (x.add (i * 10 + 7)) = some (sv e.bk) ∧ W.cell? (x.add (i * 10 + 8)) = some (.int .i64 e.bf) ∧ W.cell? (x.add (i * 10 + 9)) = some (.slice e.ba e.bn e.bc) ∧ PClOk W e := by
      intro i hi
      obtain ⟨cs, q1, q2⟩ := hcell i (by omega)
      rw [Try.cellsSCall] at q1
      obtain ⟨_, hlen, hc⟩ := World.cells?_some q1
      match cs, hlen with
      | [c0, c1, c2, c3, c4, c5, c6, c7, c8, c9], _ =>
        obtain ⟨xs, k', _, hDx, _, hxl, hfl⟩ := DataW.trod_struct hu q2
        match xs, hxl with
        | [x0, x1, x2, x3, x4, x5, x6], _ =>
          have r0 := hfl 0 f0 rfl
          have r1 := hfl 1 f1 rfl
          have r2 := hfl 2 f2 rfl
          have r3 := hfl 3 f3 rfl
          have r4 := hfl 4 f4 rfl
          have r5 := hfl 5 f5 rfl
          have r6 := hfl 6 f6 rfl
          rw [o0, t0, Try.cellsInt] at r0
          rw [o1, t1, Try.cellsStr] at r1
          rw [o2, t2, Try.cellsStr] at r2
          rw [o3, t3, Try.cellsInt] at r3
          rw [o4, t4, Try.cellsInt] at r4
          rw [o5, t5, Try.cellsEvs] at r5
          rw [o6, t6, Try.cellsBatch] at r6
          obtain ⟨s0, e0, _, _⟩ := DataW.trod_int Try.underlying3 r0
          obtain ⟨s1, e1, _, w1⟩ := DataW.trod_string Try.underlying9 r1
          obtain ⟨s2, e2, _, w2⟩ := DataW.trod_string Try.underlying9 r2
          obtain ⟨s3, e3, _, w3⟩ := DataW.trod_int Try.underlying3 r3
          obtain ⟨s4, e4, _, w4⟩ := DataW.trod_int Try.underlying3 r4
          simp at e0 e1 e2 e3 e4
          subst e0 e1 e2 e3 e4
          simp at r5
          obtain ⟨a', n', c', es, rfl, h1, h2, h3⟩ := open_eventsB r5
          simp at r6
          obtain ⟨zs, k'', _, hDz, _, hzl, hzf⟩ := DataW.trod_struct hub r6
          match zs, hzl with
          | [z0, z1, z2, z3], _ =>
            have v0 := hzf 0 g0 rfl
            have v1 := hzf 1 g1 rfl
            have v2 := hzf 2 g2 rfl
            have v3 := hzf 3 g3 rfl
            rw [p0, u0, Try.cellsStr] at v0
            rw [p1, u1, Try.cellsStr] at v1
            rw [p2, u2, Try.cellsInt] at v2
            rw [p3, u3, Try.cellsEvs] at v3
            obtain ⟨s6, e6, _, w6⟩ := DataW.trod_string Try.underlying9 v0
            obtain ⟨s7, e7, _, w7⟩ := DataW.trod_string Try.underlying9 v1
            obtain ⟨s8, e8, _, _⟩ := DataW.trod_int Try.underlying3 v2
            simp at e6 e7 e8
            subst e6 e7 e8
            simp at v3
            obtain ⟨a2, n2, c2', be, rfl, b1, b2, b3⟩ := open_eventsB v3
            have hDi : D i = .agg [x0.1, x1.1, x2.1, x3.1, x4.1, x5.1, x6.1] := by simpa using congrArg Prod.fst hDx
            have hD6 : x6.1 = .agg [z0.1, z1.1, z2.1, z3.1] := by simpa using congrArg Prod.fst hDz
            have hwt : ∀ z ∈ (D i).weights Try.prog 35, z ≤ 140737488351232 := fun z hzz => hB z (by
              rw [show d = _ from congrArg Prod.fst hx]
              simp only [DataW.weights, Try.underlying22, List.mem_cons, List.mem_append]
              exact .inr (.inl (weightsAll_mem (List.mem_map.2 ⟨i, List.mem_range.2 hi, rfl⟩) hzz)))
            obtain ⟨h4, h5⟩ := h3 140737488351232 (fun z hzz => hwt z (by
              rw [hDi]
              simp only [DataW.weights, hu, DataW.weightsEach, List.map_cons, t5, List.mem_append]
              exact .inr (.inr (.inr (.inr (.inr (.inl hzz)))))))
            obtain ⟨b4, b5⟩ := b3 140737488351232 (fun z hzz => hwt z (by
              rw [hDi]
              simp only [DataW.weights, hu, DataW.weightsEach, List.map_cons, t6, List.mem_append]
              refine .inr (.inr (.inr (.inr (.inr (.inr (.inl ?_))))))
              rw [hD6]
              simp only [DataW.weights, hub, DataW.weightsEach, List.map_cons, u3, List.mem_append]
              exact .inr (.inr (.inr (.inl hzz)))))
            have bn3 := bounds_i64 w3
            have bn4 := bounds_i64 w4
            have l1 : s1.data.toList.length = s1.size := by rw [Array.length_toList]; rfl
            have l2 : s2.data.toList.length = s2.size := by rw [Array.length_toList]; rfl
            have l6 : s6.data.toList.length = s6.size := by rw [Array.length_toList]; rfl
            have l7 : s7.data.toList.length = s7.size := by rw [Array.length_toList]; rfl
            have k0 := hc 0 (by omega)
            have k1 := hc 1 (by omega)
            have k2 := hc 2 (by omega)
            have k3 := hc 3 (by omega)
            have k4 := hc 4 (by omega)
            have k5 := hc 5 (by omega)
            have k6 := hc 6 (by omega)
            have k7 := hc 7 (by omega)
            have k8 := hc 8 (by omega)
            have k9 := hc 9 (by omega)
            rw [Go.Deep.add_add] at k0 k1 k2 k3 k4 k5 k6 k7 k8 k9
            refine ⟨⟨s0, s1.data.toList, s2.data.toList, s3, s4, a', n', c', es, s6.data.toList, s7.data.toList, s8, a2, n2, c2', be⟩, k0, ?_, ?_, k3, k4, k5, ?_, ?_, k8, k9, ⟨by show s1.data.toList.length ≤ _; omega, by show s2.data.toList.length ≤ _; omega, ⟨by simp only; omega, by simp only; omega⟩, ⟨by simp only; omega, by simp only; omega⟩, ⟨h1, h2, h4, h5⟩, by show s6.data.toList.length ≤ _; omega, by show s7.data.toList.length ≤ _; omega, ⟨b1, b2, b4, b5⟩⟩⟩
            · rw [← str_list]; exact k1
            · rw [← str_list]; exact k2
            · rw [← str_list]; exact k6
            · rw [← str_list]; exact k7
    obtain ⟨F, hF⟩ := Go.Deep.choose_lt (α := PCl) hel
    have hlen : ((List.range n).map F).length = n := by simp
    refine ⟨(List.range n).map F, some x, _, by rw [hlen], by rw [hlen]; omega, fun hz => ?_⟩
    rw [hlen] at hz
    have h0 := (hF 0 (by omega)).1
    have hsp := World.cell?_spot h0
    obtain ⟨b, off, sp⟩ := x
    have hsp' : sp = none := by
      cases sp with
      | none => rfl
      | some k => simp [Addr.add] at hsp
    subst hsp'
    refine ⟨b, off, rfl, fun i hi => ?_⟩
    have hi' : i < n := by rw [hlen] at hi; exact hi
    obtain ⟨q0, q1, q2, q3, q4, q5, q6, q7, q8, q9, q10⟩ := hF i hi'
    rw [addr_add] at q0 q1 q2 q3 q4 q5 q6 q7 q8 q9
    have e : ((List.range n).map F)[i] = F i := by simp
    rw [e]
    simp only [← Nat.add_assoc] at q1 q2 q3 q4 q5 q6 q7 q8 q9
    exact ⟨q0, q1, q2, q3, q4, q5, q6, q7, q8, q9, q10⟩
end Go.Proofs.Ytabcmmhmghgliaa
