/-
  DERIVED. The walk of SameEntries, where both are alike.
-/
import Derived.Test.YtabcmmhmghgliaaXsame
namespace Go.Proofs.Ytabcmmhmghgliaa
open Go.RowKit Go.Maps
set_option linter.unusedVariables false

/-- A slice of entries that reads as these, each with its place. -/
def EnL (w : World) (v : Value) (es : List (Nat × Ent)) : Prop :=
  ∃ ao cap, v = .slice ao es.length cap ∧ es.length ≤ cap ∧ cap ≤ 9223372036854775807 ∧ (es.length ≠ 0 → ∃ b off, ao = some ⟨b, off, none⟩ ∧ b < w.heap.size ∧ ∀ i, (h : i < es.length) →
    w.cell? ⟨b, off + i * 6, none⟩ = some (natV es[i].1) ∧ w.cell? ⟨b, off + i * 6 + 1, none⟩ = some (sv es[i].2.s) ∧ w.cell? ⟨b, off + i * 6 + 2, none⟩ = some (natV es[i].2.num) ∧ w.cell? ⟨b, off + i * 6 + 3, none⟩ = some (sv es[i].2.e.type) ∧ w.cell? ⟨b, off + i * 6 + 4, none⟩ = some (.int .i64 es[i].2.e.ver) ∧ ∃ a n c, w.cell? ⟨b, off + i * 6 + 5, none⟩ = some (.slice a n c) ∧ FdL w (.slice a n c) es[i].2.e.fields)
theorem EnL.below {w w' : World} {v : Value} {es : List (Nat × Ent)} (h : EnL w v es) (hb : Below w.heap.size w w') : EnL w' v es := by
  obtain ⟨ao, cap, e, h1, h2, h3⟩ := h
  refine ⟨ao, cap, e, h1, h2, fun hz => ?_⟩
  obtain ⟨b, off, rfl, hlt, hc⟩ := h3 hz
  refine ⟨b, off, rfl, Nat.lt_of_lt_of_le hlt hb.size, fun i hi => ?_⟩
  obtain ⟨c0, c1, c2, c3, c4, a, n, c, c5, c6⟩ := hc i hi
  exact ⟨(hb.cell (p := ⟨b, off + i * 6, none⟩) hlt).trans c0, (hb.cell (p := ⟨b, off + i * 6 + 1, none⟩) hlt).trans c1, (hb.cell (p := ⟨b, off + i * 6 + 2, none⟩) hlt).trans c2, (hb.cell (p := ⟨b, off + i * 6 + 3, none⟩) hlt).trans c3, (hb.cell (p := ⟨b, off + i * 6 + 4, none⟩) hlt).trans c4, a, n, c, (hb.cell (p := ⟨b, off + i * 6 + 5, none⟩) hlt).trans c5, c6.below hb (Nat.le_refl _)⟩
theorem EnBlk.enl {w : World} {q n : Nat} {zs : List Eno} (h : EnBlk w q n zs) (hn : zs.length = n) (hm : n ≤ 9223372036854775807) : EnL w (.slice (some ⟨q, 0, none⟩) n n) (zs.map fun z => (z.pos, z.e)) := by
  have hl := h.lt
  obtain ⟨⟨cs, h1, h2, h3, h4⟩, h5⟩ := h
  have hlen : (zs.map fun z => (z.pos, z.e)).length = n := by rw [List.length_map, hn]
  refine ⟨_, n, by rw [hlen], by omega, by omega, fun _ => ⟨q, 0, rfl, hl, fun i hi => ?_⟩⟩
  have hi' : i < zs.length := by rw [hlen] at hi; omega
  obtain ⟨a0, a1, a2, a3, a4, a5⟩ := h4 i hi'
  have he : (zs.map fun z => (z.pos, z.e))[i] = (zs[i].pos, zs[i].e) := by simp
  rw [Nat.zero_add, he]
  obtain ⟨q1, q2⟩ := h5 zs[i] (List.getElem_mem hi')
  exact ⟨(cell_of_row _ _ _ _ _ _ h1).trans a0, (cell_of_row _ _ _ _ _ _ h1).trans a1, (cell_of_row _ _ _ _ _ _ h1).trans a2, (cell_of_row _ _ _ _ _ _ h1).trans a3, (cell_of_row _ _ _ _ _ _ h1).trans a4, _, _, _, (cell_of_row _ _ _ _ _ _ h1).trans a5, q1.fdl rfl (by omega)⟩

set_option maxRecDepth 20000 in
set_option maxHeartbeats 4000000 in
theorem SameEntries_eq (a a' : Option Addr) (n c n' c' : Nat) (es : List (Nat × Ent)) (w : World) (hv : EnL w (.slice a n c) es) (hv' : EnL w (.slice a' n' c') es) :
    Calls Try.prog 27 #[.slice a n c, .slice a' n' c'] w fun e w' => e = .returned (.bool true) ∧ Below w.heap.size w w' := by
  obtain ⟨ao, cap, e, g1, g2, g4⟩ := id hv
  cases e
  obtain ⟨ao', cap', e, g1', g2', g4'⟩ := id hv'
  cases e
  obtain ⟨N, hN⟩ : ∃ N, N = es.length := ⟨_, rfl⟩
  have HN := hide hN
  have H4 := hide (And.intro g4 g4')
  rw [← hN] at g1 g1' ⊢
  have hbv : ((N : Int) != (N : Int)) = false := by simp
  clear g4 g4' hN hv hv'
  go_enter Try.func27, Try.ntmps27
  go_wp2
  go_loopw [5] (fun i wr => ∃ k : Nat, k ≤ N ∧ i = .int .i64 (k : Int) ∧ Hid (Below w.heap.size w wr)) (fun i _ => N - (intOf i).toNat)
  case atStart => exact ⟨0, by omega, rfl, hide (Below.refl _ _)⟩
  case round =>
    obtain ⟨k, hk, rfl, HB⟩ := hrel
    by_cases hlt : k < N
    · have hkf : k < es.length := by have := unhide HN; omega
      obtain ⟨b, off, rfl, hb, hc⟩ := (unhide H4).1 (by omega)
      obtain ⟨b', off', rfl, hb', hc'⟩ := (unhide H4).2 (by omega)
      have hx := hc k hkf
      have hy := hc' k hkf
      obtain ⟨⟨ps, ⟨ss, nm, ⟨et, ev0, ef⟩⟩⟩, hf⟩ : ∃ f, f = es[k] := ⟨_, rfl⟩
      rw [← hf] at hx hy
      obtain ⟨c0, c1, c2, c3, c4, fa, fl, fc, c5, c6⟩ := hx
      obtain ⟨e0, e1, e2, e3, e4, ga, gl, gc, e5, e6⟩ := hy
      simp only at c0 c1 c2 c3 c4 c5 c6 e0 e1 e2 e3 e4 e5 e6
      unfold natV at c0 c2 e0 e2
      have SV : Hid (∀ W, Below w.heap.size w W → W.cell? ⟨b, off + k * 6 + 3, none⟩ = some (sv et) ∧ W.cell? ⟨b, off + k * 6 + 4, none⟩ = some (.int .i64 ev0) ∧ W.cell? ⟨b, off + k * 6 + 5, none⟩ = some (.slice fa fl fc) ∧ W.cell? ⟨b', off' + k * 6 + 3, none⟩ = some (sv et) ∧ W.cell? ⟨b', off' + k * 6 + 4, none⟩ = some (.int .i64 ev0) ∧ W.cell? ⟨b', off' + k * 6 + 5, none⟩ = some (.slice ga gl gc)) := hide (fun W hW => ⟨(hW.cell (p := ⟨b, off + k * 6 + 3, none⟩) hb).trans c3, (hW.cell (p := ⟨b, off + k * 6 + 4, none⟩) hb).trans c4, (hW.cell (p := ⟨b, off + k * 6 + 5, none⟩) hb).trans c5, (hW.cell (p := ⟨b', off' + k * 6 + 3, none⟩) hb').trans e3, (hW.cell (p := ⟨b', off' + k * 6 + 4, none⟩) hb').trans e4, (hW.cell (p := ⟨b', off' + k * 6 + 5, none⟩) hb').trans e5⟩)
      have SW : Hid (∀ W, Below w.heap.size w W → W.cell? ⟨b, off + k * 6, none⟩ = some (.int .i64 (ps : Int)) ∧ W.cell? ⟨b, off + k * 6 + 1, none⟩ = some (sv ss) ∧ W.cell? ⟨b, off + k * 6 + 2, none⟩ = some (.int .i64 (nm : Int)) ∧ W.cell? ⟨b', off' + k * 6, none⟩ = some (.int .i64 (ps : Int)) ∧ W.cell? ⟨b', off' + k * 6 + 1, none⟩ = some (sv ss) ∧ W.cell? ⟨b', off' + k * 6 + 2, none⟩ = some (.int .i64 (nm : Int))) := hide (fun W hW => ⟨(hW.cell (p := ⟨b, off + k * 6, none⟩) hb).trans c0, (hW.cell (p := ⟨b, off + k * 6 + 1, none⟩) hb).trans c1, (hW.cell (p := ⟨b, off + k * 6 + 2, none⟩) hb).trans c2, (hW.cell (p := ⟨b', off' + k * 6, none⟩) hb').trans e0, (hW.cell (p := ⟨b', off' + k * 6 + 1, none⟩) hb').trans e1, (hW.cell (p := ⟨b', off' + k * 6 + 2, none⟩) hb').trans e2⟩)
      have CS := hide (SameEvent_eq et ev0 fa ga fl fc gl gc ef wr.drew ((c6.below (unhide HB) (Nat.le_refl _)).below (Below.refl _ wr).drew (Nat.le_refl _)) ((e6.below (unhide HB) (Nat.le_refl _)).below (Below.refl _ wr).drew (Nat.le_refl _)))
      have S0 := hide (unhide SV wr.drew (unhide HB).drew)
      have ik : (k : Int) < (N : Int) := by omega
      clear c0 c1 c2 c3 c4 c5 c6 e0 e1 e2 e3 e4 e5 e6 hc hc' hf
      go_upto_region 6 with fail
      go_region_held3 (fun w' => w'.cell? ⟨b, off + k * 6 + 3, none⟩ = some (sv et) ∧ w'.cell? ⟨b, off + k * 6 + 4, none⟩ = some (.int .i64 ev0) ∧ w'.cell? ⟨b, off + k * 6 + 5, none⟩ = some (.slice fa fl fc) ∧ w'.cell? ⟨b', off' + k * 6 + 3, none⟩ = some (sv et) ∧ w'.cell? ⟨b', off' + k * 6 + 4, none⟩ = some (.int .i64 ev0) ∧ w'.cell? ⟨b', off' + k * 6 + 5, none⟩ = some (.slice ga gl gc))
        (first | with_reducible exact unhide S0 | with_reducible exact unhide S1)
        ((go_at_call 40; refine (unhide CS).mono ?_; rintro e w5 ⟨rfl, b5⟩; have HB5 := hide ((unhide HB).drew.trans (b5.mono (unhide HB).drew.size)); have S1 := hide (unhide SV w5 (unhide HB5)); clear b5))
      obtain ⟨p0, p1, p2, r0, r1, r2⟩ := unhide SW w5 (unhide HB5)
      have q1 : (ss == ss) = true := beq_self_eq_true _
      clear SV SW CS S0 S1 HB
      go_wp2_with fail
      go_quiet (fail)
      go_wp2
      go_roundw
      case rel => exact ⟨k + 1, by omega, by go_num, hide (below_dr (unhide HB5) _)⟩
      case measure => simp [intOf]; omega
    · go_wp2
      go_ret
      exact ⟨rfl, unhide HB⟩
end Go.Proofs.Ytabcmmhmghgliaa
