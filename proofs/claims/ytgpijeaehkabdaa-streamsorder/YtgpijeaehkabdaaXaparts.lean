/-
  DERIVED. The walk of eventsApart.
-/
import Derived.Test.YtgpijeaehkabdaaXapart
namespace Go.Proofs.Ytgpijeaehkabdaa
open Go.RowKit
set_option linter.unusedVariables false

/-- Where the loop stands. -/
structure ApSt (w W : World) (q n k : Nat) (es : List Evn) (xs : List (Evn × Nat)) : Prop where
  blk : EvBlk W q n xs
  len : xs.length = k
  evs : xs.map (·.1) = es.take k
  new : ∀ x ∈ xs, w.heap.size ≤ x.2
  bel : Below w.heap.size w W
  hq : w.heap.size ≤ q

def ApsPost (es : List Evn) (w : World) (e : Ending) (w' : World) : Prop :=
  ∃ (q : Nat) (xs : List (Evn × Nat)), e = .returned (.slice (some ⟨q, 0, none⟩) es.length es.length) ∧ ApSt w w' q es.length es.length es xs

theorem ApSt.step {w W W1 W2 : World} {q n k : Nat} {es : List Evn} {xs : List (Evn × Nat)} (h : ApSt w W q n k es xs) (hk : k < n) (hn : n = es.length) (o : Obj) (hW : W1 = W.alloc o) (e : Evn) (he : es[k]? = some e) (h16 : e.fields.length ≤ 16) (p : Nat) (hp : W1.heap.size ≤ p) (hf : FdBlk W2 p e.fields.length e.fields) (hb : Below W1.heap.size W1 W2) :
    (∀ j, j < 3 → (∃ v, W2.cell? ⟨q, k * 3 + j, none⟩ = some v) ∧ W2.frozen? ⟨q, k * 3 + j, none⟩ = false) ∧
    ApSt w (((W2.setCell ⟨q, k * 3, none⟩ (sv e.type)).setCell ⟨q, k * 3 + 1, none⟩ (.int .i64 e.ver)).setCell ⟨q, k * 3 + 2, none⟩ (.slice (some ⟨p, 0, none⟩) e.fields.length e.fields.length)) q n (k + 1) es (xs ++ [(e, p)]) := by
  have z1 : W1.heap.size = W.heap.size + 1 := by rw [hW]; simp
  have hbb : Below W.heap.size W W2 := by
    have a : Below W.heap.size W W1 := by rw [hW]; exact (Below.refl _ _).alloc (Nat.le_refl _) _
    exact a.trans (hb.mono (by omega))
  have hl := h.blk.lt
  have hlx : ∀ x ∈ xs, x.2 < W.heap.size := fun x hx => by
    obtain ⟨_, h3⟩ := h.blk
    exact (h3 x hx).1.lt
  have hblk : EvBlk W2 q n xs := h.blk.same (hbb.block q hl) fun x hx => hbb.block _ (hlx x hx)
  have hlen := h.len
  subst hlen
  refine ⟨fun j hj => hblk.room hk j hj, ?_⟩
  have hput := hblk.put hk e.type e.ver p e.fields.length e.fields hf rfl h16
  refine { blk := hput, len := by simp, evs := ?_, new := ?_, bel := ?_, hq := h.hq }
  · rw [List.map_append, h.evs, List.take_add_one, he]; rfl
  · intro x hx
    rcases List.mem_append.1 hx with h' | h'
    · exact h.new x h'
    · rw [List.mem_singleton.1 h']; show w.heap.size ≤ p; have := h.bel.size; omega
  · have := h.hq
    exact (((h.bel.trans (hbb.mono h.bel.size)).setCell (p := ⟨q, _, none⟩) this _).setCell (p := ⟨q, _, none⟩) this _).setCell (p := ⟨q, _, none⟩) this _

set_option maxRecDepth 20000 in
set_option maxHeartbeats 4000000 in
theorem eventsApart_go (a : Option Addr) (n c : Nat) (es : List Evn) (w : World) (hv : EvL w (.slice a n c) es) (h16 : es.length ≤ 16) (hf16 : ∀ e ∈ es, e.fields.length ≤ 16) :
    Calls Try.prog 25 #[.slice a n c] w (ApsPost es w) := by
  obtain ⟨ao, cap, e, h1, h2, h4⟩ := id hv
  cases e
  obtain ⟨w1, hmk, f1, g1⟩ := make_events w es.length h16
  have ST0 : Hid (ApSt w w1 w.heap.size es.length 0 es []) := hide { blk := f1, len := rfl, evs := rfl, new := fun x hx => by simp at hx, bel := ⟨g1.os, g1.tape, g1.output, g1.size, fun k hk => g1.block k hk (by simp)⟩, hq := Nat.le_refl _ }
  obtain ⟨N, hN⟩ : ∃ N, N = es.length := ⟨_, rfl⟩
  have HN := hide hN
  have H4 := hide h4
  have HV := hide hv
  have HF := hide hf16
  rw [← hN] at h1 h16 hmk ST0 ⊢
  clear h4 hN hv hf16 f1 g1
  obtain ⟨q, hq⟩ : ∃ q, q = w.heap.size := ⟨_, rfl⟩
  rw [← hq] at hmk ST0
  clear hq
  go_enter Try.func25, Try.ntmps25
  go_wp2
  go_loopw [11] (fun i wr => ∃ (k : Nat) (xs : List (Evn × Nat)), k ≤ N ∧ i = .int .i64 k ∧ Hid (ApSt w wr q N k es xs)) (fun i _ => N - (intOf i).toNat)
  case atStart => exact ⟨0, [], by omega, rfl, ST0⟩
  case round =>
    obtain ⟨k, xs, hk, rfl, ST⟩ := hrel
    clear ST0
    by_cases hlt : k < N
    · have hkl : k < es.length := by have := unhide HN; omega
      have HB := hide (unhide ST).bel
      obtain ⟨b, off, rfl, hb, hc⟩ := unhide H4 (by omega)
      obtain ⟨c0, c1, fa, fl, fc, c2, c3⟩ := hc k hkl
      obtain ⟨f, hf⟩ : ∃ f, f = es[k] := ⟨_, rfl⟩
      rw [← hf] at c0 c1 c3
      have d0 := ((unhide HB).cell (p := ⟨b, off + k * 3, none⟩) hb).trans c0
      have d1 := ((unhide HB).cell (p := ⟨b, off + k * 3 + 1, none⟩) hb).trans c1
      have d2 := ((unhide HB).cell (p := ⟨b, off + k * 3 + 2, none⟩) hb).trans c2
      have HE : Hid (es[k]? = some f) := hide (by rw [hf]; exact List.getElem?_eq_getElem hkl)
      have hf6 := unhide HF f (List.mem_of_getElem? (unhide HE))
      obtain ⟨ft, fv, ff⟩ := f
      simp only at d0 d1 hf6
      have hbw : Below w.heap.size w (wr.alloc (.cells (ev ft fv fa fl fc) 43)) := (unhide HB).alloc (unhide HB).size _
      have CA := hide (apart_go ft fv fa fl fc ff (wr.alloc (.cells (ev ft fv fa fl fc) 43)) (c3.below hbw (Nat.le_refl _)) hf6)
      have HH6 := hide hf6
      clear hf hc c0 c1 c2 c3 hbw hf6
      go_wp2_with fail
      refine (unhide CA).mono ?_
      rintro e w2 ⟨p, rfl, hp, hfb, hb2⟩
      obtain ⟨rm, st2⟩ := (unhide ST).step hlt (unhide HN) _ rfl ⟨ft, fv, ff⟩ (unhide HE) (unhide HH6) p hp hfb hb2
      obtain ⟨⟨v0, r0⟩, s0⟩ := rm 0 (by omega)
      obtain ⟨⟨v1, r1⟩, s1⟩ := rm 1 (by omega)
      obtain ⟨⟨v2, r2⟩, s2⟩ := rm 2 (by omega)
      rw [Nat.add_zero] at r0 s0
      have ST2 := hide st2
      clear rm st2 hp hfb hb2
      obtain ⟨M, hM⟩ : ∃ M, M = ff.length := ⟨_, rfl⟩
      simp only [← hM] at ST2 ⊢
      clear hM
      go_wp2
      go_roundw
      case rel => exact ⟨k + 1, _, by omega, by go_num, ST2⟩
      case measure => simp [intOf]; omega
    · have hkN : k = N := by omega
      subst hkN
      have HP : Hid (ApsPost es w (.returned (.slice (some ⟨q, 0, none⟩) k k)) wr) := hide (by
        have st := unhide ST
        have e := unhide HN
        subst e
        exact ⟨q, xs, rfl, st⟩)
      go_wp2
      go_ret
      exact unhide HP
end Go.Proofs.Ytgpijeaehkabdaa
