/-
  DERIVED. The walks of apart and eventsApart.
-/
import Derived.Test.YtabcmmhmghgliaaXblk
namespace Go.Proofs.Ytabcmmhmghgliaa
open Go.RowKit
set_option linter.unusedVariables false

def ApPost (t : List UInt8) (v : Int) (fs : List Fld) (w : World) (e : Ending) (w' : World) : Prop :=
  ∃ q, e = .returned (.agg (ev t v (some ⟨q, 0, none⟩) fs.length fs.length)) ∧ w.heap.size ≤ q ∧ FdBlk w' q fs.length fs ∧ Below w.heap.size w w'

set_option maxRecDepth 20000 in
set_option maxHeartbeats 4000000 in
theorem apart_go (t : List UInt8) (v : Int) (a : Option Addr) (n c : Nat) (fs : List Fld) (w : World) (hv : FdL w (.slice a n c) fs) (h16 : fs.length ≤ 16) :
    Calls Try.prog 44 #[.agg (ev t v a n c)] w (ApPost t v fs w) := by
  obtain rfl : n = fs.length := by obtain ⟨_, _, e, _⟩ := hv; cases e; rfl
  obtain ⟨w1, hw1⟩ : ∃ w1, w1 = (w.alloc (.cells (ev t v a fs.length c) 49)).alloc (.cells (ev [] 0 none 0 0) 49) := ⟨_, rfl⟩
  have s1 : w1.heap.size = w.heap.size + 2 := by rw [hw1]; simp
  have b1 : Below w.heap.size w w1 := by rw [hw1]; exact ((Below.refl _ _).alloc (Nat.le_refl _) _).alloc (by simp) _
  have x0 : EBox w1 w.heap.size t v (.slice a fs.length c) := by
    unfold EBox; rw [hw1, Below.heap_alloc _ _ _ (by simp)]; exact heap_alloc_self _ _
  have y0 : EBox w1 (w.heap.size + 1) [] 0 (.slice none 0 0) := by
    unfold EBox; rw [hw1, show w.heap.size + 1 = (w.alloc (.cells (ev t v a fs.length c) 49)).heap.size by simp]; exact heap_alloc_self _ _
  obtain ⟨w2, hmk, f2, g2⟩ := make_fields w1 fs.length h16
  have x2 : EBox w2 w.heap.size t v (.slice a fs.length c) := x0.same (g2.block _ (by omega) (by simp))
  have y2 : EBox w2 (w.heap.size + 1) [] 0 (.slice none 0 0) := y0.same (g2.block _ (by omega) (by simp))
  have b2 : Below w.heap.size w w2 := b1.trans ⟨g2.os, g2.tape, g2.output, g2.size, fun k hk => g2.block k (by omega) (by simp)⟩
  have hcp := fun ty => copy_fields w2 ty w1.heap.size a fs.length c fs (hv.below b2 (Nat.le_refl _)) f2
  obtain ⟨w3, hc0, f3, g3⟩ := hcp 3
  have hcy : ∀ ty, (Builtin.copy_ #[47, 47] ty #[.slice (some ⟨w1.heap.size, 0, none⟩) fs.length fs.length, .slice a fs.length c]).run Try.prog w2 = .ok (goInt fs.length) w3 := fun ty => hc0
  have x3 : EBox w3 w.heap.size t v (.slice a fs.length c) := x2.same (g3.block _ (lt_of_block x2) (by rw [s1]; simp))
  have y3 : EBox w3 (w.heap.size + 1) [] 0 (.slice none 0 0) := y2.same (g3.block _ (lt_of_block y2) (by rw [s1]; simp))
  have b3 : Below w.heap.size w w3 := b2.trans ⟨g3.os, g3.tape, g3.output, g3.size, fun k hk => g3.block k (by have := b2.size; omega) (by rw [s1]; simp; omega)⟩
  have hz3 := b3.size
  obtain ⟨q, hq⟩ : ∃ q, q = w1.heap.size := ⟨_, rfl⟩
  have hq2 : q = w.heap.size + 2 := hq.trans s1
  have x4 := x3.set2 (.slice (some ⟨q, 0, none⟩) fs.length fs.length)
  have e01 : w.heap.size + 1 ≠ w.heap.size := by omega
  have y4 : EBox (w3.setCell ⟨w.heap.size, 2, none⟩ (.slice (some ⟨q, 0, none⟩) fs.length fs.length)) (w.heap.size + 1) [] 0 (.slice none 0 0) := y3.same (heap_setCell_other _ _ _ _ e01)
  have f4 : FdBlk (w3.setCell ⟨w.heap.size, 2, none⟩ (.slice (some ⟨q, 0, none⟩) fs.length fs.length)) q fs.length fs := by rw [hq]; exact f3.same (heap_setCell_other _ _ _ _ (show w1.heap.size ≠ w.heap.size by omega))
  have b4 : Below w.heap.size w (w3.setCell ⟨w.heap.size, 2, none⟩ (.slice (some ⟨q, 0, none⟩) fs.length fs.length)) := b3.setCell (Nat.le_refl _) _
  have y5 := ((y4.set0 t).set1 v).set2 (.slice (some ⟨q, 0, none⟩) fs.length fs.length)
  have b5 := ((b4.setCell (p := ⟨w.heap.size + 1, 0, none⟩) (Nat.le_succ _) (sv t)).setCell (p := ⟨w.heap.size + 1, 1, none⟩) (Nat.le_succ _) (.int .i64 v)).setCell (p := ⟨w.heap.size + 1, 2, none⟩) (Nat.le_succ _) (.slice (some ⟨q, 0, none⟩) fs.length fs.length)
  have eq1 : q ≠ w.heap.size + 1 := by omega
  have f5 := ((f4.same (heap_setCell_other _ ⟨w.heap.size + 1, 0, none⟩ _ (sv t) eq1)).same (heap_setCell_other _ ⟨w.heap.size + 1, 1, none⟩ _ (.int .i64 v) eq1)).same (heap_setCell_other _ ⟨w.heap.size + 1, 2, none⟩ _ (.slice (some ⟨q, 0, none⟩) fs.length fs.length) eq1)
  have Y5 := hide y5
  have B5 := hide b5
  have F5 := hide f5
  obtain ⟨p0, p1, p2, p3⟩ := x2.cells
  obtain ⟨q0, q1, q2, q3⟩ := x3.cells
  obtain ⟨r0, r1, r2, r3⟩ := x4.cells
  obtain ⟨u0, u1, u2, u3⟩ := y4.cells
  obtain ⟨z0, z1, z2, z3⟩ := x0.cells
  have hcy2 := hcy
  rw [← hq] at hcy2 hmk
  rw [hw1] at hmk
  have hq3 : w.heap.size ≤ q := by omega
  have HQ3 := hide hq3
  clear hq3 hq2 hq eq1 e01 hz3 s1 hw1
  obtain ⟨M, hM⟩ : ∃ M, M = fs.length := ⟨_, rfl⟩
  have HM := hide hM
  simp only [← hM] at hmk hcy2 p0 p1 p2 q0 q1 q2 r0 r1 r2 u0 u1 u2 z0 z1 z2 r3 u3 h16 ⊢
  clear hM hcy hc0 hcp f2 g2 f3 g3 x2 y2 x3 y3 x4 y4 f4 b4 y5 b5 f5 b1 b2 b3 x0 y0 hv
  go_enter Try.func44, Try.ntmps44
  go_wp2
  exact bodyPost_ret (results_cell_row rfl _ _ (w.heap.size + 1) 49 (ev t v (some ⟨q, 0, none⟩) M M) (0, 0) _ rfl (by rw [unhide HM]; exact unhide Y5) Try.underlying49 rfl infoEvent) rfl (by rw [unhide HM]; exact ⟨q, rfl, unhide HQ3, unhide F5, unhide B5⟩)
end Go.Proofs.Ytabcmmhmghgliaa

namespace Go.Proofs.Ytabcmmhmghgliaa
open Go.RowKit
set_option linter.unusedVariables false

/-- Where the loop stands. -/
structure ApSt (w W : World) (q n k : Nat) (es : List Evn) (xs : List (Evn × Nat)) : Prop where
  blk : EvBlk W q n xs
  len : xs.length = k
  evs : xs.map (·.1) = es.take k
  new : ∀ x ∈ xs, w.heap.size ≤ x.2
  bel : Below w.heap.size w W
  hq : w.heap.size ≤ q

def ApsPost (es : List Evn) (w : World) (e : Ending) (w' : World) : Prop :=
  ∃ (q : Nat) (xs : List (Evn × Nat)), e = .returned (.slice (some ⟨q, 0, none⟩) es.length es.length) ∧ ApSt w w' q es.length es.length es xs

theorem ApSt.step {w W W1 W2 : World} {q n k : Nat} {es : List Evn} {xs : List (Evn × Nat)} (h : ApSt w W q n k es xs) (hk : k < n) (hn : n = es.length) (o : Obj) (hW : W1 = W.alloc o) (e : Evn) (he : es[k]? = some e) (h16 : e.fields.length ≤ 16) (p : Nat) (hp : W1.heap.size ≤ p) (hf : FdBlk W2 p e.fields.length e.fields) (hb : Below W1.heap.size W1 W2) :
    (∀ j, j < 3 → (∃ v, W2.cell? ⟨q, k * 3 + j, none⟩ = some v) ∧ W2.frozen? ⟨q, k * 3 + j, none⟩ = false) ∧
    ApSt w (((W2.setCell ⟨q, k * 3, none⟩ (sv e.type)).setCell ⟨q, k * 3 + 1, none⟩ (.int .i64 e.ver)).setCell ⟨q, k * 3 + 2, none⟩ (.slice (some ⟨p, 0, none⟩) e.fields.length e.fields.length)) q n (k + 1) es (xs ++ [(e, p)]) := by
  have z1 : W1.heap.size = W.heap.size + 1 := by rw [hW]; simp
  have hbb : Below W.heap.size W W2 := by
    have a : Below W.heap.size W W1 := by rw [hW]; exact (Below.refl _ _).alloc (Nat.le_refl _) _
    exact a.trans (hb.mono (by omega))
  have hl := h.blk.lt
  have hlx : ∀ x ∈ xs, x.2 < W.heap.size := fun x hx => by
    obtain ⟨_, h3⟩ := h.blk
    exact (h3 x hx).1.lt
  have hblk : EvBlk W2 q n xs := h.blk.same (hbb.block q hl) fun x hx => hbb.block _ (hlx x hx)
  have hlen := h.len
  subst hlen
  refine ⟨fun j hj => hblk.room hk j hj, ?_⟩
  have hput := hblk.put hk e.type e.ver p e.fields.length e.fields hf rfl h16
  refine { blk := hput, len := by simp, evs := ?_, new := ?_, bel := ?_, hq := h.hq }
  · rw [List.map_append, h.evs, List.take_add_one, he]; rfl
  · intro x hx
    rcases List.mem_append.1 hx with h' | h'
    · exact h.new x h'
    · rw [List.mem_singleton.1 h']; show w.heap.size ≤ p; have := h.bel.size; omega
  · have := h.hq
    exact (((h.bel.trans (hbb.mono h.bel.size)).setCell (p := ⟨q, _, none⟩) this _).setCell (p := ⟨q, _, none⟩) this _).setCell (p := ⟨q, _, none⟩) this _

set_option maxRecDepth 20000 in
set_option maxHeartbeats 4000000 in
theorem eventsApart_go (a : Option Addr) (n c : Nat) (es : List Evn) (w : World) (hv : EvL w (.slice a n c) es) (h16 : es.length ≤ 16) (hf16 : ∀ e ∈ es, e.fields.length ≤ 16) :
    Calls Try.prog 35 #[.slice a n c] w (ApsPost es w) := by
  obtain ⟨ao, cap, e, h1, h2, h4⟩ := id hv
  cases e
  obtain ⟨w1, hmk, f1, g1⟩ := make_events w es.length h16
  have ST0 : Hid (ApSt w w1 w.heap.size es.length 0 es []) := hide { blk := f1, len := rfl, evs := rfl, new := fun x hx => by simp at hx, bel := ⟨g1.os, g1.tape, g1.output, g1.size, fun k hk => g1.block k hk (by simp)⟩, hq := Nat.le_refl _ }
  obtain ⟨N, hN⟩ : ∃ N, N = es.length := ⟨_, rfl⟩
  have HN := hide hN
  have H4 := hide h4
  have HV := hide hv
  have HF := hide hf16
  rw [← hN] at h1 h16 hmk ST0 ⊢
  clear h4 hN hv hf16 f1 g1
  obtain ⟨q, hq⟩ : ∃ q, q = w.heap.size := ⟨_, rfl⟩
  rw [← hq] at hmk ST0
  clear hq
  go_enter Try.func35, Try.ntmps35
  go_wp2
  go_loopw [11] (fun i wr => ∃ (k : Nat) (xs : List (Evn × Nat)), k ≤ N ∧ i = .int .i64 k ∧ Hid (ApSt w wr q N k es xs)) (fun i _ => N - (intOf i).toNat)
  case atStart => exact ⟨0, [], by omega, rfl, ST0⟩
  case round =>
    obtain ⟨k, xs, hk, rfl, ST⟩ := hrel
    clear ST0
    by_cases hlt : k < N
    · have hkl : k < es.length := by have := unhide HN; omega
      have HB := hide (unhide ST).bel
      obtain ⟨b, off, rfl, hb, hc⟩ := unhide H4 (by omega)
      obtain ⟨c0, c1, fa, fl, fc, c2, c3⟩ := hc k hkl
      obtain ⟨f, hf⟩ : ∃ f, f = es[k] := ⟨_, rfl⟩
      rw [← hf] at c0 c1 c3
      have d0 := ((unhide HB).cell (p := ⟨b, off + k * 3, none⟩) hb).trans c0
      have d1 := ((unhide HB).cell (p := ⟨b, off + k * 3 + 1, none⟩) hb).trans c1
      have d2 := ((unhide HB).cell (p := ⟨b, off + k * 3 + 2, none⟩) hb).trans c2
      have HE : Hid (es[k]? = some f) := hide (by rw [hf]; exact List.getElem?_eq_getElem hkl)
      have hf6 := unhide HF f (List.mem_of_getElem? (unhide HE))
      obtain ⟨ft, fv, ff⟩ := f
      simp only at d0 d1 hf6
      have hbw : Below w.heap.size w (wr.alloc (.cells (ev ft fv fa fl fc) 49)) := (unhide HB).alloc (unhide HB).size _
      have CA := hide (apart_go ft fv fa fl fc ff (wr.alloc (.cells (ev ft fv fa fl fc) 49)) (c3.below hbw (Nat.le_refl _)) hf6)
      have HH6 := hide hf6
      clear hf hc c0 c1 c2 c3 hbw hf6
      go_wp2_with fail
      refine (unhide CA).mono ?_
      rintro e w2 ⟨p, rfl, hp, hfb, hb2⟩
      obtain ⟨rm, st2⟩ := (unhide ST).step hlt (unhide HN) _ rfl ⟨ft, fv, ff⟩ (unhide HE) (unhide HH6) p hp hfb hb2
      obtain ⟨⟨v0, r0⟩, s0⟩ := rm 0 (by omega)
      obtain ⟨⟨v1, r1⟩, s1⟩ := rm 1 (by omega)
      obtain ⟨⟨v2, r2⟩, s2⟩ := rm 2 (by omega)
      rw [Nat.add_zero] at r0 s0
      have ST2 := hide st2
      clear rm st2 hp hfb hb2
      obtain ⟨M, hM⟩ : ∃ M, M = ff.length := ⟨_, rfl⟩
      simp only [← hM] at ST2 ⊢
      clear hM
      go_wp2
      go_roundw
      case rel => exact ⟨k + 1, _, by omega, by go_num, ST2⟩
      case measure => simp [intOf]; omega
    · have hkN : k = N := by omega
      subst hkN
      have HP : Hid (ApsPost es w (.returned (.slice (some ⟨q, 0, none⟩) k k)) wr) := hide (by
        have st := unhide ST
        have e := unhide HN
        subst e
        exact ⟨q, xs, rfl, st⟩)
      go_wp2
      go_ret
      exact unhide HP
end Go.Proofs.Ytabcmmhmghgliaa
