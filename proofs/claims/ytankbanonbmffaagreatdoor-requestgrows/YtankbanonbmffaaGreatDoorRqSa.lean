/-
  DERIVED. The document's Same: two requests.
-/
import Derived.Test.YtankbanonbmffaaGreatDoorRqL
import Derived.Deep.QuietTactic
namespace Go.Proofs.YtankbanonbmffaaGreatDoor
open Go.RowKit
set_option linter.unusedVariables false

theorem same_of_hd {a b : List Hd} (hl : a.length = b.length) {k : Nat} (h : a.take k = b.take k) (hk : k < a.length) : (a.take (k + 1) = b.take (k + 1) ↔ a[k]? = b[k]?) := by
  rw [List.take_add_one, List.take_add_one, h]
  constructor
  · intro e
    have e2 := List.append_cancel_left e
    rw [List.getElem?_eq_getElem hk, List.getElem?_eq_getElem (by omega)] at e2 ⊢
    simpa using e2
  · intro e; rw [e]

theorem belowDN {B : Nat} {a b : World} (h : Below B a b) (n : Nat) : Below B a (b.drewN n) := ⟨h.os, h.tape, h.output, h.size, h.block⟩
def sameR (m p q : List UInt8) (hs : List Hd) (b : List UInt8) (cl : Bool) (m2 p2 q2 : List UInt8) (hs2 : List Hd) (b2 : List UInt8) (cl2 : Bool) : Bool :=
  hs == hs2 && m == m2 && p == p2 && q == q2 && b == b2 && cl == cl2

set_option maxHeartbeats 4000000 in
set_option maxRecDepth 20000 in
theorem same_any (m p q : List UInt8) (hv : Value) (b : List UInt8) (cl : Bool) (hs : List Hd) (m2 p2 q2 : List UInt8) (hv2 : Value) (b2 : List UInt8) (cl2 : Bool) (hs2 : List Hd) (w : World) (h : HdL w hv hs) (h2 : HdL w hv2 hs2) (hlen : hs.length ≤ 4398046511104) :
    Calls Tryz.prog 12 #[.agg (rqV m p q hv b cl), .agg (rqV m2 p2 q2 hv2 b2 cl2)] w fun e w' => e = .returned (.bool (sameR m p q hs b cl m2 p2 q2 hs2 b2 cl2)) ∧ Below w.heap.size w w' := by
  obtain ⟨ao, cap, rfl, g1, g2, g4⟩ := h
  obtain ⟨ao2, cap2, rfl, k1, k2, k4⟩ := h2
  have H4 := hide g4
  have K4 := hide k4
  clear g4 k4
  unfold rqV
  obtain ⟨r, hr⟩ : ∃ r, r = sameR m p q hs b cl m2 p2 q2 hs2 b2 cl2 := ⟨_, rfl⟩
  have HR := hide hr
  rw [← hr]
  clear hr
  go_enter Tryz.func12, Tryz.ntmps12
  by_cases hl : hs.length = hs2.length
  · obtain ⟨N, hN⟩ : ∃ N, N = hs.length := ⟨_, rfl⟩
    have hN2 : N = hs2.length := hN.trans hl
    have HN := hide hN
    have HN2 := hide hN2
    rw [← hN] at g1 hlen ⊢
    rw [← hN2] at k1 ⊢
    clear hl hN hN2
    have hnn : ((N : Int) == (N : Int)) = true := by simp
    go_upto_region 4 with fail
    obtain ⟨W2, hW2⟩ : ∃ W2, W2 = ((w.alloc (.cells #[qv m, qv p, qv q, .slice ao N cap, qv b, .bool cl] 25)).alloc (.cells #[qv m2, qv p2, qv q2, .slice ao2 N cap2, qv b2, .bool cl2] 25)) := ⟨_, rfl⟩
    obtain ⟨x, hx⟩ : ∃ x, x = w.heap.size := ⟨_, rfl⟩
    have hr1 : W2.heap[x]? = some (.cells #[qv m, qv p, qv q, .slice ao N cap, qv b, .bool cl] 25 (0, 0)) := by
      rw [hW2, hx, Below.heap_alloc _ _ _ (by simp)]; exact heap_alloc_new _ _
    have hr2 : W2.heap[x + 1]? = some (.cells #[qv m2, qv p2, qv q2, .slice ao2 N cap2, qv b2, .bool cl2] 25 (0, 0)) := by
      have := heap_alloc_new (w.alloc (.cells #[qv m, qv p, qv q, .slice ao N cap, qv b, .bool cl] 25)) (.cells #[qv m2, qv p2, qv q2, .slice ao2 N cap2, qv b2, .bool cl2] 25)
      rw [hW2, hx, ← this]; simp
    have hb2 : Below w.heap.size w W2 := by rw [hW2]; exact ((Below.refl _ _).alloc (Nat.le_refl _) _).alloc (by simp) _
    have hs2' : W2.heap.size = x + 2 := by rw [hW2, hx]; simp
    rw [show ((w.alloc (Obj.cells #[qv m, qv p, qv q, .slice ao N cap, qv b, .bool cl] 25)).alloc (.cells #[qv m2, qv p2, qv q2, .slice ao2 N cap2, qv b2, .bool cl2] 25)) = W2 from hW2.symm, ← hx]
    have HR1 := hide hr1
    have HR2 := hide hr2
    have HB2 := hide hb2
    have HS2 := hide hs2'
    have HX := hide hx
    clear hW2 hr1 hr2 hb2 hs2' hx
    go_loopw [5] (fun i wr => ∃ k : Nat, k ≤ N ∧ i = .int .i64 (k : Int) ∧ Hid (hs.take k = hs2.take k) ∧ Hid (Below W2.heap.size W2 wr)) (fun i _ => N - (intOf i).toNat)
    case atStart => exact ⟨0, by omega, rfl, hide rfl, hide (Below.refl _ _)⟩
    case round =>
      obtain ⟨k, hk, rfl, HE, HB⟩ := hrel
      have c1 : wr.cell? ⟨x, 3, none⟩ = some (.slice ao N cap) := ((unhide HB).cell (p := ⟨x, 3, none⟩) (by have := unhide HS2; show x < _; omega)).trans ((cell_of_row _ _ _ _ _ _ (unhide HR1)).trans rfl)
      have c2 : wr.cell? ⟨x + 1, 3, none⟩ = some (.slice ao2 N cap2) := ((unhide HB).cell (p := ⟨x + 1, 3, none⟩) (by have := unhide HS2; show x + 1 < _; omega)).trans ((cell_of_row _ _ _ _ _ _ (unhide HR2)).trans rfl)
      by_cases hlt : k < N
      · have hk1 : k < hs.length := by have := unhide HN; omega
        have hk2 : k < hs2.length := by have := unhide HN2; omega
        obtain ⟨bk, off, rfl, hb, hc⟩ := unhide H4 (by omega)
        obtain ⟨bk2, off2, rfl, hbb, hcc⟩ := unhide K4 (by omega)
        obtain ⟨e0, e1⟩ := hc k hk1
        obtain ⟨e2, e3⟩ := hcc k hk2
        obtain ⟨f, hf⟩ : ∃ f, f = hs[k] := ⟨_, rfl⟩
        obtain ⟨f2, hf2⟩ : ∃ f2, f2 = hs2[k] := ⟨_, rfl⟩
        rw [← hf] at e0 e1
        rw [← hf2] at e2 e3
        have hfk : hs[k]? = some f := by rw [hf]; exact List.getElem?_eq_getElem hk1
        have hfk2 : hs2[k]? = some f2 := by rw [hf2]; exact List.getElem?_eq_getElem hk2
        have hw : ∀ (p : Addr), p.block < w.heap.size → wr.cell? p = w.cell? p := fun p hp => ((unhide HB).cell (by have := (unhide HB2).size; omega)).trans ((unhide HB2).cell hp)
        have d0 := (hw ⟨bk, off + k * 2, none⟩ hb).trans e0
        have d1 := (hw ⟨bk, off + k * 2 + 1, none⟩ hb).trans e1
        have d2 := (hw ⟨bk2, off2 + k * 2, none⟩ hbb).trans e2
        have d3 := (hw ⟨bk2, off2 + k * 2 + 1, none⟩ hbb).trans e3
        clear hf hf2 hc hcc e0 e1 e2 e3 hw
        obtain ⟨fa, fb⟩ := f
        obtain ⟨ga, gb⟩ := f2
        simp only at d0 d1 d2 d3
        by_cases he : fa = ga ∧ fb = gb
        · obtain ⟨rfl, rfl⟩ := he
          have HE2 := hide ((same_of_hd ((unhide HN).symm.trans (unhide HN2)) (unhide HE) hk1).2 (hfk.trans hfk2.symm))
          clear hfk hfk2
          go_upto_region 6 with fail
          go_quiet (fail)
          go_wp2_with fail
          go_roundw
          case rel => exact ⟨k + 1, by omega, by go_num, HE2, hide (belowDN (unhide HB) _)⟩
          case measure => simp [intOf]; omega
        · have hE : r = false := by
            rw [unhide HR]; unfold sameR
            have : (hs == hs2) = false := by
              rw [beq_eq_false_iff_ne]; intro e
              rw [e, hfk2] at hfk
              cases hfk
              exact he ⟨rfl, rfl⟩
            rw [this]; simp
          have hBB := (unhide HB2).trans ((unhide HB).mono (unhide HB2).size)
          have HBB := hide hBB
          clear hBB hfk hfk2
          by_cases h1 : fa = ga
          · subst h1
            have h2 : (fb == gb) = false := by rw [beq_eq_false_iff_ne]; intro e; exact he ⟨rfl, e⟩
            clear he
            go_upto_region 6 with fail
            go_quiet (fail)
            go_wp2_with fail
            go_ret
            exact ⟨by rw [hE]; rfl, belowDN (unhide HBB) _⟩
          · have h2 : (fa == ga) = false := by rw [beq_eq_false_iff_ne]; exact h1
            clear he h1
            go_upto_region 6 with fail
            go_quiet (fail)
            go_wp2_with fail
            go_ret
            exact ⟨by rw [hE]; rfl, belowDN (unhide HBB) _⟩
      · have hkN : k = N := by omega
        subst hkN
        have HEq : Hid ((hs == hs2) = true) := hide (by
          rw [beq_iff_eq]
          have := unhide HE
          rwa [List.take_of_length_le (by have := unhide HN; omega), List.take_of_length_le (by have := unhide HN2; omega)] at this)
        have HBB := hide ((unhide HB2).trans ((unhide HB).mono (unhide HB2).size))
        have hwr := fun g (hg : g < W2.heap.size) => (unhide HB).block g hg
        have r1 := (hwr x (by have := unhide HS2; omega)).trans (unhide HR1)
        have r2 := (hwr (x + 1) (by have := unhide HS2; omega)).trans (unhide HR2)
        have a0 : wr.cell? ⟨x, 0, none⟩ = some (qv m) := (cell_of_row _ _ _ _ _ _ r1).trans rfl
        have a1 : wr.cell? ⟨x, 1, none⟩ = some (qv p) := (cell_of_row _ _ _ _ _ _ r1).trans rfl
        have a2 : wr.cell? ⟨x, 2, none⟩ = some (qv q) := (cell_of_row _ _ _ _ _ _ r1).trans rfl
        have a4 : wr.cell? ⟨x, 4, none⟩ = some (qv b) := (cell_of_row _ _ _ _ _ _ r1).trans rfl
        have a5 : wr.cell? ⟨x, 5, none⟩ = some (.bool cl) := (cell_of_row _ _ _ _ _ _ r1).trans rfl
        have b0 : wr.cell? ⟨x + 1, 0, none⟩ = some (qv m2) := (cell_of_row _ _ _ _ _ _ r2).trans rfl
        have b1 : wr.cell? ⟨x + 1, 1, none⟩ = some (qv p2) := (cell_of_row _ _ _ _ _ _ r2).trans rfl
        have b2' : wr.cell? ⟨x + 1, 2, none⟩ = some (qv q2) := (cell_of_row _ _ _ _ _ _ r2).trans rfl
        have b4 : wr.cell? ⟨x + 1, 4, none⟩ = some (qv b2) := (cell_of_row _ _ _ _ _ _ r2).trans rfl
        have b5 : wr.cell? ⟨x + 1, 5, none⟩ = some (.bool cl2) := (cell_of_row _ _ _ _ _ _ r2).trans rfl
        clear hwr r1 r2
        cases h0 : (m == m2) with
        | false =>
          go_wp2_with fail
          go_ret
          refine ⟨?_, unhide HBB⟩
          rw [unhide HR]; unfold sameR; rw [unhide HEq]; simp [h0]
        | true =>
          cases h1 : (p == p2) with
          | false =>
            go_wp2_with fail
            go_ret
            refine ⟨?_, unhide HBB⟩
            rw [unhide HR]; unfold sameR; rw [unhide HEq]; simp [h0, h1]
          | true =>
            cases h2 : (q == q2) with
            | false =>
              go_wp2_with fail
              go_ret
              refine ⟨?_, unhide HBB⟩
              rw [unhide HR]; unfold sameR; rw [unhide HEq]; simp [h0, h1, h2]
            | true =>
              cases h3 : (b == b2) with
              | false =>
                go_wp2_with fail
                go_ret
                refine ⟨?_, unhide HBB⟩
                rw [unhide HR]; unfold sameR; rw [unhide HEq]; simp [h0, h1, h2, h3]
              | true =>
                cases h4 : (cl == cl2) with
                | false =>
                  go_wp2_with fail
                  go_ret
                  refine ⟨?_, unhide HBB⟩
                  rw [unhide HR]; unfold sameR; rw [unhide HEq]; simp [h0, h1, h2, h3, h4]
                | true =>
                  go_wp2_with fail
                  go_ret
                  refine ⟨?_, unhide HBB⟩
                  rw [unhide HR]; unfold sameR; rw [unhide HEq]; simp [h0, h1, h2, h3, h4]
  · have hl1 : ((hs.length : Int) == (hs2.length : Int)) = false := by rw [beq_eq_false_iff_ne]; omega
    have hE : r = false := by
      rw [unhide HR]; unfold sameR
      have : (hs == hs2) = false := by rw [beq_eq_false_iff_ne]; intro e; exact hl (by rw [e])
      rw [this]; simp
    go_wp2_with fail
    go_ret
    exact ⟨by rw [hE]; rfl, ((Below.refl _ _).alloc (Nat.le_refl _) _).alloc (by simp) _⟩
end Go.Proofs.YtankbanonbmffaaGreatDoor
