/-
  DERIVED. The walks of SameEvent and SameEntries, where both are alike.
-/
import Derived.Test.YtabcmmhmghgliaaXall2
import Derived.BigQuiet
namespace Go.Proofs.Ytabcmmhmghgliaa
open Go.RowKit Go.Maps
set_option linter.unusedVariables false

theorem take_eq_step {α : Type} {l m : List α} {k : Nat} (hl : k < l.length) (hm : k < m.length) (h : l.take k = m.take k) (he : l[k] = m[k]) : l.take (k + 1) = m.take (k + 1) := by
  rw [List.take_succ_eq_append_getElem hl, List.take_succ_eq_append_getElem hm, h, he]

theorem below_dr {B : Nat} {a w : World} (h : Below B a w) (n : Nat) : Below B a (w.drewN n) := ⟨h.os, h.tape, h.output, h.size, h.block⟩

set_option maxHeartbeats 4000000 in
theorem SameEvent_eq (t : List UInt8) (ver : Int) (a a' : Option Addr) (n c n' c' : Nat) (fs : List Fld) (w : World) (hv : FdL w (.slice a n c) fs) (hv' : FdL w (.slice a' n' c') fs) :
    Calls Try.prog 40 #[.agg (ev t ver a n c), .agg (ev t ver a' n' c')] w fun e w' => e = .returned (.bool true) ∧ Below w.heap.size w w' := by
  obtain ⟨ao, cap, e, g1, g2, g4⟩ := id hv
  cases e
  obtain ⟨ao', cap', e, g1', g2', g4'⟩ := id hv'
  cases e
  have HB2 := hide (((Below.refl w.heap.size w).alloc (Nat.le_refl _) (.cells (ev t ver a fs.length c) 49)).alloc (by simp) (.cells (ev t ver a' fs.length c') 49))
  have hbt : (t == t) = true := beq_self_eq_true _
  have hbv : (ver != ver) = false := by simp
  obtain ⟨N, hN⟩ : ∃ N, N = fs.length := ⟨_, rfl⟩
  have HN := hide hN
  have H4 := hide (And.intro g4 g4')
  rw [← hN] at g1 g1' HB2 ⊢
  clear g4 g4' hN hv hv'
  obtain ⟨w0, hw0⟩ : ∃ w0, w0 = (w.alloc (.cells (ev t ver a N c) 49)).alloc (.cells (ev t ver a' N c') 49) := ⟨_, rfl⟩
  have s0 : w.heap.size + 1 < w0.heap.size := by rw [hw0]; simp
  have z0 : w0.cell? ⟨w.heap.size, 2, none⟩ = some (.slice a N c) := by rw [hw0]; simp
  have z1 : w0.cell? ⟨w.heap.size + 1, 2, none⟩ = some (.slice a' N c') := by rw [hw0]; simp
  have HBW : Hid (Below w.heap.size w w0) := hide (by rw [hw0]; exact unhide HB2)
  have HW0 := hide hw0
  clear hw0 HB2
  go_enter Try.func40, Try.ntmps40
  go_wp2_with fail
  rw [← unhide HW0]
  go_loopw [5] (fun i wr => ∃ k : Nat, k ≤ N ∧ i = .int .i64 k ∧ ∀ B, Below B w0 wr) (fun i _ => N - (intOf i).toNat)
  case atStart => exact ⟨0, by omega, rfl, fun B => Below.refl _ _⟩
  case round =>
    obtain ⟨k, hk, rfl, hbel⟩ := hrel
    have x0 := ((hbel (w.heap.size + 1)).cell (p := ⟨w.heap.size, 2, none⟩) (by simp)).trans z0
    have x1 := ((hbel (w.heap.size + 2)).cell (p := ⟨w.heap.size + 1, 2, none⟩) (by simp)).trans z1
    by_cases hlt : k < N
    · have hkf : k < fs.length := by have := unhide HN; omega
      obtain ⟨b, off, rfl, hb, hc⟩ := (unhide H4).1 (by omega)
      obtain ⟨b', off', rfl, hb', hc'⟩ := (unhide H4).2 (by omega)
      obtain ⟨c0, c1, c2, c3⟩ := hc k hkf
      obtain ⟨e0, e1, e2, e3⟩ := hc' k hkf
      obtain ⟨f, hf⟩ : ∃ f, f = fs[k] := ⟨_, rfl⟩
      rw [← hf] at c0 c1 c2 c3 e0 e1 e2 e3
      have HBc := (unhide HBW).trans (hbel w.heap.size)
      have p0 := (HBc.cell (p := ⟨b, off + k * 4, none⟩) hb).trans c0
      have p1 := (HBc.cell (p := ⟨b, off + k * 4 + 1, none⟩) hb).trans c1
      have p2 := (HBc.cell (p := ⟨b, off + k * 4 + 2, none⟩) hb).trans c2
      have p3 := (HBc.cell (p := ⟨b, off + k * 4 + 3, none⟩) hb).trans c3
      have r0 := (HBc.cell (p := ⟨b', off' + k * 4, none⟩) hb').trans e0
      have r1 := (HBc.cell (p := ⟨b', off' + k * 4 + 1, none⟩) hb').trans e1
      have r2 := (HBc.cell (p := ⟨b', off' + k * 4 + 2, none⟩) hb').trans e2
      have r3 := (HBc.cell (p := ⟨b', off' + k * 4 + 3, none⟩) hb').trans e3
      have HBX := hide hbel
      obtain ⟨fn, ft, fi, fss⟩ := f
      simp only at p0 p1 p2 p3 r0 r1 r2 r3
      clear hf hc hc' c0 c1 c2 c3 e0 e1 e2 e3 hbel HBc
      have ik : (k : Int) < (N : Int) := by omega
      have q1 : (fn == fn) = true := beq_self_eq_true _
      have q3 : (fss == fss) = true := beq_self_eq_true _
      go_wp2_with fail
      go_quiet (fail)
      go_wp2
      go_roundw
      case rel => exact ⟨k + 1, by omega, by go_num, fun B => below_dr (unhide HBX B) _⟩
      case measure => simp [intOf]; omega
    · have HF := hide ((unhide HBW).trans (hbel _))
      go_wp2
      go_ret
      exact ⟨rfl, unhide HF⟩
end Go.Proofs.Ytabcmmhmghgliaa
