/-
  DERIVED. The walk of the document's SameBatch, where both are alike.
-/
import Derived.Test.YtabcmmhmghgliaaSp13
import Derived.Test.YtabcmmhmghgliaaXsame2
import Derived.BigQuiet
namespace Go.Proofs.Ytabcmmhmghgliaa
open Go.RowKit
set_option linter.unusedVariables false

theorem after_dr {B : Nat} {w w5 : World} (h : Below w.drew.heap.size w.drew w5) : Below w.heap.size w w5 := (Below.refl _ w).drew.trans (h.mono (Nat.le_refl _))

set_option maxRecDepth 20000 in
set_option maxHeartbeats 4000000 in
theorem SameBatch_eq (s k : List UInt8) (fi : Int) (a a' : Option Addr) (n c n' c' : Nat) (es : List Evn) (w : World) (hv : EvL w (.slice a n c) es) (hv' : EvL w (.slice a' n' c') es) :
    Calls Try.prog 39 #[.agg (bt s k fi a n c), .agg (bt s k fi a' n' c')] w fun e w' => e = .returned (.bool true) ∧ Below w.heap.size w w' := by
  obtain ⟨ao, cap, e, g1, g2, g4⟩ := id hv
  cases e
  obtain ⟨ao', cap', e, g1', g2', g4'⟩ := id hv'
  cases e
  have HB2 := hide (((Below.refl w.heap.size w).alloc (Nat.le_refl _) (.cells (bt s k fi a es.length c) 33)).alloc (by simp) (.cells (bt s k fi a' es.length c') 33))
  have hbs : (s == s) = true := beq_self_eq_true _
  have hbk : (k == k) = true := beq_self_eq_true _
  have hbf : (fi != fi) = false := by simp
  obtain ⟨N, hN⟩ : ∃ N, N = es.length := ⟨_, rfl⟩
  have HN := hide hN
  have H4 := hide (And.intro g4 g4')
  rw [← hN] at g1 g1' HB2 ⊢
  clear g4 g4' hN hv hv'
  obtain ⟨w0, hw0⟩ : ∃ w0, w0 = (w.alloc (.cells (bt s k fi a N c) 33)).alloc (.cells (bt s k fi a' N c') 33) := ⟨_, rfl⟩
  have s0 : w.heap.size + 1 < w0.heap.size := by rw [hw0]; simp
  have z0 : w0.cell? ⟨w.heap.size, 3, none⟩ = some (.slice a N c) := by rw [hw0]; simp
  have z1 : w0.cell? ⟨w.heap.size + 1, 3, none⟩ = some (.slice a' N c') := by rw [hw0]; simp
  have HBW : Hid (Below w.heap.size w w0) := hide (by rw [hw0]; exact unhide HB2)
  have HW0 := hide hw0
  clear hw0 HB2
  go_enter Try.func39, Try.ntmps39
  go_wp2_with fail
  rw [← unhide HW0]
  go_loopw [5] (fun i wr => ∃ q : Nat, q ≤ N ∧ i = .int .i64 q ∧ Below w0.heap.size w0 wr) (fun i _ => N - (intOf i).toNat)
  case atStart => exact ⟨0, by omega, rfl, Below.refl _ _⟩
  case round =>
    obtain ⟨q, hq, rfl, hbel⟩ := hrel
    have hsw := hbel.size
    have x0 := (hbel.cell (p := ⟨w.heap.size, 3, none⟩) (by show w.heap.size < w0.heap.size; omega)).trans z0
    have x1 := (hbel.cell (p := ⟨w.heap.size + 1, 3, none⟩) s0).trans z1
    have HBc := hide ((unhide HBW).trans (hbel.mono (by omega)))
    by_cases hlt : q < N
    · have hqf : q < es.length := by have := unhide HN; omega
      obtain ⟨b, off, rfl, hb, hc⟩ := (unhide H4).1 (by omega)
      obtain ⟨b', off', rfl, hb', hc'⟩ := (unhide H4).2 (by omega)
      obtain ⟨c0, c1, ea, en, ec, c2, c3⟩ := hc q hqf
      obtain ⟨e0, e1, ea', en', ec', e2, e3⟩ := hc' q hqf
      obtain ⟨f, hf⟩ : ∃ f, f = es[q] := ⟨_, rfl⟩
      rw [← hf] at c0 c1 c3 e0 e1 e3
      have p0 := ((unhide HBc).cell (p := ⟨b, off + q * 3, none⟩) hb).trans c0
      have p1 := ((unhide HBc).cell (p := ⟨b, off + q * 3 + 1, none⟩) hb).trans c1
      have p2 := ((unhide HBc).cell (p := ⟨b, off + q * 3 + 2, none⟩) hb).trans c2
      have r0 := ((unhide HBc).cell (p := ⟨b', off' + q * 3, none⟩) hb').trans e0
      have r1 := ((unhide HBc).cell (p := ⟨b', off' + q * 3 + 1, none⟩) hb').trans e1
      have r2 := ((unhide HBc).cell (p := ⟨b', off' + q * 3 + 2, none⟩) hb').trans e2
      have bdr : Below wr.heap.size wr wr.drew := (Below.refl _ _).drew
      have HD := hide (And.intro ((c3.below (unhide HBc) (Nat.le_refl _)).below bdr (Nat.le_refl _)) ((e3.below (unhide HBc) (Nat.le_refl _)).below bdr (Nat.le_refl _)))
      have HBX := hide hbel
      obtain ⟨ft, fv1, ff⟩ := f
      simp only at p0 p1 p2 r0 r1 r2
      clear hf hc hc' c0 c1 c2 c3 e0 e1 e2 e3 hbel bdr
      have ik : (q : Int) < (N : Int) := by omega
      go_wp2_with fail
      first | (go_region_with (go_at_call 40; refine (SameEvent_eq ft fv1 ea ea' en ec en' ec' ff _ (unhide HD).1 (unhide HD).2).mono ?_; rintro e w5 ⟨rfl, b5⟩; have HB5 := hide (after_dr (B := 0) b5); clear b5)) | fail
      all_goals
        go_wp2
        go_roundw
        case rel => exact ⟨q + 1, by omega, by go_num, (unhide HBX).trans ((unhide HB5).mono hsw)⟩
        case measure => simp [intOf]; omega
    · have HF := hide (unhide HBc)
      clear hbel
      go_wp2
      go_ret
      exact ⟨rfl, unhide HF⟩
end Go.Proofs.Ytabcmmhmghgliaa
