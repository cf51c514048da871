/-
  DERIVED. The walk of Index.Keyed.
-/
import Derived.Test.YtgpijeaehkabdaaXask
namespace Go.Proofs.Ytgpijeaehkabdaa
open Go.RowKit Go.Maps
set_option linter.unusedVariables false

def kdS : Option Kd → List UInt8
  | none => []
  | some d => d.s
def kdF : Option Kd → Array Value
  | none => apV 0 0 0 false
  | some d => apV d.first d.pos d.cnt false

set_option maxRecDepth 20000 in
theorem keyed_raw {w : World} {F : Nat → Prop} {x N : Nat} {I : Ix} (h : IxAt w F x N I) (s : List UInt8) (hs : s.length ≤ maxLen) (ks : List UInt8) (f p c : Int) (ok : Bool) (hkd : kdV (I.key s) = .agg (kdA ks f p c false)) (hok : (I.key s).isSome = ok) :
    Calls Try.prog 19 #[.pointer (some ⟨x, 0, none⟩), sv s] w fun e w' => e = .returned (.tuple #[sv ks, .agg (apV f p c false), .bool ok]) ∧ Below w.heap.size w w' := by
  obtain ⟨wa, hwa⟩ : ∃ wa, wa = w.alloc (.cells (apV 0 0 0 false) 27) := ⟨_, rfl⟩
  have ba : Below w.heap.size w wa := by rw [hwa]; exact (Below.refl _ _).alloc (Nat.le_refl _) _
  have za : wa.heap.size = w.heap.size + 1 := by rw [hwa]; simp
  obtain ⟨st, hx, _, mp, mk, xs, av, pf, D1, D2, hi⟩ := h.frame (w' := wa) fun q _ hl => ba.block q hl
  obtain ⟨a, n, hav⟩ := hi.avs
  subst hav
  have CN := hide (now_go hx hi.stc ⟨a, _, n, rfl⟩)
  obtain ⟨L, hL⟩ : ∃ L, L = xs.length := ⟨_, rfl⟩
  rw [← hL] at CN
  have f2 := field2 a L n (some mp) (some mk)
  obtain ⟨w2, hw2⟩ : ∃ w2, w2 = wa.alloc (.cells (stV (.slice a L n) (some mp) (some mk)) 68) := ⟨_, rfl⟩
  have b2 : Below w.heap.size w w2 := by rw [hw2]; exact ba.alloc (by omega) _
  have z2 : w2.heap.size = w.heap.size + 2 := by rw [hw2]; simp; omega
  have HA : ABox w2 w.heap.size 0 0 0 false := by unfold ABox; rw [hw2, Below.heap_alloc _ _ _ (by omega), hwa]; exact heap_alloc_self _ _
  have hl := hi.lookK (W := w2) (by rw [hw2]; exact Below.heap_alloc _ _ _ hi.mko.lt) s hs
  rw [hkd, hok] at hl
  have HP := hide ((HA.same (Below.heap_alloc w2 (.cells (kdA ks f p c false) 84) w.heap.size (by omega))).put f p c false)
  have HB := hide (below_put (b2.alloc b2.size (.cells (kdA ks f p c false) 84)) (Nat.le_refl w.heap.size) f p c false)
  obtain ⟨w3, hw3⟩ : ∃ w3, w3 = w2.alloc (.cells (kdA ks f p c false) 84) := ⟨_, rfl⟩
  rw [← hw3] at HP HB
  have HK : w3.heap[w2.heap.size]? = some (.cells (kdA ks f p c false) 84 (0, 0)) := by rw [hw3]; exact heap_alloc_self _ _
  have HA3 : ABox w3 w.heap.size 0 0 0 false := by rw [hw3]; exact HA.same (Below.heap_alloc _ _ _ (by omega))
  obtain ⟨a0, a1, a2, a3, a4⟩ := HA3.cells
  have k0 : w3.cell? ⟨w2.heap.size, 0, none⟩ = some (sv ks) := (cell_of_row _ _ _ _ _ _ HK).trans rfl
  have k1 : w3.cell? ⟨w2.heap.size, 1, none⟩ = some (.int .i64 f) := (cell_of_row _ _ _ _ _ _ HK).trans rfl
  have k2 : w3.cell? ⟨w2.heap.size, 2, none⟩ = some (.int .i64 p) := (cell_of_row _ _ _ _ _ _ HK).trans rfl
  have k3 : w3.cell? ⟨w2.heap.size, 3, none⟩ = some (.int .i64 c) := (cell_of_row _ _ _ _ _ _ HK).trans rfl
  have k4 : w3.cell? ⟨w2.heap.size, 4, none⟩ = some (.bool false) := (cell_of_row _ _ _ _ _ _ HK).trans rfl
  have Z2 := hide z2
  clear b2 HA HA3 HK z2 h hx hi hL hkd hok ba za
  go_enter Try.func19, Try.ntmps19
  go_wp2_with fail
  rw [← hwa]
  refine (unhide CN).mono ?_
  rintro e w1 ⟨rfl, rfl⟩
  rw [← hw2]
  clear hw2 CN hwa
  go_upto_region 2 with fail
  rw [← hw3]
  clear hw3 hl
  obtain ⟨kb, hkb⟩ : ∃ kb, kb = w2.heap.size := ⟨_, rfl⟩
  rw [← hkb] at k0 k1 k2 k3 k4 ⊢
  have hne : ¬ kb = w.heap.size := by have := unhide Z2; omega
  clear hkb
  go_region
  all_goals
    go_wp2
    exact bodyPost_ret (results_tct rfl _ _ w.heap.size 27 (apV f p c false) (0, 0) _ (sv ks) (.bool ok) rfl rfl rfl (unhide HP) Try.underlying27 rfl sizeApp) rfl ⟨rfl, (unhide HB).drew⟩

theorem Keyed_go {w : World} {F : Nat → Prop} {x N : Nat} {I : Ix} (h : IxAt w F x N I) (s : List UInt8) (hs : s.length ≤ maxLen) :
    Calls Try.prog 19 #[.pointer (some ⟨x, 0, none⟩), sv s] w fun e w' => e = .returned (.tuple #[sv (kdS (I.key s)), .agg (kdF (I.key s)), .bool (I.key s).isSome]) ∧ Below w.heap.size w w' := by
  cases hk : I.key s with
  | none => exact keyed_raw h s hs [] 0 0 0 false (by rw [hk]; rfl) (by rw [hk]; rfl)
  | some d => exact keyed_raw h s hs d.s d.first d.pos d.cnt true (by rw [hk]; rfl) (by rw [hk]; rfl)
end Go.Proofs.Ytgpijeaehkabdaa
