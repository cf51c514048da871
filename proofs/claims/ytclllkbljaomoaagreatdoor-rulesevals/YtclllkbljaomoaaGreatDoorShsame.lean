/-
  DERIVED. The document's Same, of lists that are the same.
-/
import Derived.Test.YtclllkbljaomoaaGreatDoorShc
import Derived.BigQuiet
namespace Go.Proofs.YtclllkbljaomoaaGreatDoor
open Go.RowKit
set_option linter.unusedVariables false

theorem fdl_cells {w : World} {v : Value} {fs : List Fld} (h : FdL w v fs) : ∃ a c, v = .slice a fs.length c ∧ fs.length ≤ c ∧ c ≤ 9223372036854775807 ∧ ∀ k f, fs[k]? = some f → ∃ b off, a = some ⟨b, off, none⟩ ∧ b < w.heap.size ∧ w.cell? ⟨b, off + k * 4, none⟩ = some (sv f.name) ∧ w.cell? ⟨b, off + k * 4 + 1, none⟩ = some (.bool f.text) ∧ w.cell? ⟨b, off + k * 4 + 2, none⟩ = some (.int .i64 f.n) ∧ w.cell? ⟨b, off + k * 4 + 3, none⟩ = some (sv f.s) := by
  obtain ⟨ao, cap, rfl, h1, h2, h4⟩ := h
  refine ⟨ao, cap, rfl, h1, h2, fun k f hk => ?_⟩
  obtain ⟨hl, e⟩ := List.getElem?_eq_some_iff.1 hk
  obtain ⟨b, off, e2, hb, hc⟩ := h4 (by omega)
  have := hc k hl
  rw [e] at this
  exact ⟨b, off, e2, hb, this⟩

set_option maxHeartbeats 4000000 in
theorem Same_eq (u v : Value) (R : List Fld) (w : World) (hu : FdL w u R) (hv : FdL w v R) :
    Calls Tryz.prog 19 #[u, v] w fun e w' => e = .returned (.bool true) ∧ Below w.heap.size w w' := by
  obtain ⟨a, c, rfl, hac, hc63, ha⟩ := fdl_cells hu
  obtain ⟨b, d, rfl, hbd, hd63, hb⟩ := fdl_cells hv
  have HA := hide ha
  have HB := hide hb
  obtain ⟨N, hN⟩ : ∃ N, N = R.length := ⟨_, rfl⟩
  have HN := hide hN
  rw [← hN] at hac hbd ⊢
  clear ha hb hu hv hN
  go_enter Tryz.func19, Tryz.ntmps19
  go_wp2_with fail
  go_loopw [5] (fun i wr => ∃ (k : Nat), k ≤ N ∧ i = .int .i64 k ∧ Hid (∃ nq, wr = w.drewN nq)) (fun i _ => N - (intOf i).toNat)
  case atStart => exact ⟨0, by omega, rfl, hide ⟨0, rfl⟩⟩
  case round =>
    obtain ⟨k, hk, rfl, HW⟩ := hrel
    by_cases hlt : k < N
    · obtain ⟨⟨fn, ft, fi, fss⟩, hf⟩ : ∃ f, R[k]? = some f := ⟨_, List.getElem?_eq_getElem (by have := unhide HN; omega)⟩
      obtain ⟨b1, o1, rfl, _, x0, x1, x2, x3⟩ := unhide HA k _ hf
      obtain ⟨b2, o2, rfl, _, y0, y1, y2, y3⟩ := unhide HB k _ hf
      simp only at x0 x1 x2 x3 y0 y1 y2 y3
      have HX : Hid (∀ nq, (w.drewN nq).cell? ⟨b1, o1 + k * 4, none⟩ = some (sv fn) ∧ (w.drewN nq).cell? ⟨b1, o1 + k * 4 + 1, none⟩ = some (.bool ft) ∧ (w.drewN nq).cell? ⟨b1, o1 + k * 4 + 2, none⟩ = some (.int .i64 fi) ∧ (w.drewN nq).cell? ⟨b1, o1 + k * 4 + 3, none⟩ = some (sv fss)) := hide (fun nq => ⟨x0, x1, x2, x3⟩)
      have HY : Hid (∀ nq, (w.drewN nq).cell? ⟨b2, o2 + k * 4, none⟩ = some (sv fn) ∧ (w.drewN nq).cell? ⟨b2, o2 + k * 4 + 1, none⟩ = some (.bool ft) ∧ (w.drewN nq).cell? ⟨b2, o2 + k * 4 + 2, none⟩ = some (.int .i64 fi) ∧ (w.drewN nq).cell? ⟨b2, o2 + k * 4 + 3, none⟩ = some (sv fss)) := hide (fun nq => ⟨y0, y1, y2, y3⟩)
      clear x0 x1 x2 x3 y0 y1 y2 y3 hf
      obtain ⟨nq, hq⟩ := unhide HW
      have q0 : wr.cell? ⟨b1, o1 + k * 4, none⟩ = some (sv fn) ∧ wr.cell? ⟨b1, o1 + k * 4 + 1, none⟩ = some (.bool ft) ∧ wr.cell? ⟨b1, o1 + k * 4 + 2, none⟩ = some (.int .i64 fi) ∧ wr.cell? ⟨b1, o1 + k * 4 + 3, none⟩ = some (sv fss) := by rw [hq]; exact unhide HX nq
      have q1 : wr.cell? ⟨b2, o2 + k * 4, none⟩ = some (sv fn) ∧ wr.cell? ⟨b2, o2 + k * 4 + 1, none⟩ = some (.bool ft) ∧ wr.cell? ⟨b2, o2 + k * 4 + 2, none⟩ = some (.int .i64 fi) ∧ wr.cell? ⟨b2, o2 + k * 4 + 3, none⟩ = some (sv fss) := by rw [hq]; exact unhide HY nq
      obtain ⟨x0, x1, x2, x3⟩ := q0
      obtain ⟨y0, y1, y2, y3⟩ := q1
      have HW2 : Hid (∃ nq, wr.drew = w.drewN nq) := hide ⟨nq + 1, by rw [hq]; rfl⟩
      clear hq
      go_wp2_with fail
      go_region
      go_wp2
      go_roundw
      case rel => exact ⟨k + 1, by omega, by go_num, HW2⟩
      case measure => simp [intOf]; omega
    · go_wp2_with fail
      go_ret
      refine ⟨rfl, ?_⟩
      obtain ⟨nq, hq⟩ := unhide HW
      rw [hq]
      exact below_drewN (Below.refl _ _) nq
end Go.Proofs.YtclllkbljaomoaaGreatDoor
