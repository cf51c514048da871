/-
  DERIVED. The walks of the library's Builder, written and read once.
-/
import Derived.Test.YtankbanonbmffabGreatDoorRqO
import Derived.Lib.FrozenHead
import Derived.Lib.Builder
import Derived.Lib.AppendStr
import Derived.Laws.Externs
namespace Go.Proofs.YtankbanonbmffabGreatDoor
open Go.RowKit
set_option linter.unusedVariables false

/-- A builder that holds these bytes. -/
def BtAt (w : World) (b : Nat) (l : List UInt8) : Prop := ∃ p v, w.heap[b]? = some (.cells #[p, v] 62 (0, 0)) ∧ (p = .pointer none ∨ p = .pointer (some ⟨b, 0, none⟩)) ∧ Own w (b + 1) v l
theorem BtAt.lt {w : World} {b : Nat} {l : List UInt8} (h : BtAt w b l) : b < w.heap.size := by
  obtain ⟨p, v, h1, _⟩ := h; exact lt_of_block h1
theorem BtAt.new (w : World) : BtAt (w.alloc (.cells #[.pointer none, .slice none 0 0] 62)) w.heap.size [] :=
  ⟨_, _, heap_alloc_new _ _, .inl rfl, World.ownsRow_nil _ _ _ _⟩
theorem BtAt.qf {q : Nat} {w w' : World} {b : Nat} {l : List UInt8} (h : BtAt w b l) (hb : QF q w w') {R : Rd} (hq : RdAt w q R) : BtAt w' b l := by
  obtain ⟨p, v, h1, h2, h3, h4⟩ := h
  have ne : ∀ g cs t fr, w.heap[g]? = some (Obj.cells cs t fr) → t ≠ 35 → g ≠ q := fun g cs t fr hg ht e => by
    subst e; rw [hq.1] at hg
    simp only [Option.some.injEq, Obj.cells.injEq] at hg
    exact ht hg.2.1.symm
  refine ⟨p, v, (hb.block b (lt_of_block h1) (ne b _ _ _ h1 (by decide))).trans h1, h2, h3, ?_⟩
  rcases h4 with h | ⟨g, cap, cur, a, b', c, r⟩
  · exact .inl h
  · exact .inr ⟨g, cap, cur, a, b', (hb.block g (lt_of_block c) (ne g _ _ _ c (by decide))).trans c, r⟩

theorem sbLen_any (b : Nat) (l : List UInt8) (w : World) (h : BtAt w b l) : Calls Tryz.prog 41 #[.pointer (some ⟨b, 0, none⟩)] w fun e w' => e = .returned (.int .i64 (l.length : Int)) ∧ w' = w := by
  obtain ⟨p, v, h1, h2, h3⟩ := h
  obtain ⟨a, cap, rfl⟩ : ∃ a cap, v = .slice a l.length cap := by
    obtain ⟨ao, cap, e, _⟩ := h3.sl; exact ⟨ao, cap, e⟩
  have c1 : w.cell? ⟨b, 1, none⟩ = some (.slice a l.length cap) := (cell_of_row _ _ _ _ _ _ h1).trans rfl
  clear h1 h2 h3
  go_enter Tryz.func41, Tryz.ntmps41
  go_wp2_with fail
  go_ret
  exact ⟨rfl, rfl⟩

set_option maxRecDepth 20000 in
theorem sbCheck_any (b : Nat) (l : List UInt8) (w : World) (h : BtAt w b l) : Calls Tryz.prog 66 #[.pointer (some ⟨b, 0, none⟩)] w fun e w' => e = .returned (.tuple #[]) ∧ BtAt w' b l ∧ Below b w w' := by
  obtain ⟨p, v, h1, h2, h3⟩ := h
  have c0 : w.cell? ⟨b, 0, none⟩ = some p := (cell_of_row _ _ _ _ _ _ h1).trans rfl
  have f0 : w.frozen? ⟨b, 0, none⟩ = false := by simp [World.frozen?, h1]
  have hsh : w.shape? b = some (62, 2) := by simp [World.shape?, h1]
  obtain ⟨j, hj, hjs⟩ := Option.map_eq_some_iff.1 (show (Tryz.prog.info? 62).map (·.size) = some 2 by kernel_rfl)
  have hv1 := Lib.run_to_unsafe (P := Tryz.prog) (src := 60) (dst := 89) (w := w) ⟨b, 0, none⟩ Tryz.underlying60 Tryz.underlying89 hj (by rw [hjs]; decide) hsh (by show 0 < 2; decide)
  have hv2 := Lib.run_from_unsafe (P := Tryz.prog) (src := 89) (dst := 60) (w := w) ⟨b, 0, none⟩ Tryz.underlying89 Tryz.underlying60 hj hsh (by kernel_rfl)
  have hne : (callFunc 83 #[.pointer (some ⟨b, 0, none⟩)]).run Tryz.prog w = .ok (.value (.pointer (some ⟨b, 0, none⟩))) w := by
    rw [run_callFunc_extern Tryz.func83 (by kernel_rfl) (by kernel_rfl) (by kernel_rfl) (e := Extern.AbiNoEscape.same) (by kernel_rfl), Lib.run_noEscape]; rfl
  clear hsh hjs
  rcases h2 with rfl | rfl
  · have h4 : (w.setCell ⟨b, 0, none⟩ (.pointer (some ⟨b, 0, none⟩))).heap[b]? = some (.cells #[.pointer (some ⟨b, 0, none⟩), v] 62 (0, 0)) := heap_setCell_same w b 0 _ _ _ h1
    have HB : Hid (BtAt (w.setCell ⟨b, 0, none⟩ (.pointer (some ⟨b, 0, none⟩))) b l) := hide ⟨_, v, h4, .inr rfl, by
      obtain ⟨g1, g2⟩ := h3
      refine ⟨g1, ?_⟩
      rcases g2 with h | ⟨g, cap, cur, a, b', c, r⟩
      · exact .inl h
      · exact .inr ⟨g, cap, cur, a, b', (Below.heap_setCell w ⟨b, 0, none⟩ _ g (by show g ≠ b; omega)).trans c, r⟩⟩
    have HBe : Hid (Below b w (w.setCell ⟨b, 0, none⟩ (.pointer (some ⟨b, 0, none⟩)))) := hide ((Below.refl b w).setCell (p := ⟨b, 0, none⟩) (Nat.le_refl b) _)
    have c0' : (w.setCell ⟨b, 0, none⟩ (.pointer (some ⟨b, 0, none⟩))).cell? ⟨b, 0, none⟩ = some (.pointer (some ⟨b, 0, none⟩)) := (cell_of_row _ _ _ _ _ _ h4).trans rfl
    clear h1 h3 h4
    go_enter Tryz.func66, Tryz.ntmps66
    go_wp2_with fail
    refine bodyPost_end (results_none rfl _ _ _) rfl ?_
    exact ⟨rfl, unhide HB, unhide HBe⟩
  · have HB : Hid (BtAt w b l) := hide ⟨_, v, h1, .inr rfl, h3⟩
    clear h1 h3
    go_enter Tryz.func66, Tryz.ntmps66
    go_wp2_with fail
    rw [Lib.run_neq_ptr_same w _ Tryz.underlying60 hj]
    go_wp2
    refine bodyPost_end (results_none rfl _ _ _) rfl ?_
    exact ⟨rfl, unhide HB, Below.refl _ _⟩
end Go.Proofs.YtankbanonbmffabGreatDoor
