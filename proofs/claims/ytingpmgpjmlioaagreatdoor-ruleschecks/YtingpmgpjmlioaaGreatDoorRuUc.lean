/-
  DERIVED. What the walks of tooMany, misnamed and misformed have in common.
-/
import Derived.Test.YtingpmgpjmlioaaGreatDoorRuId
import Derived.Test.YtingpmgpjmlioaaGreatDoorRuUb
namespace Go.Proofs.YtingpmgpjmlioaaGreatDoor
open Go.RowKit Go.Shelf
set_option linter.unusedVariables false

/-- Blocks of deferred calls that are empty. -/
def Mk (lo : Nat) (Ds : List Nat) (X : World) : Prop := ∀ D ∈ Ds, lo ≤ D ∧ X.heap[D]? = some (.deferred (some []))
theorem Mk.grown {lo : Nat} {Ds : List Nat} {X Y : World} (h : Mk lo Ds X) (hb : Below X.heap.size X Y) : Mk lo Ds Y := fun D hD =>
  ⟨(h D hD).1, rowKept (h D hD).2 hb (Nat.le_refl _)⟩
theorem Mk.kept {lo B : Nat} {Ds : List Nat} {X A Y : World} (h0 : Mk lo Ds X) (h : Mk lo Ds A) (hb : Below X.heap.size A Y) : Mk lo Ds Y := fun D hD =>
  ⟨(h D hD).1, (hb.block D ((Array.getElem?_eq_some_iff.1 (h0 D hD).2).1)).trans (h D hD).2⟩
theorem Mk.cons {lo D : Nat} {Ds : List Nat} {X : World} (h : Mk lo Ds X) (hD : lo ≤ D) (hK : X.heap[D]? = some (.deferred (some []))) : Mk lo (D :: Ds) X := fun E hE => by
  rcases List.mem_cons.1 hE with rfl | hE
  · exact ⟨hD, hK⟩
  · exact h E hE
theorem Mk.nil (lo : Nat) (X : World) : Mk lo [] X := fun D hD => by simp at hD

theorem results_b {P : Program} {fn : Func} {p : Tmp} {ty : TypeId} (h : fn.results = #[.cell p ty]) (tmps : Array Value) (w : World) (g : Nat) {x : Value}
    (hp : tmps.getD p undef = .pointer (some ⟨g, 0, none⟩)) (hl : (loadVar ty ⟨g, 0, none⟩).run P w = .ok x w) : (results fn tmps).run P w = .ok x w := by
  have hp' : tmps[p]?.getD undef = .pointer (some ⟨g, 0, none⟩) := by rw [← hp]; simp
  simp only [results, h]
  simp [hp', asAddr, hl]
theorem load_bool (w : World) (g : Nat) (b : Bool) (h : w.heap[g]? = some (.cells #[.bool b] 4)) : (loadVar 4 ⟨g, 0, none⟩).run Tryz.prog w = .ok (.bool b) w := by
  have hc : w.cell? ⟨g, 0, none⟩ = some (.bool b) := (cell_of_row _ _ _ _ _ _ h).trans rfl
  simp [loadVar, go_sem, hc]

/-- The function ends: its answer lies in its cell; the blocks of deferred calls are taken. -/
theorem leave_b {n : Nat} {fn : Func} {tmps : Array Value} {w : World} {Z : Bool} {q lo : Nat} (hres : fn.results = #[.cell 2 4]) (ht : tmps.getD 2 undef = .pointer (some ⟨q, 0, none⟩)) (hqlo : q < lo) (hwlo : w.heap.size ≤ lo) :
    ∀ (Ds : List Nat) (X : World), Ds.Nodup → Mk lo Ds X → X.heap[q]? = some (.cells #[.bool Z] 4) → Below w.heap.size w X →
      LeavesInM Fence.wide n Tryz.prog fn tmps (fun e w' => e = .returned (.bool Z) ∧ Below w.heap.size w w') (Ds.map (fun D => { target := .collected D, args := #[] })) .returning X
  | [], X, _, _, hq, hb => ⟨_, results_b hres _ _ q ht (load_bool _ _ _ hq), rfl, hb⟩
  | D :: Ds, X, hnd, hm, hq, hb => by
    obtain ⟨hD, hK⟩ := hm D (by simp)
    rw [List.nodup_cons] at hnd
    refine ⟨by simp, .inl ⟨D, _, rfl, run_takeDeferred hK, ?_⟩⟩
    refine leave_b hres ht hqlo hwlo Ds _ hnd.2 (fun E hE => ?_) ?_ ?_
    · have hne : E ≠ D := fun e => hnd.1 (e ▸ hE)
      exact ⟨(hm E (by simp [hE])).1, (World.putObj_heap_other hne).trans (hm E (by simp [hE])).2⟩
    · exact (World.putObj_heap_other (by omega)).trans hq
    · exact hb.trans (below_turn _ (by omega) hK)

/-- The two boxes ahead of all. -/
structure UB (w w2 : World) (B : Nat) (ha : Option Addr) (hn hc : Nat) (va : Option Addr) (vn vc : Nat) : Prop where
  hB : B = w.heap.size
  b2 : Below w.heap.size w w2
  s2 : w2.heap.size = B + 2
  row : w2.heap[B + 1]? = some (.cells #[.bool false] 4)
  rul : w2.heap[B]? = some (.cells (rulV ha hn hc va vn vc) 25)
theorem UB.new (w : World) (ha : Option Addr) (hn hc : Nat) (va : Option Addr) (vn vc : Nat) : UB w ((w.alloc (.cells (rulV ha hn hc va vn vc) 25)).alloc (.cells #[.bool false] 4)) w.heap.size ha hn hc va vn vc := by
  obtain ⟨h1, h2⟩ := boxes2 w (.cells (rulV ha hn hc va vn vc) 25) (.cells #[.bool false] 4)
  exact ⟨rfl, below2 _ _ _, by simp, h2, h1⟩
section
variable {w w2 X : World} {B : Nat} {ha : Option Addr} {hn hc : Nat} {va : Option Addr} {vn vc : Nat}
theorem UB.cells (h : UB w w2 B ha hn hc va vn vc) (hX : Below w2.heap.size w2 X) : X.cell? ⟨B, 0, none⟩ = some (.slice ha hn hc) ∧ X.cell? ⟨B, 1, none⟩ = some (.slice va vn vc) :=
  ⟨kept hX ((cell_of_row _ _ _ _ _ _ h.rul).trans rfl), kept hX ((cell_of_row _ _ _ _ _ _ h.rul).trans rfl)⟩
theorem UB.res (h : UB w w2 B ha hn hc va vn vc) (hX : Below w2.heap.size w2 X) : X.cell? ⟨B + 1, 0, none⟩ = some (.bool false) ∧ X.frozen? ⟨B + 1, 0, none⟩ = false := by
  have hr := rowKept h.row hX (Nat.le_refl _)
  exact ⟨(cell_of_row _ _ _ _ _ _ hr).trans rfl, by simp [World.frozen?, hr]⟩
/-- An answer is laid. -/
theorem UB.out (h : UB w w2 B ha hn hc va vn vc) {lo : Nat} {Ds : List Nat} {X1 : World} (hX : Below w2.heap.size w2 X) (h1 : Below X.heap.size X X1) (hlo : w2.heap.size ≤ lo) (hm : Mk w2.heap.size Ds X) (b : Bool) :
    KeepUp lo X (X1.setCell ⟨B + 1, 0, none⟩ (.bool b)) ∧ (X1.setCell ⟨B + 1, 0, none⟩ (.bool b)).heap[B + 1]? = some (.cells #[.bool b] 4) ∧ Below w.heap.size w (X1.setCell ⟨B + 1, 0, none⟩ (.bool b)) ∧ Mk w2.heap.size Ds (X1.setCell ⟨B + 1, 0, none⟩ (.bool b)) := by
  have hs := h.s2
  have hB := h.hB
  have hb : Below w2.heap.size w2 X1 := hX.trans (h1.mono hX.size)
  have hr := rowKept h.row hb (Nat.le_refl _)
  refine ⟨(KeepUp.of_below h1).set (show B + 1 < lo by omega) _, ?_, ((h.b2.trans (hb.mono h.b2.size))).setCell (show w.heap.size ≤ B + 1 by omega) _, fun D hD => ?_⟩
  · rw [heap_setCell_same _ (B + 1) 0 _ _ _ hr]; rfl
  · obtain ⟨h3, h4⟩ := (hm.grown h1) D hD
    exact ⟨h3, (heap_setCell_other _ ⟨B + 1, 0, none⟩ _ _ (show D ≠ B + 1 by omega)).trans h4⟩
end
theorem any_of_pre {α : Type} {p : α → Bool} {l pre : List α} (h : pre <+: l) (ha : pre.any p = true) : l.any p = true := by
  rw [List.any_eq_true] at ha ⊢
  obtain ⟨x, hx, hp⟩ := ha
  exact ⟨x, h.subset hx, hp⟩
theorem any_snoc_t {α : Type} {p : α → Bool} {pre : List α} {x : α} (h : p x = true) : (pre ++ [x]).any p = true := by simp [h]
theorem any_snoc_f {α : Type} {p : α → Bool} {pre : List α} {x : α} (h0 : pre.any p = false) (h : p x = false) : (pre ++ [x]).any p = false := by rw [List.any_append, h0]; simp [h]
theorem any_at {α : Type} {p : α → Bool} {l : List α} {k : Nat} {x : α} (hk : l[k]? = some x) (h : p x = true) : l.any p = true := by
  rw [List.any_eq_true]; exact ⟨x, List.mem_of_getElem? hk, h⟩
theorem any_take {α : Type} {p : α → Bool} {l : List α} {k : Nat} {x : α} (hk : l[k]? = some x) (h0 : (l.take k).any p = false) (h : p x = false) : (l.take (k + 1)).any p = false := by
  rw [List.take_add_one, hk]; exact any_snoc_f h0 h
/-- Of none, of some. -/
def Non {α : Type} (p : α → Bool) (l : List α) : Prop := l.any p = false
def Som {α : Type} (p : α → Bool) (l : List α) : Prop := l.any p = true
theorem dec16 (n m : Nat) : decide ((m : Int) < (n : Int)) = decide (m < n) := decide_eq_decide.2 (by omega)
end Go.Proofs.YtingpmgpjmlioaaGreatDoor
