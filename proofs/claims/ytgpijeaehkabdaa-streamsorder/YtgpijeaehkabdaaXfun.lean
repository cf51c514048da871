/-
  DERIVED. The walks of New, now, version, Len, Version.
-/
import Derived.Test.YtgpijeaehkabdaaXmem
namespace Go.Proofs.Ytgpijeaehkabdaa
open Go.RowKit Go.Maps
set_option linter.unusedVariables false

theorem mm1 (w : World) : (Instr.makeMap 65 none).run Try.prog w = .ok (.map (some w.heap.size)) (w.alloc (.map #[] 0)) := rfl
theorem mm2 (w : World) : (Instr.makeMap 66 none).run Try.prog w = .ok (.map (some w.heap.size)) (w.alloc (.map #[] 0)) := rfl
theorem sizeState : (Try.prog.info? 68).map (·.size) = some 3 := by kernel_rfl
abbrev stV (av : Value) (m k : Option Nat) : Array Value := #[av, .map m, .map k]

theorem empty_go (w : World) : Calls Try.prog 22 #[] w fun e w' => e = .returned (.pointer (some ⟨w.heap.size + 2, 0, none⟩)) ∧ w' = ((w.alloc (.map #[] 0)).alloc (.map #[] 0)).alloc (.cells (stV nilS (some w.heap.size) (some (w.heap.size + 1))) 68) := by
  have h1 := mm1
  have h2 := mm2
  go_enter Try.func22, Try.ntmps22
  go_wp2
  go_ret
  exact ⟨by first | rfl | simp, by first | rfl | simp⟩

def NewPost (w : World) (e : Ending) (w' : World) : Prop := ∃ x, e = .returned (.pointer (some ⟨x, 0, none⟩)) ∧ IxAt w' (fun k => w.heap.size ≤ k ∧ k < w'.heap.size) x 0 Ix.new ∧ Below w.heap.size w w'

theorem new_mem (w : World) : NewPost w (.returned (.pointer (some ⟨w.heap.size + 3, 0, none⟩))) ((((w.alloc (.map #[] 0)).alloc (.map #[] 0)).alloc (.cells (stV nilS (some w.heap.size) (some (w.heap.size + 1))) 68)).alloc (.cells #[.pointer (some ⟨w.heap.size + 2, 0, none⟩)] 63)) := by
  obtain ⟨W, hW⟩ : ∃ W, W = (((w.alloc (.map #[] 0)).alloc (.map #[] 0)).alloc (.cells (stV nilS (some w.heap.size) (some (w.heap.size + 1))) 68)).alloc (.cells #[.pointer (some ⟨w.heap.size + 2, 0, none⟩)] 63) := ⟨_, rfl⟩
  have hz : W.heap.size = w.heap.size + 4 := by rw [hW]; simp
  have hm := World.ownsMap_made (H := Value) w Try.prog 9 rawE
  have hk := World.ownsMap_made (H := Value) (w.alloc (.map #[] 0)) Try.prog 9 rawE
  have e1 : (w.alloc (.map #[] 0)).heap.size = w.heap.size + 1 := by simp
  rw [e1] at hk
  have hst := heap_alloc_self ((w.alloc (.map #[] 0)).alloc (.map #[] 0)) (.cells (stV nilS (some w.heap.size) (some (w.heap.size + 1))) 68)
  have e2 : ((w.alloc (.map #[] 0)).alloc (.map #[] 0)).heap.size = w.heap.size + 2 := by simp
  rw [e2] at hst
  have hix := heap_alloc_self (((w.alloc (.map #[] 0)).alloc (.map #[] 0)).alloc (.cells (stV nilS (some w.heap.size) (some (w.heap.size + 1))) 68)) (.cells #[.pointer (some ⟨w.heap.size + 2, 0, none⟩)] 63)
  have e3 : (((w.alloc (.map #[] 0)).alloc (.map #[] 0)).alloc (.cells (stV nilS (some w.heap.size) (some (w.heap.size + 1))) 68)).heap.size = w.heap.size + 3 := by simp
  rw [e3] at hix
  rw [← hW]
  have no : ∀ (n : Nat) (e : TypeId) (s : Nat), W.ownsRow 0 e s nilS 0 [] := fun n e s => World.ownsRow_nil _ _ _ _
  refine ⟨w.heap.size + 3, rfl, ⟨w.heap.size + 2, by rw [hW]; exact hix, by omega, w.heap.size, w.heap.size + 1, [], nilS, fun _ => nilS, .map [], .map [], ?_⟩, ?_⟩
  · exact
      { stc := by rw [hW, Below.heap_alloc _ _ _ (by rw [e3]; omega)]; exact hst
        row := no 0 _ _
        all := rfl
        fds := fun x hx => by simp at hx
        mpo := by rw [hW]; exact ((hm.alloc _).alloc _).alloc _
        mpa := fun s => rfl
        mph := fun kl => by simp [Ix.new, plc, Maps.has]
        rows := fun s => no 0 _ _
        apart := fun s s' q h => by cases h
        mko := by rw [hW]; exact (hk.alloc _).alloc _
        mka := fun k => rfl
        mkh := fun k => by simp [Ix.new, Maps.has]
        mne := by omega
        fst := by omega
        fmp := by omega
        fmk := by omega
        fav := fun q h => by cases h
        fpf := fun s q h => by cases h
        len := Nat.le_refl _
        nil := rfl
        avs := ⟨none, 0, rfl⟩ }
  · rw [hW]
    exact ((((Below.refl w.heap.size w).alloc (Nat.le_refl _) _).alloc (by rw [e1]; omega) _).alloc (by rw [e2]; omega) _).alloc (by rw [e3]; omega) _

theorem New_go (w : World) : Calls Try.prog 10 #[] w (NewPost w) := by
  have HP := hide (new_mem w)
  go_enter Try.func10, Try.ntmps10
  go_wp2_with fail
  refine (empty_go w).mono ?_
  rintro e w1 ⟨rfl, rfl⟩
  go_wp2
  go_ret
  have := unhide HP
  simpa using this

theorem now_go {w : World} {x st mp mk : Nat} {av : Value} (hx : w.heap[x]? = some (.cells #[.pointer (some ⟨st, 0, none⟩)] 63 (0, 0))) (hs : w.heap[st]? = some (.cells (stV av (some mp) (some mk)) 68 (0, 0))) (ha : ∃ a n c, av = .slice a n c) :
    Calls Try.prog 23 #[.pointer (some ⟨x, 0, none⟩)] w fun e w' => e = .returned (.agg (stV av (some mp) (some mk))) ∧ w' = w.alloc (.cells (stV av (some mp) (some mk)) 68) := by
  obtain ⟨a, n, c, rfl⟩ := ha
  have c0 : w.cell? ⟨x, 0, none⟩ = some (.pointer (some ⟨st, 0, none⟩)) := (cell_of_row _ _ _ _ _ _ hx).trans rfl
  have d0 : w.cell? ⟨st, 0, none⟩ = some (.slice a n c) := (cell_of_row _ _ _ _ _ _ hs).trans rfl
  have d1 : w.cell? ⟨st, 1, none⟩ = some (.map (some mp)) := (cell_of_row _ _ _ _ _ _ hs).trans rfl
  have d2 : w.cell? ⟨st, 2, none⟩ = some (.map (some mk)) := (cell_of_row _ _ _ _ _ _ hs).trans rfl
  have hxl := lt_of_block hx
  have hsl := lt_of_block hs
  clear hx hs
  go_enter Try.func23, Try.ntmps23
  go_wp2
  exact bodyPost_ret (results_cell_row rfl _ _ w.heap.size 68 (stV (.slice a n c) (some mp) (some mk)) (0, 0) _ rfl (heap_alloc_new _ _) Try.underlying68 rfl sizeState) rfl ⟨rfl, by first | rfl | simp⟩

theorem now_nil (w : World) : Calls Try.prog 23 #[.pointer none] w fun e w' => e = .returned (.agg (stV nilS none none)) ∧ w' = w.alloc (.cells (stV nilS none none) 68) := by
  go_enter Try.func23, Try.ntmps23
  go_wp2
  exact bodyPost_ret (results_cell_row rfl _ _ w.heap.size 68 (stV nilS none none) (0, 0) _ rfl (heap_alloc_new _ _) Try.underlying68 rfl sizeState) rfl ⟨rfl, by first | rfl | simp⟩
end Go.Proofs.Ytgpijeaehkabdaa
