/-
  DERIVED. The walks of namesOf, wrongChange.
-/
import Derived.Test.YtfgjbmpbailebaaDoorUpL
namespace Go.Proofs.YtfgjbmpbailebaaDoor
open Go.RowKit Go.Maps
set_option linter.unusedVariables false

/-- Names in a row of their own. -/
def Nms (w : World) (v : Value) (L : List (List UInt8)) : Prop := (L = [] ∧ v = .slice none 0 0) ∨ ∃ g, v = .slice (some ⟨g, 0, none⟩) L.length L.length ∧ ∀ i nm, L[i]? = some nm → w.cell? ⟨g, i, none⟩ = some (sv nm)
theorem Nms.below {B : Nat} {w w' : World} {v : Value} {L : List (List UInt8)} (h : Nms w v L) (hb : Below B w w') (hB : w.heap.size ≤ B) : Nms w' v L := by
  rcases h with h | ⟨g, e, h⟩
  · exact .inl h
  · exact .inr ⟨g, e, fun i nm hi => cell_kept hb hB (h i nm hi)⟩
theorem Nms.one (W : World) (x : List UInt8) : Nms (W.alloc (.cells #[sv x] 9)) (.slice (some ⟨W.heap.size, 0, none⟩) 1 1) [x] :=
  .inr ⟨W.heap.size, rfl, fun i nm hi => by
    have h := cell_of_row _ W.heap.size i _ _ _ (heap_alloc_new W (.cells #[sv x] 9))
    rw [h]
    rcases i with _ | i
    · simp at hi; subst hi; rfl
    · simp at hi⟩
theorem Nms.two (W : World) (x y : List UInt8) : Nms (W.alloc (.cells #[sv x, sv y] 9)) (.slice (some ⟨W.heap.size, 0, none⟩) 2 2) [x, y] :=
  .inr ⟨W.heap.size, rfl, fun i nm hi => by
    have h := cell_of_row _ W.heap.size i _ _ _ (heap_alloc_new W (.cells #[sv x, sv y] 9))
    rw [h]
    rcases i with _ | _ | i
    · simp at hi; subst hi; rfl
    · simp at hi; subst hi; rfl
    · simp at hi⟩

theorem isC_some' {k : Int} (h : isC k = true) : k = 1 ∨ k = 2 ∨ k = 3 ∨ k = 4 ∨ k = 5 := by
  unfold isC at h
  simp at h
  omega
theorem names1 (nm tn : List UInt8) (f : Fld) : namesC ⟨1, nm, tn, f⟩ = [f.name] := rfl
theorem names2 (nm tn : List UInt8) (f : Fld) : namesC ⟨2, nm, tn, f⟩ = [nm] := rfl
theorem names3 (nm tn : List UInt8) (f : Fld) : namesC ⟨3, nm, tn, f⟩ = [nm, tn] := rfl
theorem names4 (nm tn : List UInt8) (f : Fld) : namesC ⟨4, nm, tn, f⟩ = [nm] := rfl
theorem names5 (nm tn : List UInt8) (f : Fld) : namesC ⟨5, nm, tn, f⟩ = [nm] := rfl
theorem names_none {c : Chg} (h : isC c.kind = false) : namesC c = [] := by
  unfold isC at h
  simp only [Bool.and_eq_false_iff, decide_eq_false_iff_not] at h
  unfold namesC
  rw [if_neg (by omega), if_neg (by omega), if_neg (by omega)]

def NmPost (w : World) (L : List (List UInt8)) (e : Ending) (w' : World) : Prop := ∃ v, e = .returned v ∧ Nms w' v L ∧ Below w.heap.size w w'
set_option maxHeartbeats 2000000 in
theorem namesOf_any (c : Chg) (w : World) : Calls Tryd.prog 44 #[.agg (cgv c)] w (NmPost w (namesC c)) := by
  obtain ⟨kd, nm, tn, ⟨fn, ft, fi, fss⟩⟩ := c
  have hb1 : Below w.heap.size w (w.alloc (.cells (cgv ⟨kd, nm, tn, ⟨fn, ft, fi, fss⟩⟩) 49)) := (Below.refl _ _).alloc (Nat.le_refl _) _
  cases hk : isC kd with
  | false =>
    rw [names_none (c := ⟨kd, nm, tn, ⟨fn, ft, fi, fss⟩⟩) hk]
    have HB1 := hide hb1
    unfold isC at hk
    simp only [Bool.and_eq_false_iff, decide_eq_false_iff_not] at hk
    have k1 : (kd == 1) = false := by simp; omega
    have k2 : (kd == 2) = false := by simp; omega
    have k3 : (kd == 3) = false := by simp; omega
    have k4 : (kd == 4) = false := by simp; omega
    have k5 : (kd == 5) = false := by simp; omega
    clear hb1 hk
    go_enter Tryd.func44, Tryd.ntmps44
    go_wp2_with fail
    go_ret
    exact ⟨_, rfl, .inl ⟨rfl, rfl⟩, unhide HB1⟩
  | true =>
    have hp : ∀ (cs : Array Value), Below w.heap.size w ((w.alloc (.cells (cgv ⟨kd, nm, tn, ⟨fn, ft, fi, fss⟩⟩) 49)).alloc (.cells cs 9)) := fun cs => hb1.alloc hb1.size _
    have HB := hide hp
    have HN1 := hide (Nms.one (w.alloc (.cells (cgv ⟨kd, nm, tn, ⟨fn, ft, fi, fss⟩⟩) 49)))
    have HN2 := hide (Nms.two (w.alloc (.cells (cgv ⟨kd, nm, tn, ⟨fn, ft, fi, fss⟩⟩) 49)))
    have e1 : (w.alloc (.cells (cgv ⟨kd, nm, tn, ⟨fn, ft, fi, fss⟩⟩) 49)).heap.size = w.heap.size + 1 := by simp
    rw [e1] at HN1 HN2
    clear hp hb1 e1
    rcases isC_some' hk with rfl | rfl | rfl | rfl | rfl
    · rw [names1]
      clear hk
      go_enter Tryd.func44, Tryd.ntmps44
      go_wp2_with fail
      go_ret
      exact ⟨_, rfl, unhide HN1 fn, unhide HB _⟩
    · rw [names2]
      clear hk
      go_enter Tryd.func44, Tryd.ntmps44
      go_wp2_with fail
      go_ret
      exact ⟨_, rfl, unhide HN1 nm, unhide HB _⟩
    · rw [names3]
      clear hk
      go_enter Tryd.func44, Tryd.ntmps44
      go_wp2_with fail
      go_ret
      exact ⟨_, rfl, unhide HN2 nm tn, unhide HB _⟩
    · rw [names4]
      clear hk
      go_enter Tryd.func44, Tryd.ntmps44
      go_wp2_with fail
      go_ret
      exact ⟨_, rfl, unhide HN1 nm, unhide HB _⟩
    · rw [names5]
      clear hk
      go_enter Tryd.func44, Tryd.ntmps44
      go_wp2_with fail
      go_ret
      exact ⟨_, rfl, unhide HN1 nm, unhide HB _⟩
end Go.Proofs.YtfgjbmpbailebaaDoor
