/-
  DERIVED. Set, Get and Drop of records, in plain words (P12.5).
-/
import Derived.Test.YtfgjbmpbailebaaDoorShst
import Derived.Test.YtfgjbmpbailebaaDoorShbm
namespace Go.Proofs.YtfgjbmpbailebaaDoor
open Go.RowKit
set_option linter.unusedVariables false

theorem getA_getF (r : List Fld) (k : List UInt8) : getA r k = (getF r k).getD fld0 := rfl
theorem get_mem {L : List Fld} (h : Rising L) {g : Fld} (hg : g ∈ L) : getA L g.name = g ∧ hasF L g.name = true := by
  refine ⟨by rw [getA_getF, getF_once (rising_once h) hg]; rfl, ?_⟩
  unfold hasF
  rw [List.any_eq_true]
  exact ⟨g, hg, by simp⟩

theorem rising_lt {r : List Fld} (h : Rising r) {i j : Nat} {a b : Fld} (hij : i < j) (ha : r[i]? = some a) (hb : r[j]? = some b) : a.name < b.name := by
  obtain ⟨h1, e1⟩ := List.getElem?_eq_some_iff.1 ha
  obtain ⟨h2, e2⟩ := List.getElem?_eq_some_iff.1 hb
  rw [← e1, ← e2]
  exact List.pairwise_iff_getElem.1 h i j h1 h2 hij

/-- Around the place of a name. -/
theorem around {r : List Fld} (h : Rising r) (nm : List UInt8) : (∀ g ∈ r.take (atF r nm), g.name < nm) ∧ (∀ g ∈ r.drop (behF r nm), nm < g.name) := by
  cases hh : hasF r nm with
  | true =>
    obtain ⟨hl, hg⟩ := at_get hh
    have hn : (getA r nm).name = nm := by
      unfold hasF at hh
      rw [List.any_eq_true] at hh
      obtain ⟨f, hf, e⟩ := hh
      have := (get_mem h hf).1
      rw [beq_iff_eq.1 e] at this
      rw [this]; exact beq_iff_eq.1 e
    refine ⟨fun g hgm => ?_, fun g hgm => ?_⟩
    · obtain ⟨i, hi⟩ := List.mem_iff_getElem?.1 hgm
      have hil := (List.getElem?_eq_some_iff.1 hi).1
      rw [List.length_take] at hil
      rw [List.getElem?_take_of_lt (by omega)] at hi
      have := rising_lt h (show i < atF r nm by omega) hi hg
      rwa [hn] at this
    · obtain ⟨i, hi⟩ := List.mem_iff_getElem?.1 hgm
      rw [List.getElem?_drop] at hi
      have hb : behF r nm = atF r nm + 1 := by unfold behF; rw [hh]; rfl
      rw [hb] at hi
      have := rising_lt h (show atF r nm < atF r nm + 1 + i by omega) hg hi
      rwa [hn] at this
  | false =>
    have hno : ∀ f ∈ r, f.name ≠ nm := fun f hf e => by
      unfold hasF at hh
      rw [List.any_eq_false] at hh
      have := hh f hf
      simp [e] at this
    have hb : behF r nm = atF r nm := by unfold behF; rw [hh]; rfl
    have ha : atF r nm = r.findIdx (fun f => decide (nm < f.name)) := by
      have h1 : r.findIdx? (fun f => f.name == nm) = none := by
        rw [List.findIdx?_eq_none_iff]; intro f hf; simpa using hno f hf
      unfold atF; rw [h1]
    refine ⟨fun g hgm => ?_, fun g hgm => ?_⟩
    · obtain ⟨i, hi⟩ := List.mem_iff_getElem?.1 hgm
      have hil := (List.getElem?_eq_some_iff.1 hi).1
      rw [List.length_take] at hil
      rw [List.getElem?_take_of_lt (by omega)] at hi
      obtain ⟨hil2, e⟩ := List.getElem?_eq_some_iff.1 hi
      have hlt : i < r.findIdx (fun f => decide (nm < f.name)) := by rw [← ha]; omega
      have hnot := List.not_of_lt_findIdx hlt
      rw [e] at hnot
      have hnot' : ¬ nm < g.name := by simpa using hnot
      exact le_lt (List.not_lt.1 hnot') (hno g (List.mem_of_getElem? hi))
    · obtain ⟨i, hi⟩ := List.mem_iff_getElem?.1 hgm
      rw [List.getElem?_drop, hb, ha] at hi
      have hl : r.findIdx (fun f => decide (nm < f.name)) < r.length := by
        have := (List.getElem?_eq_some_iff.1 hi).1; omega
      have hq : nm < (r[r.findIdx (fun f => decide (nm < f.name))]).name := by
        have := List.findIdx_getElem (xs := r) (p := fun f => decide (nm < f.name)) (w := hl)
        simpa using this
      by_cases h0 : i = 0
      · subst h0
        obtain ⟨h1, e⟩ := List.getElem?_eq_some_iff.1 hi
        simp only [Nat.add_zero] at e
        rw [← e]; exact hq
      · exact List.lt_trans hq (rising_lt h (show r.findIdx (fun f => decide (nm < f.name)) < r.findIdx (fun f => decide (nm < f.name)) + i by omega) (List.getElem?_eq_getElem hl) hi)

theorem set_rising {r : List Fld} (h : Rising r) (f : Fld) : Rising (setF r f) := by
  obtain ⟨h1, h2⟩ := around h f.name
  unfold setF Rising
  refine List.pairwise_append.2 ⟨List.pairwise_append.2 ⟨h.sublist (List.take_sublist _ _), List.pairwise_singleton _ _, fun a ha b hb => by rw [List.mem_singleton.1 hb]; exact h1 a ha⟩, h.sublist (List.drop_sublist _ _), fun a ha b hb => ?_⟩
  rcases List.mem_append.1 ha with ha | ha
  · exact List.lt_trans (h1 a ha) (h2 b hb)
  · rw [List.mem_singleton.1 ha]; exact h2 b hb

theorem set_mem {r : List Fld} (h : Rising r) (f : Fld) {g : Fld} (hg : g ∈ r) (hne : g.name ≠ f.name) : g ∈ setF r f := by
  obtain ⟨h1, h2⟩ := around h f.name
  unfold setF
  obtain ⟨i, hi⟩ := List.mem_iff_getElem?.1 hg
  have hil := (List.getElem?_eq_some_iff.1 hi).1
  by_cases ha : i < atF r f.name
  · exact List.mem_append_left _ (List.mem_append_left _ (List.mem_iff_getElem?.2 ⟨i, by rw [List.getElem?_take_of_lt ha]; exact hi⟩))
  · by_cases hb : behF r f.name ≤ i
    · refine List.mem_append_right _ (List.mem_iff_getElem?.2 ⟨i - behF r f.name, ?_⟩)
      rw [List.getElem?_drop, show behF r f.name + (i - behF r f.name) = i by omega]; exact hi
    · cases hh : hasF r f.name with
      | false => unfold behF at hb; rw [hh] at hb; simp at hb; omega
      | true =>
        obtain ⟨_, hgt⟩ := at_get hh
        have he : i = atF r f.name := by unfold behF at hb; rw [hh] at hb; simp at hb; omega
        rw [he, hgt] at hi
        have hn : (getA r f.name).name = f.name := by
          unfold hasF at hh
          rw [List.any_eq_true] at hh
          obtain ⟨x, hx, e⟩ := hh
          have := (get_mem h hx).1
          rw [beq_iff_eq.1 e] at this
          rw [this]; exact beq_iff_eq.1 e
        cases hi
        exact absurd hn hne
theorem set_self (r : List Fld) (f : Fld) : f ∈ setF r f := by unfold setF; simp
theorem set_sub {r : List Fld} {f g : Fld} (h : g ∈ setF r f) : g ∈ r ∨ g = f := by
  unfold setF at h
  rcases List.mem_append.1 h with h | h
  · rcases List.mem_append.1 h with h | h
    · exact .inl (List.mem_of_mem_take h)
    · exact .inr (List.mem_singleton.1 h)
  · exact .inl (List.mem_of_mem_drop h)

/-- Set of a field that may be: a record, or one field too many. -/
theorem set_check {r : List Fld} {f : Fld} (hr : checkF r = 0) (hf : mayF f = 0) (hl : (setF r f).length ≤ 16) : checkF (setF r f) = 0 := by
  obtain ⟨h1, h2, h3⟩ := check_ok hr
  have hm : ∀ g ∈ setF r f, mayF g = 0 := fun g hg => by
    rcases set_sub hg with h | rfl
    · exact h2 g h
    · exact hf
  unfold checkF
  rw [if_neg (by omega)]
  exact chkL_of (set_rising h3 f) (fun g hg => nil_lt (nameB_len (may_ok (hm g hg)).1).1) hm

theorem set_len (r : List Fld) (f : Fld) : (setF r f).length ≤ r.length + 1 := by
  have := atF_le r f.name
  unfold setF; simp; omega

theorem drop_no {L : List Fld} (h : Rising L) (nm : List UInt8) : hasF (dropF L nm) nm = false := by
  obtain ⟨h1, h2⟩ := around h nm
  unfold hasF dropF
  rw [List.any_eq_false]
  intro g hg
  rcases List.mem_append.1 hg with hg | hg
  · have := h1 g hg
    simp only [beq_iff_eq]
    rintro e; rw [e] at this; exact List.lt_irrefl _ this
  · have := h2 g hg
    simp only [beq_iff_eq]
    rintro e; rw [e] at this; exact List.lt_irrefl _ this
theorem drop_len (L : List Fld) (nm : List UInt8) : (hasF L nm = true → (dropF L nm).length + 1 = L.length) ∧ (hasF L nm = false → (dropF L nm).length = L.length) := by
  have hle := atF_le L nm
  refine ⟨fun h => ?_, fun h => ?_⟩
  · have hb : behF L nm = atF L nm + 1 := by unfold behF; rw [h]; rfl
    unfold dropF; simp; omega
  · have hb : behF L nm = atF L nm := by unfold behF; rw [h]; rfl
    unfold dropF; simp; omega
end Go.Proofs.YtfgjbmpbailebaaDoor
