/-
  DERIVED. Events: what may be (P1.6), fields in memory, the walks of nameAllowed, fieldAllowed, hasField.
-/
import Derived.Test.YtabcmmhmghgliaaCbase
import Derived.Deep.RegionWith
namespace Go.Proofs.Ytabcmmhmghgliaa
open Go.RowKit
set_option linter.unusedVariables false

/-- A field. -/
structure Fld where
  name : List UInt8
  text : Bool
  n : Int
  s : List UInt8

/-- A name may be: P1.6. -/
def okName (s : List UInt8) : Prop := 1 ≤ s.length ∧ s.length ≤ 60
def okField (f : Fld) : Prop := okName f.name ∧ (f.text = true → f.s.length ≤ 200 ∧ f.n = 0) ∧ (f.text = false → f.s = [])
def okAt (fs : List Fld) (j : Nat) : Prop := ∃ f, fs[j]? = some f ∧ okField f ∧ ∀ k, k < j → ∀ g, fs[k]? = some g → g.name ≠ f.name
def okEvent (t : List UInt8) (v : Int) (fs : List Fld) : Prop := okName t ∧ 0 ≤ v ∧ v ≤ 1073741824 ∧ fs.length ≤ 16 ∧ ∀ j, j < fs.length → okAt fs j

abbrev sv (s : List UInt8) : Value := .string ⟨s.toArray⟩
abbrev fv (f : Fld) : Array Value := #[sv f.name, .bool f.text, .int .i64 f.n, sv f.s]

/-- A slice of fields that reads as these. -/
def FdL (w : World) (v : Value) (fs : List Fld) : Prop :=
  ∃ ao cap, v = .slice ao fs.length cap ∧ fs.length ≤ cap ∧ cap ≤ 9223372036854775807 ∧
    (fs.length ≠ 0 → ∃ b off, ao = some ⟨b, off, none⟩ ∧ b < w.heap.size ∧ ∀ i, (h : i < fs.length) →
      w.cell? ⟨b, off + i * 4, none⟩ = some (sv fs[i].name) ∧ w.cell? ⟨b, off + i * 4 + 1, none⟩ = some (.bool fs[i].text) ∧ w.cell? ⟨b, off + i * 4 + 2, none⟩ = some (.int .i64 fs[i].n) ∧ w.cell? ⟨b, off + i * 4 + 3, none⟩ = some (sv fs[i].s))

theorem FdL.below {B : Nat} {w w' : World} {v : Value} {fs : List Fld} (h : FdL w v fs) (hb : Below B w w') (hB : w.heap.size ≤ B) : FdL w' v fs := by
  obtain ⟨ao, cap, rfl, h1, h2, h4⟩ := h
  refine ⟨ao, cap, rfl, h1, h2, fun hz => ?_⟩
  obtain ⟨b, off, e, hlt, hc⟩ := h4 hz
  refine ⟨b, off, e, by have := hb.size; omega, fun i hi => ?_⟩
  obtain ⟨c0, c1, c2, c3⟩ := hc i hi
  exact ⟨(hb.cell (p := ⟨b, off + i * 4, none⟩) (by show b < B; omega)).trans c0, (hb.cell (p := ⟨b, off + i * 4 + 1, none⟩) (by show b < B; omega)).trans c1, (hb.cell (p := ⟨b, off + i * 4 + 2, none⟩) (by show b < B; omega)).trans c2, (hb.cell (p := ⟨b, off + i * 4 + 3, none⟩) (by show b < B; omega)).trans c3⟩

theorem FdL.take {w : World} {a : Option Addr} {n c : Nat} {fs : List Fld} (h : FdL w (.slice a n c) fs) (k : Nat) (hk : k ≤ fs.length) : FdL w (.slice a k c) (fs.take k) := by
  obtain ⟨ao, cap, e, h1, h2, h4⟩ := h
  cases e
  have hl : (fs.take k).length = k := by simp; omega
  refine ⟨a, c, by rw [hl], by rw [hl]; omega, h2, fun hz => ?_⟩
  rw [hl] at hz
  obtain ⟨b, off, e, hlt, hc⟩ := h4 (by omega)
  refine ⟨b, off, e, hlt, fun i hi => ?_⟩
  rw [hl] at hi
  have := hc i (by omega)
  simpa using this

open Classical in
/-- What a Prop answers. -/
noncomputable def ans (p : Prop) : Bool := decide p
open Classical in
theorem ans_true {p : Prop} (h : p) : ans p = true := by unfold ans; exact decide_eq_true h
open Classical in
theorem ans_false {p : Prop} (h : ¬ p) : ans p = false := by unfold ans; exact decide_eq_false h

theorem str_empty (s : List UInt8) : ((⟨s.toArray⟩ : ByteArray) == ⟨#[]⟩) = (s == []) := by
  cases s <;> rfl

set_option maxHeartbeats 1000000 in
theorem nameAllowed_any (s : List UInt8) (w : World) (hs : s.length ≤ 9223372036854775807) :
    Calls Try.prog 73 #[sv s] w fun e w' => e = .returned (.bool (ans (okName s))) ∧ w = w' := by
  by_cases hz : s = []
  · subst hz
    have HA := hide (ans_false (p := okName []) (by simp [okName]))
    go_enter Try.func73, Try.ntmps73
    go_wp2
    go_ret
    rw [unhide HA]
    exact ⟨rfl, rfl⟩
  · have hp : 0 < s.length := List.length_pos_iff.2 hz
    have hb : (s == []) = false := beq_eq_false_iff_ne.2 hz
    by_cases h60 : s.length ≤ 60
    · have HA := hide (ans_true (p := okName s) ⟨hp, h60⟩)
      have h60' : decide ((s.length : Int) ≤ 60) = true := decide_eq_true (by omega)
      clear hz
      go_enter Try.func73, Try.ntmps73
      go_wp2
      go_ret
      rw [unhide HA]
      exact ⟨rfl, rfl⟩
    · have HA := hide (ans_false (p := okName s) (fun h => h60 h.2))
      have h60' : decide ((s.length : Int) ≤ 60) = false := decide_eq_false (by omega)
      clear hz
      go_enter Try.func73, Try.ntmps73
      go_wp2
      go_ret
      rw [unhide HA]
      exact ⟨rfl, rfl⟩

/-- Fields whose texts are lengths of this machine. -/
def fits (f : Fld) : Prop := f.name.length ≤ 9223372036854775807 ∧ f.s.length ≤ 9223372036854775807

set_option maxHeartbeats 1000000 in
theorem fieldAllowed_any (f : Fld) (w : World) (hf : fits f) :
    Calls Try.prog 74 #[.agg (fv f)] w fun e w' => e = .returned (.bool (ans (okField f))) ∧ Below w.heap.size w w' := by
  obtain ⟨name, text, n, s⟩ := f
  obtain ⟨f1, f2⟩ := hf
  simp only at f1 f2
  have HB := hide ((Below.refl w.heap.size w).alloc (Nat.le_refl _) (.cells (fv ⟨name, text, n, s⟩) 73))
  by_cases hn : okName name
  · have HN := hide (ans_true hn)
    cases text with
    | true =>
      by_cases h2 : s.length ≤ 200
      · by_cases h3 : n = 0
        · subst h3
          have HA := hide (ans_true (p := okField ⟨name, true, 0, s⟩) ⟨hn, fun _ => ⟨h2, rfl⟩, fun h => by cases h⟩)
          have hd : decide ((s.length : Int) ≤ 200) = true := decide_eq_true (by omega)
          clear hn
          go_enter Try.func74, Try.ntmps74
          go_wp2_with (go_at_call 73; refine (nameAllowed_any name _ f1).mono ?_; rintro e w' ⟨rfl, rfl⟩; rw [unhide HN])
          go_ret
          rw [unhide HA]
          exact ⟨rfl, unhide HB⟩
        · have HA := hide (ans_false (p := okField ⟨name, true, n, s⟩) (fun h => h3 (h.2.1 rfl).2))
          have hd : decide ((s.length : Int) ≤ 200) = true := decide_eq_true (by omega)
          have h3' : (n == 0) = false := beq_eq_false_iff_ne.2 h3
          clear hn h3
          go_enter Try.func74, Try.ntmps74
          go_wp2_with (go_at_call 73; refine (nameAllowed_any name _ f1).mono ?_; rintro e w' ⟨rfl, rfl⟩; rw [unhide HN])
          go_ret
          rw [unhide HA]
          exact ⟨rfl, unhide HB⟩
      · have HA := hide (ans_false (p := okField ⟨name, true, n, s⟩) (fun h => h2 (h.2.1 rfl).1))
        have hd : decide ((s.length : Int) ≤ 200) = false := decide_eq_false (by omega)
        clear hn
        go_enter Try.func74, Try.ntmps74
        go_wp2_with (go_at_call 73; refine (nameAllowed_any name _ f1).mono ?_; rintro e w' ⟨rfl, rfl⟩; rw [unhide HN])
        go_ret
        rw [unhide HA]
        exact ⟨rfl, unhide HB⟩
    | false =>
      by_cases h3 : s = []
      · subst h3
        have HA := hide (ans_true (p := okField ⟨name, false, n, []⟩) ⟨hn, (fun h => by cases h), fun _ => rfl⟩)
        clear hn
        go_enter Try.func74, Try.ntmps74
        go_wp2_with (go_at_call 73; refine (nameAllowed_any name _ f1).mono ?_; rintro e w' ⟨rfl, rfl⟩; rw [unhide HN])
        go_ret
        rw [unhide HA]
        exact ⟨rfl, unhide HB⟩
      · have HA := hide (ans_false (p := okField ⟨name, false, n, s⟩) (fun h => h3 (h.2.2 rfl)))
        have h3' : (s == []) = false := beq_eq_false_iff_ne.2 h3
        clear hn h3
        go_enter Try.func74, Try.ntmps74
        go_wp2_with (go_at_call 73; refine (nameAllowed_any name _ f1).mono ?_; rintro e w' ⟨rfl, rfl⟩; rw [unhide HN])
        go_ret
        rw [unhide HA]
        exact ⟨rfl, unhide HB⟩
  · have HN := hide (ans_false hn)
    have HA := hide (ans_false (p := okField ⟨name, text, n, s⟩) (fun h => hn h.1))
    clear hn
    go_enter Try.func74, Try.ntmps74
    go_wp2_with (go_at_call 73; refine (nameAllowed_any name _ f1).mono ?_; rintro e w' ⟨rfl, rfl⟩; rw [unhide HN])
    go_ret
    rw [unhide HA]
    exact ⟨rfl, unhide HB⟩

set_option maxHeartbeats 2000000 in
theorem hasField_any (a : Option Addr) (n c : Nat) (fs : List Fld) (name : List UInt8) (w : World) (hv : FdL w (.slice a n c) fs) :
    Calls Try.prog 75 #[.slice a n c, sv name] w fun e w' => e = .returned (.bool (ans (∃ g ∈ fs, g.name = name))) ∧ Below w.heap.size w w' := by
  obtain ⟨ao, cap, e, h1, h2, h4⟩ := hv
  cases e
  obtain ⟨N, hN⟩ : ∃ N, N = fs.length := ⟨_, rfl⟩
  have HN := hide hN
  have H4 := hide h4
  rw [← hN] at h1 ⊢
  clear h4 hN
  go_enter Try.func75, Try.ntmps75
  go_wp2
  go_loopw [6, 9] (fun _ i wr => ∃ k : Nat, k ≤ N ∧ i = .int .i64 k ∧ Hid (∀ j, j < k → ∀ g, fs[j]? = some g → g.name ≠ name) ∧ Below w.heap.size w wr) (fun _ i _ => N - (intOf i).toNat)
  case atStart => exact ⟨0, by omega, rfl, hide (fun j hj => by omega), Below.refl _ _⟩
  case round =>
    obtain ⟨k, hk, rfl, HJ, hbel⟩ := hrel
    have hsw := hbel.size
    by_cases hlt : k < N
    · have hkl : k < fs.length := by have := unhide HN; omega
      obtain ⟨b, off, rfl, hb, hc⟩ := unhide H4 (by omega)
      obtain ⟨c0, c1, c2, c3⟩ := hc k hkl
      obtain ⟨f, hf⟩ : ∃ f, f = fs[k] := ⟨_, rfl⟩
      rw [← hf] at c0 c1 c2 c3
      have d0 := (hbel.cell (p := ⟨b, off + k * 4, none⟩) hb).trans c0
      have d1 := (hbel.cell (p := ⟨b, off + k * 4 + 1, none⟩) hb).trans c1
      have d2 := (hbel.cell (p := ⟨b, off + k * 4 + 2, none⟩) hb).trans c2
      have d3 := (hbel.cell (p := ⟨b, off + k * 4 + 3, none⟩) hb).trans c3
      have HF : Hid (fs[k]? = some f) := hide (by rw [hf]; exact List.getElem?_eq_getElem hkl)
      have HB := hide hbel
      obtain ⟨fn, ft, fi, fss⟩ := f
      simp only at d0 d1 d2 d3
      clear hf hc c0 c1 c2 c3 hbel
      by_cases he : fn = name
      · have hbq : (fn == name) = true := beq_iff_eq.2 he
        have HA := hide (ans_true (p := ∃ g ∈ fs, g.name = name) ⟨_, List.mem_of_getElem? (unhide HF), he⟩)
        clear he
        go_wp2
        go_ret
        rw [unhide HA]
        exact ⟨rfl, (unhide HB).alloc hsw _⟩
      · have hbq : (fn == name) = false := beq_eq_false_iff_ne.2 he
        have HJ2 : Hid (∀ j, j < k + 1 → ∀ g, fs[j]? = some g → g.name ≠ name) := hide (fun j hj g hg => by
          by_cases h : j < k
          · exact unhide HJ j h g hg
          · have : j = k := by omega
            subst this
            rw [unhide HF] at hg
            cases hg
            exact he)
        clear he
        go_wp2
        go_roundw
        case rel => exact ⟨k + 1, by omega, by go_num, HJ2, (unhide HB).alloc hsw _⟩
        case measure => simp [intOf]; omega
    · have HA := hide (ans_false (p := ∃ g ∈ fs, g.name = name) (by
        rintro ⟨g, hg, he⟩
        obtain ⟨j, hj, e⟩ := List.mem_iff_getElem.1 hg
        exact unhide HJ j (by have := unhide HN; omega) g (by rw [List.getElem?_eq_getElem hj, e]) he))
      have HB := hide hbel
      clear hbel
      go_wp2
      go_ret
      rw [unhide HA]
      exact ⟨rfl, unhide HB⟩
end Go.Proofs.Ytabcmmhmghgliaa
