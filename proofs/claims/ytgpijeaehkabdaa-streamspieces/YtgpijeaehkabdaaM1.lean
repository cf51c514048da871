/-
  DERIVED. Words shared by all walks of a seat without slices of bytes.
-/
import Derived.Test.YtgpijeaehkabdaaProg
import Derived.WalkKit
import Derived.ProofKit
import Derived.ArgAppend
import Derived.Laws.AppendOwnNone
import Derived.WalkLawsBesides
import Derived.KernelRfl
import Derived.Deep.RegionWith
import Derived.Deep.Cut
import Derived.Deep.CutRange
import Derived.Laws.MakeOwn
import Derived.Laws.CopyRow
import Derived.Deep.RegionLaw
import Derived.Maps.OwnSet
import Derived.Maps.AppendAt
import Derived.Laws.ResultCell
import Derived.Deep.RegionHeld3
namespace Go.Proofs.Ytgpijeaehkabdaa
open Go.RowKit

theorem hide {p : Prop} (h : p) : Hid p := h
theorem unhide {p : Prop} (h : Hid p) : p := h.out
theorem addr_add (b o j : Nat) : (⟨b, o, none⟩ : Addr).add j = ⟨b, o + j, none⟩ := by
  by_cases h : j = 0
  · subst h; simp [Addr.add]
  · simp [Addr.add, h]
end Go.Proofs.Ytgpijeaehkabdaa

/-
  DERIVED. Events: what may be (P1.6), fields in memory, the walks of nameAllowed, fieldAllowed, hasField.
-/
namespace Go.Proofs.Ytgpijeaehkabdaa
open Go.RowKit
set_option linter.unusedVariables false

/-- A field. -/
structure Fld where
  name : List UInt8
  text : Bool
  n : Int
  s : List UInt8

/-- A name may be: P1.6. -/
def okName (s : List UInt8) : Prop := 1 ≤ s.length ∧ s.length ≤ 60
def okField (f : Fld) : Prop := okName f.name ∧ (f.text = true → f.s.length ≤ 200 ∧ f.n = 0) ∧ (f.text = false → f.s = [])
def okAt (fs : List Fld) (j : Nat) : Prop := ∃ f, fs[j]? = some f ∧ okField f ∧ ∀ k, k < j → ∀ g, fs[k]? = some g → g.name ≠ f.name
def okEvent (t : List UInt8) (v : Int) (fs : List Fld) : Prop := okName t ∧ 0 ≤ v ∧ v ≤ 1073741824 ∧ fs.length ≤ 16 ∧ ∀ j, j < fs.length → okAt fs j

abbrev sv (s : List UInt8) : Value := .string ⟨s.toArray⟩
abbrev fv (f : Fld) : Array Value := #[sv f.name, .bool f.text, .int .i64 f.n, sv f.s]

/-- A slice of fields that reads as these. -/
def FdL (w : World) (v : Value) (fs : List Fld) : Prop :=
  ∃ ao cap, v = .slice ao fs.length cap ∧ fs.length ≤ cap ∧ cap ≤ 9223372036854775807 ∧
    (fs.length ≠ 0 → ∃ b off, ao = some ⟨b, off, none⟩ ∧ b < w.heap.size ∧ ∀ i, (h : i < fs.length) →
      w.cell? ⟨b, off + i * 4, none⟩ = some (sv fs[i].name) ∧ w.cell? ⟨b, off + i * 4 + 1, none⟩ = some (.bool fs[i].text) ∧ w.cell? ⟨b, off + i * 4 + 2, none⟩ = some (.int .i64 fs[i].n) ∧ w.cell? ⟨b, off + i * 4 + 3, none⟩ = some (sv fs[i].s))

theorem FdL.below {B : Nat} {w w' : World} {v : Value} {fs : List Fld} (h : FdL w v fs) (hb : Below B w w') (hB : w.heap.size ≤ B) : FdL w' v fs := by
  obtain ⟨ao, cap, rfl, h1, h2, h4⟩ := h
  refine ⟨ao, cap, rfl, h1, h2, fun hz => ?_⟩
  obtain ⟨b, off, e, hlt, hc⟩ := h4 hz
  refine ⟨b, off, e, by have := hb.size; omega, fun i hi => ?_⟩
  obtain ⟨c0, c1, c2, c3⟩ := hc i hi
  exact ⟨(hb.cell (p := ⟨b, off + i * 4, none⟩) (by show b < B; omega)).trans c0, (hb.cell (p := ⟨b, off + i * 4 + 1, none⟩) (by show b < B; omega)).trans c1, (hb.cell (p := ⟨b, off + i * 4 + 2, none⟩) (by show b < B; omega)).trans c2, (hb.cell (p := ⟨b, off + i * 4 + 3, none⟩) (by show b < B; omega)).trans c3⟩

theorem FdL.take {w : World} {a : Option Addr} {n c : Nat} {fs : List Fld} (h : FdL w (.slice a n c) fs) (k : Nat) (hk : k ≤ fs.length) : FdL w (.slice a k c) (fs.take k) := by
  obtain ⟨ao, cap, e, h1, h2, h4⟩ := h
  cases e
  have hl : (fs.take k).length = k := by simp; omega
  refine ⟨a, c, by rw [hl], by rw [hl]; omega, h2, fun hz => ?_⟩
  rw [hl] at hz
  obtain ⟨b, off, e, hlt, hc⟩ := h4 (by omega)
  refine ⟨b, off, e, hlt, fun i hi => ?_⟩
  rw [hl] at hi
  have := hc i (by omega)
  simpa using this

open Classical in
/-- What a Prop answers. -/
noncomputable def ans (p : Prop) : Bool := decide p
open Classical in
theorem ans_true {p : Prop} (h : p) : ans p = true := by unfold ans; exact decide_eq_true h
open Classical in
theorem ans_false {p : Prop} (h : ¬ p) : ans p = false := by unfold ans; exact decide_eq_false h

theorem str_empty (s : List UInt8) : ((⟨s.toArray⟩ : ByteArray) == ⟨#[]⟩) = (s == []) := by
  cases s <;> rfl

set_option maxHeartbeats 1000000 in
theorem nameAllowed_any (s : List UInt8) (w : World) (hs : s.length ≤ 9223372036854775807) :
    Calls Try.prog 59 #[sv s] w fun e w' => e = .returned (.bool (ans (okName s))) ∧ w = w' := by
  by_cases hz : s = []
  · subst hz
    have HA := hide (ans_false (p := okName []) (by simp [okName]))
    go_enter Try.func59, Try.ntmps59
    go_wp2
    go_ret
    rw [unhide HA]
    exact ⟨rfl, rfl⟩
  · have hp : 0 < s.length := List.length_pos_iff.2 hz
    have hb : (s == []) = false := beq_eq_false_iff_ne.2 hz
    by_cases h60 : s.length ≤ 60
    · have HA := hide (ans_true (p := okName s) ⟨hp, h60⟩)
      have h60' : decide ((s.length : Int) ≤ 60) = true := decide_eq_true (by omega)
      clear hz
      go_enter Try.func59, Try.ntmps59
      go_wp2
      go_ret
      rw [unhide HA]
      exact ⟨rfl, rfl⟩
    · have HA := hide (ans_false (p := okName s) (fun h => h60 h.2))
      have h60' : decide ((s.length : Int) ≤ 60) = false := decide_eq_false (by omega)
      clear hz
      go_enter Try.func59, Try.ntmps59
      go_wp2
      go_ret
      rw [unhide HA]
      exact ⟨rfl, rfl⟩

/-- Fields whose texts are lengths of this machine. -/
def fits (f : Fld) : Prop := f.name.length ≤ 9223372036854775807 ∧ f.s.length ≤ 9223372036854775807

set_option maxHeartbeats 1000000 in
theorem fieldAllowed_any (f : Fld) (w : World) (hf : fits f) :
    Calls Try.prog 60 #[.agg (fv f)] w fun e w' => e = .returned (.bool (ans (okField f))) ∧ Below w.heap.size w w' := by
  obtain ⟨name, text, n, s⟩ := f
  obtain ⟨f1, f2⟩ := hf
  simp only at f1 f2
  have HB := hide ((Below.refl w.heap.size w).alloc (Nat.le_refl _) (.cells (fv ⟨name, text, n, s⟩) 92))
  by_cases hn : okName name
  · have HN := hide (ans_true hn)
    cases text with
    | true =>
      by_cases h2 : s.length ≤ 200
      · by_cases h3 : n = 0
        · subst h3
          have HA := hide (ans_true (p := okField ⟨name, true, 0, s⟩) ⟨hn, fun _ => ⟨h2, rfl⟩, fun h => by cases h⟩)
          have hd : decide ((s.length : Int) ≤ 200) = true := decide_eq_true (by omega)
          clear hn
          go_enter Try.func60, Try.ntmps60
          go_wp2_with (go_at_call 59; refine (nameAllowed_any name _ f1).mono ?_; rintro e w' ⟨rfl, rfl⟩; rw [unhide HN])
          go_ret
          rw [unhide HA]
          exact ⟨rfl, unhide HB⟩
        · have HA := hide (ans_false (p := okField ⟨name, true, n, s⟩) (fun h => h3 (h.2.1 rfl).2))
          have hd : decide ((s.length : Int) ≤ 200) = true := decide_eq_true (by omega)
          have h3' : (n == 0) = false := beq_eq_false_iff_ne.2 h3
          clear hn h3
          go_enter Try.func60, Try.ntmps60
          go_wp2_with (go_at_call 59; refine (nameAllowed_any name _ f1).mono ?_; rintro e w' ⟨rfl, rfl⟩; rw [unhide HN])
          go_ret
          rw [unhide HA]
          exact ⟨rfl, unhide HB⟩
      · have HA := hide (ans_false (p := okField ⟨name, true, n, s⟩) (fun h => h2 (h.2.1 rfl).1))
        have hd : decide ((s.length : Int) ≤ 200) = false := decide_eq_false (by omega)
        clear hn
        go_enter Try.func60, Try.ntmps60
        go_wp2_with (go_at_call 59; refine (nameAllowed_any name _ f1).mono ?_; rintro e w' ⟨rfl, rfl⟩; rw [unhide HN])
        go_ret
        rw [unhide HA]
        exact ⟨rfl, unhide HB⟩
    | false =>
      by_cases h3 : s = []
      · subst h3
        have HA := hide (ans_true (p := okField ⟨name, false, n, []⟩) ⟨hn, (fun h => by cases h), fun _ => rfl⟩)
        clear hn
        go_enter Try.func60, Try.ntmps60
        go_wp2_with (go_at_call 59; refine (nameAllowed_any name _ f1).mono ?_; rintro e w' ⟨rfl, rfl⟩; rw [unhide HN])
        go_ret
        rw [unhide HA]
        exact ⟨rfl, unhide HB⟩
      · have HA := hide (ans_false (p := okField ⟨name, false, n, s⟩) (fun h => h3 (h.2.2 rfl)))
        have h3' : (s == []) = false := beq_eq_false_iff_ne.2 h3
        clear hn h3
        go_enter Try.func60, Try.ntmps60
        go_wp2_with (go_at_call 59; refine (nameAllowed_any name _ f1).mono ?_; rintro e w' ⟨rfl, rfl⟩; rw [unhide HN])
        go_ret
        rw [unhide HA]
        exact ⟨rfl, unhide HB⟩
  · have HN := hide (ans_false hn)
    have HA := hide (ans_false (p := okField ⟨name, text, n, s⟩) (fun h => hn h.1))
    clear hn
    go_enter Try.func60, Try.ntmps60
    go_wp2_with (go_at_call 59; refine (nameAllowed_any name _ f1).mono ?_; rintro e w' ⟨rfl, rfl⟩; rw [unhide HN])
    go_ret
    rw [unhide HA]
    exact ⟨rfl, unhide HB⟩

set_option maxHeartbeats 2000000 in
theorem hasField_any (a : Option Addr) (n c : Nat) (fs : List Fld) (name : List UInt8) (w : World) (hv : FdL w (.slice a n c) fs) :
    Calls Try.prog 61 #[.slice a n c, sv name] w fun e w' => e = .returned (.bool (ans (∃ g ∈ fs, g.name = name))) ∧ Below w.heap.size w w' := by
  obtain ⟨ao, cap, e, h1, h2, h4⟩ := hv
  cases e
  obtain ⟨N, hN⟩ : ∃ N, N = fs.length := ⟨_, rfl⟩
  have HN := hide hN
  have H4 := hide h4
  rw [← hN] at h1 ⊢
  clear h4 hN
  go_enter Try.func61, Try.ntmps61
  go_wp2
  go_loopw [6, 9] (fun _ i wr => ∃ k : Nat, k ≤ N ∧ i = .int .i64 k ∧ Hid (∀ j, j < k → ∀ g, fs[j]? = some g → g.name ≠ name) ∧ Below w.heap.size w wr) (fun _ i _ => N - (intOf i).toNat)
  case atStart => exact ⟨0, by omega, rfl, hide (fun j hj => by omega), Below.refl _ _⟩
  case round =>
    obtain ⟨k, hk, rfl, HJ, hbel⟩ := hrel
    have hsw := hbel.size
    by_cases hlt : k < N
    · have hkl : k < fs.length := by have := unhide HN; omega
      obtain ⟨b, off, rfl, hb, hc⟩ := unhide H4 (by omega)
      obtain ⟨c0, c1, c2, c3⟩ := hc k hkl
      obtain ⟨f, hf⟩ : ∃ f, f = fs[k] := ⟨_, rfl⟩
      rw [← hf] at c0 c1 c2 c3
      have d0 := (hbel.cell (p := ⟨b, off + k * 4, none⟩) hb).trans c0
      have d1 := (hbel.cell (p := ⟨b, off + k * 4 + 1, none⟩) hb).trans c1
      have d2 := (hbel.cell (p := ⟨b, off + k * 4 + 2, none⟩) hb).trans c2
      have d3 := (hbel.cell (p := ⟨b, off + k * 4 + 3, none⟩) hb).trans c3
      have HF : Hid (fs[k]? = some f) := hide (by rw [hf]; exact List.getElem?_eq_getElem hkl)
      have HB := hide hbel
      obtain ⟨fn, ft, fi, fss⟩ := f
      simp only at d0 d1 d2 d3
      clear hf hc c0 c1 c2 c3 hbel
      by_cases he : fn = name
      · have hbq : (fn == name) = true := beq_iff_eq.2 he
        have HA := hide (ans_true (p := ∃ g ∈ fs, g.name = name) ⟨_, List.mem_of_getElem? (unhide HF), he⟩)
        clear he
        go_wp2
        go_ret
        rw [unhide HA]
        exact ⟨rfl, (unhide HB).alloc hsw _⟩
      · have hbq : (fn == name) = false := beq_eq_false_iff_ne.2 he
        have HJ2 : Hid (∀ j, j < k + 1 → ∀ g, fs[j]? = some g → g.name ≠ name) := hide (fun j hj g hg => by
          by_cases h : j < k
          · exact unhide HJ j h g hg
          · have : j = k := by omega
            subst this
            rw [unhide HF] at hg
            cases hg
            exact he)
        clear he
        go_wp2
        go_roundw
        case rel => exact ⟨k + 1, by omega, by go_num, HJ2, (unhide HB).alloc hsw _⟩
        case measure => simp [intOf]; omega
    · have HA := hide (ans_false (p := ∃ g ∈ fs, g.name = name) (by
        rintro ⟨g, hg, he⟩
        obtain ⟨j, hj, e⟩ := List.mem_iff_getElem.1 hg
        exact unhide HJ j (by have := unhide HN; omega) g (by rw [List.getElem?_eq_getElem hj, e]) he))
      have HB := hide hbel
      clear hbel
      go_wp2
      go_ret
      rw [unhide HA]
      exact ⟨rfl, unhide HB⟩
end Go.Proofs.Ytgpijeaehkabdaa

/-
  DERIVED. The walk of Check.
-/
namespace Go.Proofs.Ytgpijeaehkabdaa
open Go.RowKit
set_option linter.unusedVariables false

/-- An event's cells. -/
abbrev ev (t : List UInt8) (v : Int) (a : Option Addr) (n c : Nat) : Array Value := #[sv t, .int .i64 v, .slice a n c]

theorem not_event {t : List UInt8} {v : Int} {fs : List Fld} (h : ¬ (okName t ∧ 0 ≤ v ∧ v ≤ 1073741824 ∧ fs.length ≤ 16)) : ¬ okEvent t v fs := fun h' => h ⟨h'.1, h'.2.1, h'.2.2.1, h'.2.2.2.1⟩

open Classical in
/-- The number of Check's answer. -/
noncomputable def chk (p : Prop) : Int := if p then 0 else 13
open Classical in
theorem chk_ok {p : Prop} (h : p) : chk p = 0 := by unfold chk; rw [if_pos h]
open Classical in
theorem chk_bad {p : Prop} (h : ¬ p) : chk p = 13 := by unfold chk; rw [if_neg h]

theorem bel_call {w wr w4 : World} {o : Obj} (h : Below w.heap.size w wr) (h4 : Below (wr.alloc o).drew.heap.size (wr.alloc o).drew w4) : Below w.heap.size w w4 :=
  ((h.alloc h.size o).drew).trans (h4.mono (by show w.heap.size ≤ (wr.alloc o).heap.size; have := h.size; simp; omega))

theorem bel_call' {wr w4 : World} {o : Obj} (h4 : Below (wr.alloc o).drew.heap.size (wr.alloc o).drew w4) : Below wr.heap.size wr w4 :=
  (((Below.refl wr.heap.size wr).alloc (Nat.le_refl _) o).drew).trans (h4.mono (by show wr.heap.size ≤ (wr.alloc o).heap.size; simp))
theorem bel_call'' {B : Nat} {w0 wr w4 : World} {o : Obj} (h : Below B w0 wr) (hB : B ≤ wr.heap.size) (h4 : Below (wr.alloc o).drew.heap.size (wr.alloc o).drew w4) : Below B w0 w4 :=
  h.trans ((bel_call' h4).mono hB)

theorem head_cases {t : List UInt8} {v : Int} {m : Nat} (hn : okName t) (hbad : ¬ (okName t ∧ 0 ≤ v ∧ v ≤ 1073741824 ∧ m ≤ 16)) : v < 0 ∨ (0 ≤ v ∧ 1073741824 < v) ∨ (0 ≤ v ∧ v ≤ 1073741824 ∧ 16 < m) := by
  by_cases h1 : v < 0
  · exact .inl h1
  · by_cases h2 : 1073741824 < v
    · exact .inr (.inl ⟨by omega, h2⟩)
    · refine .inr (.inr ⟨by omega, by omega, ?_⟩)
      by_cases h3 : 16 < m
      · exact h3
      · exact absurd ⟨hn, by omega, by omega, by omega⟩ hbad

set_option maxHeartbeats 2000000 in
theorem Check_head (t : List UInt8) (v : Int) (a : Option Addr) (n c : Nat) (fs : List Fld) (w : World) (ht : t.length ≤ 9223372036854775807) (hv : FdL w (.slice a n c) fs) (hbad : ¬ (okName t ∧ 0 ≤ v ∧ v ≤ 1073741824 ∧ fs.length ≤ 16)) :
    Calls Try.prog 47 #[.agg (ev t v a n c)] w fun e w' => e = .returned (.int .i64 (chk (okEvent t v fs))) ∧ Below w.heap.size w w' := by
  obtain rfl : n = fs.length := by obtain ⟨_, _, e, _⟩ := hv; cases e; rfl
  have HA := hide (chk_bad (not_event hbad))
  have HB := hide ((Below.refl w.heap.size w).alloc (Nat.le_refl _) (.cells (ev t v a fs.length c) 43))
  by_cases hn : okName t
  · have HN := hide (ans_true hn)
    rcases head_cases hn hbad with h | ⟨h1, h2⟩ | ⟨h1, h2, h3⟩
    all_goals
      clear hbad hn
      go_enter Try.func47, Try.ntmps47
      go_wp2_with (go_at_call 59; refine (nameAllowed_any t _ ht).mono ?_; rintro e w' ⟨rfl, rfl⟩; rw [unhide HN])
      go_ret
      rw [unhide HA]
      exact ⟨rfl, unhide HB⟩
  · have HN := hide (ans_false hn)
    clear hbad hn
    go_enter Try.func47, Try.ntmps47
    go_wp2_with (go_at_call 59; refine (nameAllowed_any t _ ht).mono ?_; rintro e w' ⟨rfl, rfl⟩; rw [unhide HN])
    go_ret
    rw [unhide HA]
    exact ⟨rfl, unhide HB⟩

set_option maxHeartbeats 4000000 in
theorem Check_fields (t : List UInt8) (v : Int) (a : Option Addr) (n c : Nat) (fs : List Fld) (w : World) (ht : t.length ≤ 9223372036854775807) (hv : FdL w (.slice a n c) fs) (hfit : ∀ f ∈ fs, fits f) (hn : okName t) (h1 : 0 ≤ v) (h2 : v ≤ 1073741824) (h3 : fs.length ≤ 16) :
    Calls Try.prog 47 #[.agg (ev t v a n c)] w fun e w' => e = .returned (.int .i64 (chk (okEvent t v fs))) ∧ Below w.heap.size w w' := by
  obtain ⟨ao, cap, e, g1, g2, g4⟩ := id hv
  cases e
  have HNm := hide (ans_true hn)
  have HE := hide (show (∀ j, j < fs.length → okAt fs j) → okEvent t v fs from fun h => ⟨hn, h1, h2, h3, h⟩)
  obtain ⟨N, hN⟩ : ∃ N, N = fs.length := ⟨_, rfl⟩
  have HN := hide hN
  have HV := hide hv
  have H4 := hide g4
  have HFit := hide hfit
  rw [← hN] at g1 h3 ⊢
  clear g4 hN hv hfit hn
  go_enter Try.func47, Try.ntmps47
  go_wp2_with (go_at_call 59; refine (nameAllowed_any t _ ht).mono ?_; rintro e w' ⟨rfl, rfl⟩; rw [unhide HNm])
  obtain ⟨w0, hw0⟩ : ∃ w0, w0 = w.alloc (.cells (ev t v a N c) 43) := ⟨_, rfl⟩
  rw [← hw0]
  have s0 : w.heap.size < w0.heap.size := by rw [hw0]; simp
  have b0 : Below w.heap.size w w0 := by rw [hw0]; exact (Below.refl _ _).alloc (Nat.le_refl _) _
  have z2 : w0.cell? ⟨w.heap.size, 2, none⟩ = some (.slice a N c) := by rw [hw0]; simp
  have HB0 := hide b0
  clear hw0 b0
  go_loopw [3, 4, 28] (fun _ _ i wr => ∃ k : Nat, k ≤ N ∧ i = .int .i64 k ∧ Hid (∀ j, j < k → okAt fs j) ∧ Below w0.heap.size w0 wr) (fun _ _ i _ => N - (intOf i).toNat)
  case atStart => exact ⟨0, by omega, rfl, hide (fun j hj => by omega), Below.refl _ _⟩
  case round =>
    obtain ⟨k, hk, rfl, HJ, hbel⟩ := hrel
    have hsw := hbel.size
    have z2r := (hbel.cell (p := ⟨w.heap.size, 2, none⟩) s0).trans z2
    have HWr := hide ((unhide HB0).trans (hbel.mono (by omega)))
    clear z2
    by_cases hlt : k < N
    · have hkl : k < fs.length := by have := unhide HN; omega
      obtain ⟨b, off, rfl, hb, hc⟩ := unhide H4 (by omega)
      obtain ⟨c0, c1, c2, c3⟩ := hc k hkl
      obtain ⟨f, hf⟩ : ∃ f, f = fs[k] := ⟨_, rfl⟩
      rw [← hf] at c0 c1 c2 c3
      have d0 := ((unhide HWr).cell (p := ⟨b, off + k * 4, none⟩) hb).trans c0
      have d1 := ((unhide HWr).cell (p := ⟨b, off + k * 4 + 1, none⟩) hb).trans c1
      have d2 := ((unhide HWr).cell (p := ⟨b, off + k * 4 + 2, none⟩) hb).trans c2
      have d3 := ((unhide HWr).cell (p := ⟨b, off + k * 4 + 3, none⟩) hb).trans c3
      have HF : Hid (fs[k]? = some f) := hide (by rw [hf]; exact List.getElem?_eq_getElem hkl)
      have HFf := hide (unhide HFit f (by rw [hf]; exact List.getElem_mem hkl))
      have HB := hide hbel
      clear hf hc c0 c1 c2 c3 hbel
      have HF4 := hide (fun o => (unhide HWr).alloc (by omega) o)
      obtain ⟨fn, ft, fi, fss⟩ := f
      simp only at d0 d1 d2 d3
      have z2a : ∀ o, (wr.alloc o).cell? ⟨w.heap.size, 2, none⟩ = some (.slice (some ⟨b, off, none⟩) N c) := fun o => (((Below.refl wr.heap.size wr).alloc (Nat.le_refl _) o).cell (p := ⟨w.heap.size, 2, none⟩) (by show w.heap.size < wr.heap.size; omega)).trans z2r
      by_cases hok : okField ⟨fn, ft, fi, fss⟩
      · have HOK := hide (ans_true hok)
        have HT := hide ((((unhide HV).below (unhide HWr) (Nat.le_refl _)).take k (by omega)))
        by_cases hdup : ∃ g ∈ fs.take k, g.name = fn
        · have HDU := hide (ans_true hdup)
          have HA := hide (chk_bad (p := okEvent t v fs) (fun h => by
            obtain ⟨g, hg, _, h6⟩ := h.2.2.2.2 k hkl
            rw [unhide HF] at hg
            cases hg
            obtain ⟨q, hq, he⟩ := hdup
            obtain ⟨j, hj, e⟩ := List.mem_iff_getElem.1 hq
            have hj' : j < k := by simp at hj; omega
            refine h6 j hj' q ?_ he
            rw [← e, List.getElem_take]
            exact List.getElem?_eq_getElem (by omega)))
          clear hok hdup
          go_upto_region 6 with fail
          first | (go_region_with (first | (go_at_call 60; refine (fieldAllowed_any ⟨fn, ft, fi, fss⟩ _ (unhide HFf)).mono ?_; rintro e w4 ⟨rfl, b4⟩; rw [unhide HOK]; have HB4 := hide b4; have s4 := b4.size; have z24 := b4.cell (p := ⟨w.heap.size, 2, none⟩) (by simp; omega); have n4 := b4.cell (p := ⟨wr.heap.size, 0, none⟩) (by simp); simp [z2a] at z24 n4 s4; clear b4) | (go_at_call 61; refine (hasField_any _ _ _ (fs.take k) fn _ ((unhide HT).below (bel_call' (unhide HB4)) (Nat.le_refl _))).mono ?_; rintro e w5 ⟨rfl, b5⟩; rw [unhide HDU]; have HB5 := hide ((unhide HB4).trans (b5.mono (unhide HB4).size)); clear b5))) | fail
          all_goals
            go_wp2
            go_ret
            rw [unhide HA]
            exact ⟨rfl, bel_call (unhide HWr) (unhide HB5)⟩
        · have HDU := hide (ans_false hdup)
          have HJ2 : Hid (∀ j, j < k + 1 → okAt fs j) := hide (fun j hj => by
            by_cases h : j < k
            · exact unhide HJ j h
            · have : j = k := by omega
              subst this
              refine ⟨_, unhide HF, hok, fun i hi g hg he => hdup ⟨g, ?_, he⟩⟩
              rw [List.mem_iff_getElem?]
              exact ⟨i, by rw [List.getElem?_take_of_lt hi]; exact hg⟩)
          clear hok hdup
          go_upto_region 6 with fail
          first | (go_region_with (first | (go_at_call 60; refine (fieldAllowed_any ⟨fn, ft, fi, fss⟩ _ (unhide HFf)).mono ?_; rintro e w4 ⟨rfl, b4⟩; rw [unhide HOK]; have HB4 := hide b4; have s4 := b4.size; have z24 := b4.cell (p := ⟨w.heap.size, 2, none⟩) (by simp; omega); have n4 := b4.cell (p := ⟨wr.heap.size, 0, none⟩) (by simp); simp [z2a] at z24 n4 s4; clear b4) | (go_at_call 61; refine (hasField_any _ _ _ (fs.take k) fn _ ((unhide HT).below (bel_call' (unhide HB4)) (Nat.le_refl _))).mono ?_; rintro e w5 ⟨rfl, b5⟩; rw [unhide HDU]; have HB5 := hide ((unhide HB4).trans (b5.mono (unhide HB4).size)); clear b5))) | fail
          all_goals
            go_wp2
            go_roundw
            case rel => exact ⟨k + 1, by omega, by go_num, HJ2, bel_call'' (unhide HB) hsw (unhide HB5)⟩
            case measure => simp [intOf]; omega
      · have HOK := hide (ans_false hok)
        have HA := hide (chk_bad (p := okEvent t v fs) (fun h => by
          obtain ⟨g, hg, h5, _⟩ := h.2.2.2.2 k hkl
          rw [unhide HF] at hg
          cases hg
          exact hok h5))
        clear hok
        go_upto_region 6 with fail
        first | (go_region_with (go_at_call 60; refine (fieldAllowed_any ⟨fn, ft, fi, fss⟩ _ (unhide HFf)).mono ?_; rintro e w4 ⟨rfl, b4⟩; rw [unhide HOK]; have HB4 := hide b4; clear b4)) | fail
        all_goals
          go_wp2
          go_ret
          rw [unhide HA]
          exact ⟨rfl, bel_call (unhide HWr) (unhide HB4)⟩
    · have HA := hide (chk_ok (unhide HE (fun j hj => unhide HJ j (by have := unhide HN; omega))))
      have HB := hide hbel
      clear hbel
      go_wp2
      go_ret
      rw [unhide HA]
      exact ⟨rfl, unhide HWr⟩
/-- Check. -/
theorem Check_any (t : List UInt8) (v : Int) (a : Option Addr) (n c : Nat) (fs : List Fld) (w : World) (ht : t.length ≤ 9223372036854775807) (hv : FdL w (.slice a n c) fs) (hfit : ∀ f ∈ fs, fits f) :
    Calls Try.prog 47 #[.agg (ev t v a n c)] w fun e w' => e = .returned (.int .i64 (chk (okEvent t v fs))) ∧ Below w.heap.size w w' := by
  by_cases h : okName t ∧ 0 ≤ v ∧ v ≤ 1073741824 ∧ fs.length ≤ 16
  · exact Check_fields t v a n c fs w ht hv hfit h.1 h.2.1 h.2.2.1 h.2.2.2
  · exact Check_head t v a n c fs w ht hv h
end Go.Proofs.Ytgpijeaehkabdaa

/-
  DERIVED. Events in memory; the walks of Opened, namesAllowed, refused, eventsAllowed.
-/
namespace Go.Proofs.Ytgpijeaehkabdaa
open Go.RowKit
set_option linter.unusedVariables false

structure Evn where
  type : List UInt8
  ver : Int
  fields : List Fld

/-- An event whose texts are of this machine. -/
def fitE (e : Evn) : Prop := e.type.length ≤ 9223372036854775807 ∧ ∀ f ∈ e.fields, fits f
def okEv (e : Evn) : Prop := okEvent e.type e.ver e.fields

/-- A slice of events that reads as these. -/
def EvL (w : World) (v : Value) (es : List Evn) : Prop :=
  ∃ ao cap, v = .slice ao es.length cap ∧ es.length ≤ cap ∧ cap ≤ 9223372036854775807 ∧
    (es.length ≠ 0 → ∃ b off, ao = some ⟨b, off, none⟩ ∧ b < w.heap.size ∧ ∀ i, (h : i < es.length) →
      w.cell? ⟨b, off + i * 3, none⟩ = some (sv es[i].type) ∧ w.cell? ⟨b, off + i * 3 + 1, none⟩ = some (.int .i64 es[i].ver) ∧ ∃ a n c, w.cell? ⟨b, off + i * 3 + 2, none⟩ = some (.slice a n c) ∧ FdL w (.slice a n c) es[i].fields)

theorem EvL.below {B : Nat} {w w' : World} {v : Value} {es : List Evn} (h : EvL w v es) (hb : Below B w w') (hB : w.heap.size ≤ B) : EvL w' v es := by
  obtain ⟨ao, cap, rfl, h1, h2, h4⟩ := h
  refine ⟨ao, cap, rfl, h1, h2, fun hz => ?_⟩
  obtain ⟨b, off, e, hlt, hc⟩ := h4 hz
  refine ⟨b, off, e, by have := hb.size; omega, fun i hi => ?_⟩
  obtain ⟨c0, c1, a, n, c, c2, c3⟩ := hc i hi
  exact ⟨(hb.cell (p := ⟨b, off + i * 3, none⟩) (by show b < B; omega)).trans c0, (hb.cell (p := ⟨b, off + i * 3 + 1, none⟩) (by show b < B; omega)).trans c1, a, n, c, (hb.cell (p := ⟨b, off + i * 3 + 2, none⟩) (by show b < B; omega)).trans c2, c3.below hb hB⟩
theorem EvL.nil (w : World) : EvL w (.slice none 0 0) [] := ⟨none, 0, rfl, by simp, by omega, fun h => absurd rfl h⟩

theorem enters_ok {f : FuncId} {fn : Func} {c : Code} (hf : Try.prog.funcs[f]? = some fn) (hname : (fn.name == "runtime.NumGoroutine") = false) (hb : fn.body = some c) (args : Array Value) (w : World) : (callFunc f args).run Try.prog w = .ok (.enter f args) w := by
  have h1 : fn.name ≠ "runtime.NumGoroutine" := by simpa using hname
  simp [callFunc, hf, h1, hb]

theorem infoEvent : (Try.prog.info? 43).map (·.size) = some 3 := by kernel_rfl

theorem Opened_go (w : World) : Calls Try.prog 21 #[] w fun e w' => e = .returned (.agg (ev [111, 112, 101, 110, 101, 100] 1 none 0 0)) ∧ Below w.heap.size w w' := by
  have HB := hide ((Below.refl w.heap.size w).alloc (Nat.le_refl _) (.cells (ev [111, 112, 101, 110, 101, 100] 1 none 0 0) 43))
  go_enter Try.func21, Try.ntmps21
  go_wp2
  exact bodyPost_ret (results_cell_row rfl _ _ w.heap.size 43 (ev [111, 112, 101, 110, 101, 100] 1 none 0 0) (0, 0) _ rfl (heap_alloc_new _ _) Try.underlying43 rfl infoEvent) rfl ⟨rfl, unhide HB⟩

/-- Names that may be: P10.1. -/
def okNames (s k : List UInt8) : Prop := 1 ≤ s.length ∧ s.length ≤ 60 ∧ k.length ≤ 60

set_option maxHeartbeats 1000000 in
theorem namesAllowed_any (s k : List UInt8) (w : World) (hs : s.length ≤ 9223372036854775807) (hk : k.length ≤ 9223372036854775807) :
    Calls Try.prog 35 #[sv s, sv k] w fun e w' => e = .returned (.bool (ans (okNames s k))) ∧ w = w' := by
  by_cases hz : s = []
  · subst hz
    have HA := hide (ans_false (p := okNames [] k) (by simp [okNames]))
    go_enter Try.func35, Try.ntmps35
    go_wp2
    go_ret
    rw [unhide HA]
    exact ⟨rfl, rfl⟩
  · have hp : 0 < s.length := List.length_pos_iff.2 hz
    have hb : (s == []) = false := beq_eq_false_iff_ne.2 hz
    by_cases h60 : s.length ≤ 60
    · have h60' : decide ((s.length : Int) ≤ 60) = true := decide_eq_true (by omega)
      by_cases k60 : k.length ≤ 60
      · have HA := hide (ans_true (p := okNames s k) ⟨hp, h60, k60⟩)
        have k60' : decide ((k.length : Int) ≤ 60) = true := decide_eq_true (by omega)
        clear hz
        go_enter Try.func35, Try.ntmps35
        go_wp2
        go_ret
        rw [unhide HA]
        exact ⟨rfl, rfl⟩
      · have HA := hide (ans_false (p := okNames s k) (fun h => k60 h.2.2))
        have k60' : decide ((k.length : Int) ≤ 60) = false := decide_eq_false (by omega)
        clear hz
        go_enter Try.func35, Try.ntmps35
        go_wp2
        go_ret
        rw [unhide HA]
        exact ⟨rfl, rfl⟩
    · have HA := hide (ans_false (p := okNames s k) (fun h => h60 h.2.1))
      have h60' : decide ((s.length : Int) ≤ 60) = false := decide_eq_false (by omega)
      clear hz
      go_enter Try.func35, Try.ntmps35
      go_wp2
      go_ret
      rw [unhide HA]
      exact ⟨rfl, rfl⟩

set_option maxHeartbeats 1000000 in
theorem refused_any (t : List UInt8) (v : Int) (a : Option Addr) (n c : Nat) (fs : List Fld) (w : World) (ht : t.length ≤ 9223372036854775807) (hv : FdL w (.slice a n c) fs) (hfit : ∀ f ∈ fs, fits f) :
    Calls Try.prog 42 #[.agg (ev t v a n c)] w fun e w' => e = .returned (.bool (!ans (okEvent t v fs))) ∧ Below w.heap.size w w' := by
  have hb1 : Below w.heap.size w (w.alloc (.cells (ev t v a n c) 43)) := (Below.refl w.heap.size w).alloc (Nat.le_refl _) _
  have CK := hide (Check_any t v a n c fs (w.alloc (.cells (ev t v a n c) 43)) ht (hv.below hb1 (Nat.le_refl _)) hfit)
  have HB := hide hb1
  have hz1 := hb1.size
  clear hb1 hv hfit
  by_cases h : okEvent t v fs
  · have HA := hide (ans_true h)
    have HC := hide (chk_ok h)
    clear h
    go_enter Try.func42, Try.ntmps42
    go_wp2_with fail
    refine (unhide CK).mono ?_
    rintro e w2 ⟨rfl, b2⟩
    rw [unhide HC]
    have HB2 := hide ((unhide HB).trans (b2.mono hz1))
    clear b2
    go_wp2
    go_ret
    rw [unhide HA]
    exact ⟨rfl, unhide HB2⟩
  · have HA := hide (ans_false h)
    have HC := hide (chk_bad h)
    clear h
    go_enter Try.func42, Try.ntmps42
    go_wp2_with fail
    refine (unhide CK).mono ?_
    rintro e w2 ⟨rfl, b2⟩
    rw [unhide HC]
    have HB2 := hide ((unhide HB).trans (b2.mono hz1))
    clear b2
    go_wp2
    go_ret
    rw [unhide HA]
    exact ⟨rfl, unhide HB2⟩

/-- The place of the first that is refused, or -1. -/
def Idx (es : List Evn) (x : Int) : Prop := (x = -1 ∧ ∀ e ∈ es, okEv e) ∨ ∃ k : Nat, x = k ∧ ∃ e ∈ es, ¬ okEv e

set_option maxHeartbeats 4000000 in
theorem IndexFunc_go (a : Option Addr) (n c : Nat) (es : List Evn) (w : World) (hv : EvL w (.slice a n c) es) (hfit : ∀ e ∈ es, fitE e) :
    Calls Try.prog 46 #[.slice a n c, .func (.func 42) #[] #[]] w fun e w' => ∃ x, e = .returned (.int .i64 x) ∧ Idx es x ∧ Below w.heap.size w w' := by
  obtain ⟨ao, cap, e, h1, h2, h4⟩ := id hv
  cases e
  obtain ⟨N, hN⟩ : ∃ N, N = es.length := ⟨_, rfl⟩
  have HN := hide hN
  have H4 := hide h4
  have HV := hide hv
  have HF := hide hfit
  rw [← hN] at h1 ⊢
  clear h4 hN hv hfit
  have hent := enters_ok Try.func42 (by kernel_rfl) rfl
  go_enter Try.func46, Try.ntmps46
  go_wp2
  go_loopw [8] (fun i wr => ∃ k : Nat, k ≤ N ∧ i = .int .i64 k ∧ Hid (∀ j, j < k → ∀ g, es[j]? = some g → okEv g) ∧ Hid (Below w.heap.size w wr)) (fun i _ => N - (intOf i).toNat)
  case atStart => exact ⟨0, by omega, rfl, hide (fun j hj => by omega), hide (Below.refl _ _)⟩
  case round =>
    obtain ⟨k, hk, rfl, HJ, HB⟩ := hrel
    by_cases hlt : k < N
    · have hkl : k < es.length := by have := unhide HN; omega
      obtain ⟨b, off, rfl, hb, hc⟩ := unhide H4 (by omega)
      obtain ⟨c0, c1, fa, fl, fc, c2, c3⟩ := hc k hkl
      obtain ⟨f, hf⟩ : ∃ f, f = es[k] := ⟨_, rfl⟩
      rw [← hf] at c0 c1 c3
      have d0 := ((unhide HB).cell (p := ⟨b, off + k * 3, none⟩) hb).trans c0
      have d1 := ((unhide HB).cell (p := ⟨b, off + k * 3 + 1, none⟩) hb).trans c1
      have d2 := ((unhide HB).cell (p := ⟨b, off + k * 3 + 2, none⟩) hb).trans c2
      have HE : Hid (es[k]? = some f) := hide (by rw [hf]; exact List.getElem?_eq_getElem hkl)
      have hfe := unhide HF f (List.mem_of_getElem? (unhide HE))
      have CR := hide (refused_any f.type f.ver fa fl fc f.fields wr hfe.1 (c3.below (unhide HB) (Nat.le_refl _)) hfe.2)
      have hsz := (unhide HB).size
      obtain ⟨ft, fv, ff⟩ := f
      simp only at d0 d1 CR
      clear hf hc c0 c1 c2 c3 hfe
      by_cases he : okEv ⟨ft, fv, ff⟩
      · have HA := hide (ans_true (p := okEvent ft fv ff) he)
        have HJ2 : Hid (∀ j, j < k + 1 → ∀ g, es[j]? = some g → okEv g) := hide (fun j hj g hg => by
          by_cases h : j < k
          · exact unhide HJ j h g hg
          · have : j = k := by omega
            subst this
            rw [unhide HE] at hg
            cases hg
            exact he)
        clear he
        go_wp2_with fail
        refine (unhide CR).mono ?_
        rintro e w2 ⟨rfl, b2⟩
        rw [unhide HA]
        have HB2 := hide ((unhide HB).trans (b2.mono hsz))
        clear b2
        go_wp2
        go_roundw
        case rel => exact ⟨k + 1, by omega, by go_num, HJ2, HB2⟩
        case measure => simp [intOf]; omega
      · have HA := hide (ans_false (p := okEvent ft fv ff) he)
        have HX : Hid (Idx es k) := hide (.inr ⟨k, rfl, _, List.mem_of_getElem? (unhide HE), he⟩)
        clear he
        go_wp2_with fail
        refine (unhide CR).mono ?_
        rintro e w2 ⟨rfl, b2⟩
        rw [unhide HA]
        have HB2 := hide ((unhide HB).trans (b2.mono hsz))
        clear b2
        go_wp2
        go_ret
        exact ⟨_, rfl, unhide HX, unhide HB2⟩
    · have HX : Hid (Idx es (-1)) := hide (.inl ⟨rfl, fun g hg => by
        obtain ⟨j, hj, e⟩ := List.mem_iff_getElem.1 hg
        exact unhide HJ j (by have := unhide HN; omega) g (by rw [List.getElem?_eq_getElem hj, e])⟩)
      go_wp2
      go_ret
      exact ⟨_, rfl, unhide HX, unhide HB⟩

set_option maxHeartbeats 1000000 in
theorem ContainsFunc_go (a : Option Addr) (n c : Nat) (es : List Evn) (w : World) (hv : EvL w (.slice a n c) es) (hfit : ∀ e ∈ es, fitE e) :
    Calls Try.prog 41 #[.slice a n c, .func (.func 42) #[] #[]] w fun e w' => e = .returned (.bool (!ans (∀ e ∈ es, okEv e))) ∧ Below w.heap.size w w' := by
  have CI := hide (IndexFunc_go a n c es w hv hfit)
  clear hv hfit
  go_enter Try.func41, Try.ntmps41
  go_wp2_with fail
  refine (unhide CI).mono ?_
  rintro e w2 ⟨x, rfl, hx, b2⟩
  have HB := hide b2
  rcases hx with ⟨rfl, h⟩ | ⟨k, rfl, g, hg, h⟩
  · have HA := hide (ans_true h)
    clear h b2
    go_wp2
    go_ret
    rw [unhide HA]
    exact ⟨rfl, unhide HB⟩
  · have HA := hide (ans_false (p := ∀ e ∈ es, okEv e) fun h' => h (h' g hg))
    have hk : decide ((0 : Int) ≤ k) = true := decide_eq_true (by omega)
    clear h b2 hg
    go_wp2
    go_ret
    rw [unhide HA]
    exact ⟨by first | rfl | simp, unhide HB⟩

/-- Events that may be: P10.1. -/
def okEvs (es : List Evn) : Prop := 1 ≤ es.length ∧ es.length ≤ 16 ∧ ∀ e ∈ es, okEv e

set_option maxHeartbeats 1000000 in
theorem eventsAllowed_any (a : Option Addr) (n c : Nat) (es : List Evn) (w : World) (hv : EvL w (.slice a n c) es) (hfit : ∀ e ∈ es, fitE e) :
    Calls Try.prog 36 #[.slice a n c] w fun e w' => e = .returned (.bool (ans (okEvs es))) ∧ Below w.heap.size w w' := by
  have CI := hide (ContainsFunc_go a n c es w hv hfit)
  obtain ⟨N, hN⟩ : ∃ N, N = es.length := ⟨_, rfl⟩
  obtain rfl : n = N := by obtain ⟨_, _, e, _⟩ := hv; cases e; exact hN.symm
  have HN := hide hN
  clear hv hfit hN
  by_cases h0 : n = 0
  · subst h0
    have HA := hide (ans_false (p := okEvs es) fun h => by have := h.1; have := unhide HN; omega)
    go_enter Try.func36, Try.ntmps36
    go_wp2
    go_ret
    rw [unhide HA]
    exact ⟨rfl, Below.refl _ _⟩
  · have h0' : decide ((0 : Int) < (n : Int)) = true := decide_eq_true (by omega)
    by_cases h16 : n ≤ 16
    · have h16' : decide ((n : Int) ≤ 16) = true := decide_eq_true (by omega)
      by_cases h : ∀ e ∈ es, okEv e
      · have HA := hide (ans_true (p := okEvs es) ⟨by have := unhide HN; omega, by have := unhide HN; omega, h⟩)
        have HC := hide (ans_true h)
        clear h
        go_enter Try.func36, Try.ntmps36
        go_wp2_with fail
        refine (unhide CI).mono ?_
        rintro e w2 ⟨rfl, b2⟩
        rw [unhide HC]
        have HB := hide b2
        clear b2
        go_wp2
        go_ret
        rw [unhide HA]
        exact ⟨rfl, unhide HB⟩
      · have HA := hide (ans_false (p := okEvs es) fun h' => h h'.2.2)
        have HC := hide (ans_false h)
        clear h
        go_enter Try.func36, Try.ntmps36
        go_wp2_with fail
        refine (unhide CI).mono ?_
        rintro e w2 ⟨rfl, b2⟩
        rw [unhide HC]
        have HB := hide b2
        clear b2
        go_wp2
        go_ret
        rw [unhide HA]
        exact ⟨rfl, unhide HB⟩
    · have h16' : decide ((n : Int) ≤ 16) = false := decide_eq_false (by omega)
      have HA := hide (ans_false (p := okEvs es) fun h => by have := h.2.1; have := unhide HN; omega)
      go_enter Try.func36, Try.ntmps36
      go_wp2
      go_ret
      rw [unhide HA]
      exact ⟨rfl, Below.refl _ _⟩
end Go.Proofs.Ytgpijeaehkabdaa

/-
  DERIVED. Blocks of fields and of events that were made for them; boxes of an event, of a batch.
-/
namespace Go.Proofs.Ytgpijeaehkabdaa
open Go.RowKit
set_option linter.unusedVariables false

theorem heap_alloc_self (w : World) (o : Obj) : (w.alloc o).heap[w.heap.size]? = some o := heap_alloc_new w o
/-- A block of room for n fields, the first of which are these. -/
def FdBlk (w : World) (q n : Nat) (fs : List Fld) : Prop := ∃ cs : Array Value, w.heap[q]? = some (.cells cs 92 (0, 0)) ∧ cs.size = n * 4 ∧ fs.length ≤ n ∧ ∀ i, (h : i < fs.length) → cs[i * 4]? = some (sv fs[i].name) ∧ cs[i * 4 + 1]? = some (.bool fs[i].text) ∧ cs[i * 4 + 2]? = some (.int .i64 fs[i].n) ∧ cs[i * 4 + 3]? = some (sv fs[i].s)
theorem FdBlk.lt {w : World} {q n : Nat} {fs : List Fld} (h : FdBlk w q n fs) : q < w.heap.size := by obtain ⟨cs, h1, _⟩ := h; exact lt_of_block h1
theorem FdBlk.same {w w' : World} {q n : Nat} {fs : List Fld} (h : FdBlk w q n fs) (e : w'.heap[q]? = w.heap[q]?) : FdBlk w' q n fs := by obtain ⟨cs, h1, h2⟩ := h; exact ⟨cs, e.trans h1, h2⟩
theorem FdBlk.kind {w : World} {q n b : Nat} {fs : List Fld} {cs : Array Value} {t : TypeId} {fr : Nat × Nat} (h : FdBlk w q n fs) (hb : w.heap[b]? = some (.cells cs t fr)) (ht : t ≠ 92) : q ≠ b := by
  intro e
  subst e
  obtain ⟨cs', h1, _⟩ := h
  rw [h1] at hb
  simp only [Option.some.injEq, Obj.cells.injEq] at hb
  exact ht hb.2.1.symm
theorem FdBlk.fdl {w : World} {q n : Nat} {fs : List Fld} (h : FdBlk w q n fs) (hn : fs.length = n) (hm : n ≤ 1000000) : FdL w (.slice (some ⟨q, 0, none⟩) n n) fs := by
  have hl := h.lt
  obtain ⟨cs, h1, h2, h3, h4⟩ := h
  refine ⟨_, n, by rw [hn], by omega, by omega, fun _ => ⟨q, 0, rfl, hl, fun i hi => ?_⟩⟩
  obtain ⟨a0, a1, a2, a3⟩ := h4 i hi
  rw [Nat.zero_add]
  exact ⟨(cell_of_row _ _ _ _ _ _ h1).trans a0, (cell_of_row _ _ _ _ _ _ h1).trans a1, (cell_of_row _ _ _ _ _ _ h1).trans a2, (cell_of_row _ _ _ _ _ _ h1).trans a3⟩
theorem FdBlk.room {w : World} {q n : Nat} {fs : List Fld} (h : FdBlk w q n fs) (hl : fs.length < n) (j : Nat) (hj : j < 4) : (∃ v, w.cell? ⟨q, fs.length * 4 + j, none⟩ = some v) ∧ w.frozen? ⟨q, fs.length * 4 + j, none⟩ = false := by
  obtain ⟨cs, h1, h2, h3, h4⟩ := h
  have hlt : fs.length * 4 + j < cs.size := by omega
  exact ⟨⟨cs[fs.length * 4 + j], (cell_of_row _ _ _ _ _ _ h1).trans (Array.getElem?_eq_getElem hlt)⟩, by simp [World.frozen?, h1]⟩
theorem FdBlk.put {w : World} {q n : Nat} {fs : List Fld} (h : FdBlk w q n fs) (hl : fs.length < n) (f : Fld) : FdBlk ((((w.setCell ⟨q, fs.length * 4, none⟩ (sv f.name)).setCell ⟨q, fs.length * 4 + 1, none⟩ (.bool f.text)).setCell ⟨q, fs.length * 4 + 2, none⟩ (.int .i64 f.n)).setCell ⟨q, fs.length * 4 + 3, none⟩ (sv f.s)) q n (fs ++ [f]) := by
  obtain ⟨cs, h1, h2, h3, h4⟩ := h
  have e1 := heap_setCell_same w q (fs.length * 4) _ _ (sv f.name) h1
  have e2 := heap_setCell_same _ q (fs.length * 4 + 1) _ _ (.bool f.text) e1
  have e3 := heap_setCell_same _ q (fs.length * 4 + 2) _ _ (.int .i64 f.n) e2
  have e4 := heap_setCell_same _ q (fs.length * 4 + 3) _ _ (sv f.s) e3
  refine ⟨_, e4, by simp [h2], by simp; omega, fun i hi => ?_⟩
  simp only [Array.getElem?_setIfInBounds, Array.size_setIfInBounds]
  by_cases hlt : i < fs.length
  · rw [List.getElem_append_left hlt]
    obtain ⟨a0, a1, a2, a3⟩ := h4 i hlt
    refine ⟨?_, ?_, ?_, ?_⟩
    · rw [if_neg (by omega), if_neg (by omega), if_neg (by omega), if_neg (by omega)]; exact a0
    · rw [if_neg (by omega), if_neg (by omega), if_neg (by omega), if_neg (by omega)]; exact a1
    · rw [if_neg (by omega), if_neg (by omega), if_neg (by omega), if_neg (by omega)]; exact a2
    · rw [if_neg (by omega), if_neg (by omega), if_neg (by omega), if_neg (by omega)]; exact a3
  · have hi' : i = fs.length := by simp at hi; omega
    subst hi'
    have hf : (fs ++ [f])[fs.length] = f := by simp
    rw [hf]
    refine ⟨?_, ?_, ?_, ?_⟩
    · rw [if_neg (by omega), if_neg (by omega), if_neg (by omega), if_pos rfl, if_pos (by omega)]
    · rw [if_neg (by omega), if_neg (by omega), if_pos rfl, if_pos (by omega)]
    · rw [if_neg (by omega), if_pos rfl, if_pos (by omega)]
    · rw [if_pos rfl, if_pos (by omega)]
theorem infoField : (Try.prog.info? 92).map (fun i => (i.zero, i.size, i.bytes)) = some (some (.agg (fv ⟨[], false, 0, []⟩)), 4, 48) := by kernel_rfl
theorem make_fields (w : World) (n : Nat) (hn : n ≤ 16) : ∃ w', (Instr.makeSlice 41 (.int .i64 (n : Int)) (.int .i64 (n : Int))).run Try.prog w = .ok (.slice (some ⟨w.heap.size, 0, none⟩) n n) w' ∧ FdBlk w' w.heap.size n [] ∧ w.grownBy w' none := by
  obtain ⟨i, hi, hh⟩ := Option.map_eq_some_iff.1 infoField
  simp only [Prod.mk.injEq] at hh
  have h := run_make (P := Try.prog) w 41 92 i _ Try.underlying41 hi hh.1 .i64 .i64 n n (by omega) (Int.le_refl _) (by rw [hh.2.2]; omega) (by omega)
  rw [hh.2.1, Int.toNat_natCast] at h
  exact ⟨_, h, ⟨_, heap_alloc_self _ _, size_madeCells _ _, Nat.zero_le _, fun i hi => by simp at hi⟩, World.grownBy_alloc _ _ _⟩
/-- An event in a block of its own. -/
def EBox (w : World) (q : Nat) (t : List UInt8) (ver : Int) (v : Value) : Prop := w.heap[q]? = some (.cells #[sv t, .int .i64 ver, v] 43 (0, 0))
theorem EBox.cells {w : World} {q : Nat} {t : List UInt8} {ver : Int} {v : Value} (h : EBox w q t ver v) : w.cell? ⟨q, 0, none⟩ = some (sv t) ∧ w.cell? ⟨q, 1, none⟩ = some (.int .i64 ver) ∧ w.cell? ⟨q, 2, none⟩ = some v ∧ ∀ i, w.frozen? ⟨q, i, none⟩ = false :=
  ⟨(cell_of_row _ _ _ _ _ _ h).trans rfl, (cell_of_row _ _ _ _ _ _ h).trans rfl, (cell_of_row _ _ _ _ _ _ h).trans rfl, fun i => by simp [World.frozen?, show w.heap[q]? = _ from h]⟩
theorem EBox.set0 {w : World} {q : Nat} {t : List UInt8} {ver : Int} {v : Value} (h : EBox w q t ver v) (s : List UInt8) : EBox (w.setCell ⟨q, 0, none⟩ (sv s)) q s ver v := by unfold EBox; rw [heap_setCell_same w q 0 _ _ _ h]; rfl
theorem EBox.set1 {w : World} {q : Nat} {t : List UInt8} {ver : Int} {v : Value} (h : EBox w q t ver v) (n : Int) : EBox (w.setCell ⟨q, 1, none⟩ (.int .i64 n)) q t n v := by unfold EBox; rw [heap_setCell_same w q 1 _ _ _ h]; rfl
theorem EBox.set2 {w : World} {q : Nat} {t : List UInt8} {ver : Int} {v : Value} (h : EBox w q t ver v) (u : Value) : EBox (w.setCell ⟨q, 2, none⟩ u) q t ver u := by unfold EBox; rw [heap_setCell_same w q 2 _ _ _ h]; rfl
theorem EBox.same {w w' : World} {q : Nat} {t : List UInt8} {ver : Int} {v : Value} (h : EBox w q t ver v) (e : w'.heap[q]? = w.heap[q]?) : EBox w' q t ver v := e.trans h
theorem sizeEvent : (Try.prog.info? 43).map (·.size) = some 3 := by kernel_rfl
/-- A block of room for n events, the first of which are these; each with the block of its fields. -/
def EvBlk (w : World) (q n : Nat) (xs : List (Evn × Nat)) : Prop := (∃ cs : Array Value, w.heap[q]? = some (.cells cs 43 (0, 0)) ∧ cs.size = n * 3 ∧ xs.length ≤ n ∧ ∀ i, (h : i < xs.length) → cs[i * 3]? = some (sv xs[i].1.type) ∧ cs[i * 3 + 1]? = some (.int .i64 xs[i].1.ver) ∧ cs[i * 3 + 2]? = some (.slice (some ⟨xs[i].2, 0, none⟩) xs[i].1.fields.length xs[i].1.fields.length)) ∧ ∀ x ∈ xs, FdBlk w x.2 x.1.fields.length x.1.fields ∧ x.1.fields.length ≤ 16
theorem EvBlk.lt {w : World} {q n : Nat} {xs : List (Evn × Nat)} (h : EvBlk w q n xs) : q < w.heap.size := by obtain ⟨⟨cs, h1, _⟩, _⟩ := h; exact lt_of_block h1
theorem EvBlk.same {w w' : World} {q n : Nat} {xs : List (Evn × Nat)} (h : EvBlk w q n xs) (e : w'.heap[q]? = w.heap[q]?) (e2 : ∀ x ∈ xs, w'.heap[x.2]? = w.heap[x.2]?) : EvBlk w' q n xs := by
  obtain ⟨⟨cs, h1, h2⟩, h3⟩ := h
  exact ⟨⟨cs, e.trans h1, h2⟩, fun x hx => ⟨(h3 x hx).1.same (e2 x hx), (h3 x hx).2⟩⟩
theorem EvBlk.kind {w : World} {q n b : Nat} {xs : List (Evn × Nat)} {cs : Array Value} {t : TypeId} {fr : Nat × Nat} (h : EvBlk w q n xs) (hb : w.heap[b]? = some (.cells cs t fr)) (ht : t ≠ 43) : q ≠ b := by
  intro e
  subst e
  obtain ⟨⟨cs', h1, _⟩, _⟩ := h
  rw [h1] at hb
  simp only [Option.some.injEq, Obj.cells.injEq] at hb
  exact ht hb.2.1.symm
theorem EvBlk.fld {w : World} {q n : Nat} {xs : List (Evn × Nat)} (h : EvBlk w q n xs) : ∀ x ∈ xs, x.2 ≠ q := fun x hx => by
  obtain ⟨⟨cs, h1, _⟩, h3⟩ := h
  exact (h3 x hx).1.kind h1 (by decide)
theorem EvBlk.evl {w : World} {q n : Nat} {xs : List (Evn × Nat)} (h : EvBlk w q n xs) (hn : xs.length = n) (hm : n ≤ 16) : EvL w (.slice (some ⟨q, 0, none⟩) n n) (xs.map (·.1)) := by
  have hl := h.lt
  obtain ⟨⟨cs, h1, h2, h3, h4⟩, h5⟩ := h
  have hlen : (xs.map (·.1)).length = n := by rw [List.length_map, hn]
  refine ⟨_, n, by rw [hlen], by omega, by omega, fun _ => ⟨q, 0, rfl, hl, fun i hi => ?_⟩⟩
  have hi' : i < xs.length := by rw [hlen] at hi; omega
  obtain ⟨a0, a1, a2⟩ := h4 i hi'
  have he : (xs.map (·.1))[i] = xs[i].1 := by simp
  rw [Nat.zero_add, he]
  obtain ⟨q1, q2⟩ := h5 xs[i] (List.getElem_mem hi')
  exact ⟨(cell_of_row _ _ _ _ _ _ h1).trans a0, (cell_of_row _ _ _ _ _ _ h1).trans a1, _, _, _, (cell_of_row _ _ _ _ _ _ h1).trans a2, q1.fdl rfl (by omega)⟩
theorem EvBlk.room {w : World} {q n : Nat} {xs : List (Evn × Nat)} (h : EvBlk w q n xs) (hl : xs.length < n) (j : Nat) (hj : j < 3) : (∃ v, w.cell? ⟨q, xs.length * 3 + j, none⟩ = some v) ∧ w.frozen? ⟨q, xs.length * 3 + j, none⟩ = false := by
  obtain ⟨⟨cs, h1, h2, h3, h4⟩, _⟩ := h
  have hlt : xs.length * 3 + j < cs.size := by omega
  exact ⟨⟨cs[xs.length * 3 + j], (cell_of_row _ _ _ _ _ _ h1).trans (Array.getElem?_eq_getElem hlt)⟩, by simp [World.frozen?, h1]⟩
theorem EvBlk.put {w : World} {q n : Nat} {xs : List (Evn × Nat)} (h : EvBlk w q n xs) (hl : xs.length < n) (t : List UInt8) (ver : Int) (fb m : Nat) (fs : List Fld) (hf : FdBlk w fb m fs) (hm : fs.length = m) (hm2 : m ≤ 16) : EvBlk (((w.setCell ⟨q, xs.length * 3, none⟩ (sv t)).setCell ⟨q, xs.length * 3 + 1, none⟩ (.int .i64 ver)).setCell ⟨q, xs.length * 3 + 2, none⟩ (.slice (some ⟨fb, 0, none⟩) m m)) q n (xs ++ [(⟨t, ver, fs⟩, fb)]) := by
  have hfl := h.fld
  obtain ⟨⟨cs, h1, h2, h3, h4⟩, h5⟩ := h
  have hfq : fb ≠ q := hf.kind h1 (by decide)
  have e1 := heap_setCell_same w q (xs.length * 3) _ _ (sv t) h1
  have e2 := heap_setCell_same _ q (xs.length * 3 + 1) _ _ (.int .i64 ver) e1
  have e3 := heap_setCell_same _ q (xs.length * 3 + 2) _ _ (.slice (some ⟨fb, 0, none⟩) m m) e2
  have ho : ∀ p, p ≠ q → (((w.setCell ⟨q, xs.length * 3, none⟩ (sv t)).setCell ⟨q, xs.length * 3 + 1, none⟩ (.int .i64 ver)).setCell ⟨q, xs.length * 3 + 2, none⟩ (.slice (some ⟨fb, 0, none⟩) m m)).heap[p]? = w.heap[p]? := fun p hp => by
    rw [heap_setCell_other _ _ _ _ hp, heap_setCell_other _ _ _ _ hp, heap_setCell_other _ _ _ _ hp]
  refine ⟨⟨_, e3, by simp [h2], by simp; omega, fun i hi => ?_⟩, fun x hx => ?_⟩
  · simp only [Array.getElem?_setIfInBounds, Array.size_setIfInBounds]
    by_cases hlt : i < xs.length
    · rw [List.getElem_append_left hlt]
      obtain ⟨a0, a1, a2⟩ := h4 i hlt
      refine ⟨?_, ?_, ?_⟩
      · rw [if_neg (by omega), if_neg (by omega), if_neg (by omega)]; exact a0
      · rw [if_neg (by omega), if_neg (by omega), if_neg (by omega)]; exact a1
      · rw [if_neg (by omega), if_neg (by omega), if_neg (by omega)]; exact a2
    · have hi' : i = xs.length := by simp at hi; omega
      subst hi'
      have hf' : (xs ++ [((⟨t, ver, fs⟩ : Evn), fb)])[xs.length] = (⟨t, ver, fs⟩, fb) := by simp
      rw [hf']
      refine ⟨?_, ?_, ?_⟩
      · rw [if_neg (by omega), if_neg (by omega), if_pos rfl, if_pos (by omega)]
      · rw [if_neg (by omega), if_pos rfl, if_pos (by omega)]
      · rw [if_pos rfl, if_pos (by omega), hm]
  · rcases List.mem_append.1 hx with h' | h'
    · exact ⟨(h5 x h').1.same (ho _ (hfl x h')), (h5 x h').2⟩
    · rw [List.mem_singleton.1 h']
      show FdBlk _ fb fs.length fs ∧ fs.length ≤ 16
      rw [hm]
      exact ⟨hf.same (ho _ hfq), hm2⟩
theorem infoEvent3 : (Try.prog.info? 43).map (fun i => (i.zero, i.size, i.bytes)) = some (some (.agg (ev [] 0 none 0 0)), 3, 48) := by kernel_rfl
theorem make_events (w : World) (n : Nat) (hn : n ≤ 16) : ∃ w', (Instr.makeSlice 28 (.int .i64 (n : Int)) (.int .i64 (n : Int))).run Try.prog w = .ok (.slice (some ⟨w.heap.size, 0, none⟩) n n) w' ∧ EvBlk w' w.heap.size n [] ∧ w.grownBy w' none := by
  obtain ⟨i, hi, hh⟩ := Option.map_eq_some_iff.1 infoEvent3
  simp only [Prod.mk.injEq] at hh
  have h := run_make (P := Try.prog) w 28 43 i _ Try.underlying28 hi hh.1 .i64 .i64 n n (by omega) (Int.le_refl _) (by rw [hh.2.2]; omega) (by omega)
  rw [hh.2.1, Int.toNat_natCast] at h
  exact ⟨_, h, ⟨⟨_, heap_alloc_self _ _, size_madeCells _ _, Nat.zero_le _, fun i hi => by simp at hi⟩, fun x hx => by simp at hx⟩, World.grownBy_alloc _ _ _⟩
/-- A batch in a block of its own. -/
def BBox (w : World) (q : Nat) (s k : List UInt8) (fi : Int) (v : Value) : Prop := w.heap[q]? = some (.cells #[sv s, sv k, .int .i64 fi, v] 30 (0, 0))
theorem BBox.cells {w : World} {q : Nat} {s k : List UInt8} {fi : Int} {v : Value} (h : BBox w q s k fi v) : w.cell? ⟨q, 0, none⟩ = some (sv s) ∧ w.cell? ⟨q, 1, none⟩ = some (sv k) ∧ w.cell? ⟨q, 2, none⟩ = some (.int .i64 fi) ∧ w.cell? ⟨q, 3, none⟩ = some v ∧ ∀ i, w.frozen? ⟨q, i, none⟩ = false :=
  ⟨(cell_of_row _ _ _ _ _ _ h).trans rfl, (cell_of_row _ _ _ _ _ _ h).trans rfl, (cell_of_row _ _ _ _ _ _ h).trans rfl, (cell_of_row _ _ _ _ _ _ h).trans rfl, fun i => by simp [World.frozen?, show w.heap[q]? = _ from h]⟩
theorem BBox.set0 {w : World} {q : Nat} {s k : List UInt8} {fi : Int} {v : Value} (h : BBox w q s k fi v) (x : List UInt8) : BBox (w.setCell ⟨q, 0, none⟩ (sv x)) q x k fi v := by unfold BBox; rw [heap_setCell_same w q 0 _ _ _ h]; rfl
theorem BBox.set1 {w : World} {q : Nat} {s k : List UInt8} {fi : Int} {v : Value} (h : BBox w q s k fi v) (x : List UInt8) : BBox (w.setCell ⟨q, 1, none⟩ (sv x)) q s x fi v := by unfold BBox; rw [heap_setCell_same w q 1 _ _ _ h]; rfl
theorem BBox.set2 {w : World} {q : Nat} {s k : List UInt8} {fi : Int} {v : Value} (h : BBox w q s k fi v) (x : Int) : BBox (w.setCell ⟨q, 2, none⟩ (.int .i64 x)) q s k x v := by unfold BBox; rw [heap_setCell_same w q 2 _ _ _ h]; rfl
theorem BBox.set3 {w : World} {q : Nat} {s k : List UInt8} {fi : Int} {v : Value} (h : BBox w q s k fi v) (x : Value) : BBox (w.setCell ⟨q, 3, none⟩ x) q s k fi x := by unfold BBox; rw [heap_setCell_same w q 3 _ _ _ h]; rfl
theorem BBox.same {w w' : World} {q : Nat} {s k : List UInt8} {fi : Int} {v : Value} (h : BBox w q s k fi v) (e : w'.heap[q]? = w.heap[q]?) : BBox w' q s k fi v := e.trans h
theorem sizeBatch : (Try.prog.info? 30).map (·.size) = some 4 := by kernel_rfl

/-- Fields as cells. -/
def fcells (fs : List Fld) : List Value := fs.flatMap fun f => (fv f).toList
theorem fcells_len : ∀ fs : List Fld, (fcells fs).length = fs.length * 4
  | [] => rfl
  | f :: r => by
    have e : fcells (f :: r) = sv f.name :: .bool f.text :: .int .i64 f.n :: sv f.s :: fcells r := rfl
    rw [e]
    simp only [List.length_cons, fcells_len r]
    omega
theorem fcells_one (fs : List Fld) : ∀ v ∈ fcells fs, v.oneCell' = true := by
  intro v hv
  obtain ⟨f, _, h⟩ := List.mem_flatMap.1 hv
  simp at h
  rcases h with rfl | rfl | rfl | rfl <;> rfl
theorem fcells_at : ∀ (fs : List Fld) (k : Nat) (hk : k < fs.length), (fcells fs)[k * 4]? = some (sv fs[k].name) ∧ (fcells fs)[k * 4 + 1]? = some (.bool fs[k].text) ∧ (fcells fs)[k * 4 + 2]? = some (.int .i64 fs[k].n) ∧ (fcells fs)[k * 4 + 3]? = some (sv fs[k].s)
  | [], k, hk => by simp at hk
  | f :: r, 0, _ => ⟨rfl, rfl, rfl, rfl⟩
  | f :: r, k + 1, hk => by
    have ih := fcells_at r k (by simpa using hk)
    have e : fcells (f :: r) = sv f.name :: .bool f.text :: .int .i64 f.n :: sv f.s :: fcells r := rfl
    have z : ∀ (j : Nat) (a b c d : Value) (l : List Value), (a :: b :: c :: d :: l)[(k + 1) * 4 + j]? = l[k * 4 + j]? := fun j a b c d l => by
      rw [show (k + 1) * 4 + j = k * 4 + j + 1 + 1 + 1 + 1 by omega]; rfl
    rw [e]
    exact ⟨(z 0 _ _ _ _ _).trans ih.1, (z 1 _ _ _ _ _).trans ih.2.1, (z 2 _ _ _ _ _).trans ih.2.2.1, (z 3 _ _ _ _ _).trans ih.2.2.2⟩

theorem FdL.src {w : World} {b off n c : Nat} {fs : List Fld} (hc : ∀ i, (h : i < fs.length) → w.cell? ⟨b, off + i * 4, none⟩ = some (sv fs[i].name) ∧ w.cell? ⟨b, off + i * 4 + 1, none⟩ = some (.bool fs[i].text) ∧ w.cell? ⟨b, off + i * 4 + 2, none⟩ = some (.int .i64 fs[i].n) ∧ w.cell? ⟨b, off + i * 4 + 3, none⟩ = some (sv fs[i].s)) :
    ∀ j v, (fcells fs)[j]? = some v → w.cell? ((⟨b, off, none⟩ : Addr).add j) = some v := by
  intro j v hj
  rw [addr_add]
  have hl : j < fs.length * 4 := by rw [← fcells_len]; exact (List.getElem?_eq_some_iff.1 hj).1
  have hk : j / 4 < fs.length := by omega
  obtain ⟨c0, c1, c2, c3⟩ := hc (j / 4) hk
  obtain ⟨d0, d1, d2, d3⟩ := fcells_at fs (j / 4) hk
  have h4 : j % 4 < 4 := Nat.mod_lt _ (by omega)
  have e : j = j / 4 * 4 + j % 4 := by omega
  generalize j % 4 = m at h4 e
  generalize j / 4 = k at *
  subst e
  obtain rfl | rfl | rfl | rfl : m = 0 ∨ m = 1 ∨ m = 2 ∨ m = 3 := by omega
  · rw [Nat.add_zero] at hj ⊢; rw [d0] at hj; cases hj; exact c0
  · rw [d1] at hj; cases hj; exact c1
  · rw [d2] at hj; cases hj; exact c2
  · rw [d3] at hj; cases hj; exact c3

theorem copy_fields (w : World) (ty : TypeId) (q : Nat) (a : Option Addr) (n c : Nat) (fs : List Fld) (hv : FdL w (.slice a n c) fs) (hq : FdBlk w q fs.length []) :
    ∃ w', (Builtin.copy_ #[41, 41] ty #[.slice (some ⟨q, 0, none⟩) n n, .slice a n c]).run Try.prog w = .ok (goInt n) w' ∧ FdBlk w' q fs.length fs ∧ w.grownBy w' (some q) := by
  obtain ⟨ao, cap, e, h1, h2, h4⟩ := hv
  cases e
  obtain ⟨i, hi, hh⟩ := Option.map_eq_some_iff.1 infoField
  simp only [Prod.mk.injEq] at hh
  obtain ⟨cs, g1, g2, g3, g4⟩ := hq
  by_cases hz : fs.length = 0
  · obtain rfl : fs = [] := List.eq_nil_of_length_eq_zero hz
    refine ⟨w, ?_, ⟨cs, g1, g2, g3, g4⟩, ⟨rfl, rfl, rfl, Nat.le_refl _, fun _ _ _ => rfl⟩⟩
    have hl : ∀ (x : Addr), (loadCells x 0).run Try.prog w = .ok #[] w := fun x => by simpa using run_loadCells_list (P := Try.prog) w x [] (by simp)
    cases a <;> simp [Builtin.copy_, run_underlying Try.underlying41, Builtin.lenOf, Builtin.firstCells, sizeOf, typeInfo, hi, storeCells, hl]
  · obtain ⟨b, off, rfl, hb, hc⟩ := h4 hz
    have hl := run_loadCells_list (P := Try.prog) w ⟨b, off, none⟩ (fcells fs) (FdL.src (n := 0) (c := 0) hc)
    have hst := run_storeCells_at Try.prog q 0 92 (fcells fs) 0 cs w g1 (by rw [fcells_len, g2]; omega) (fcells_one fs)
    rw [fcells_len] at hl
    have e : (cs.toList.take (0 + 0) ++ fcells fs ++ cs.toList.drop (0 + 0 + (fcells fs).length)) = fcells fs := by
      rw [List.drop_eq_nil_of_le (by rw [Array.length_toList, g2, fcells_len]; omega), List.append_nil]; rfl
    rw [e] at hst
    refine ⟨w.setRow q (fcells fs).toArray, ?_, ⟨(fcells fs).toArray, setRow_heap _ _ _ _ _ _ g1, by simp [fcells_len], Nat.le_refl _, fun k hk => by simpa using fcells_at fs k hk⟩, ?_⟩
    · have hmin : Nat.min fs.length fs.length = fs.length := Nat.min_self _
      simp [Builtin.copy_, run_underlying Try.underlying41, Builtin.lenOf, Builtin.firstCells, sizeOf, typeInfo, hi, hh.2.1, hl, hst, hmin]
    · exact ⟨rfl, rfl, rfl, Nat.le_of_eq (by simp [World.setRow]), fun k hk hn => setRow_other _ _ _ _ (fun e => hn (by rw [e]))⟩
end Go.Proofs.Ytgpijeaehkabdaa

/-
  DERIVED. The walks of apart and eventsApart.
-/
namespace Go.Proofs.Ytgpijeaehkabdaa
open Go.RowKit
set_option linter.unusedVariables false

def ApPost (t : List UInt8) (v : Int) (fs : List Fld) (w : World) (e : Ending) (w' : World) : Prop :=
  ∃ q, e = .returned (.agg (ev t v (some ⟨q, 0, none⟩) fs.length fs.length)) ∧ w.heap.size ≤ q ∧ FdBlk w' q fs.length fs ∧ Below w.heap.size w w'

set_option maxRecDepth 20000 in
set_option maxHeartbeats 4000000 in
theorem apart_go (t : List UInt8) (v : Int) (a : Option Addr) (n c : Nat) (fs : List Fld) (w : World) (hv : FdL w (.slice a n c) fs) (h16 : fs.length ≤ 16) :
    Calls Try.prog 37 #[.agg (ev t v a n c)] w (ApPost t v fs w) := by
  obtain rfl : n = fs.length := by obtain ⟨_, _, e, _⟩ := hv; cases e; rfl
  obtain ⟨w1, hw1⟩ : ∃ w1, w1 = (w.alloc (.cells (ev t v a fs.length c) 43)).alloc (.cells (ev [] 0 none 0 0) 43) := ⟨_, rfl⟩
  have s1 : w1.heap.size = w.heap.size + 2 := by rw [hw1]; simp
  have b1 : Below w.heap.size w w1 := by rw [hw1]; exact ((Below.refl _ _).alloc (Nat.le_refl _) _).alloc (by simp) _
  have x0 : EBox w1 w.heap.size t v (.slice a fs.length c) := by
    unfold EBox; rw [hw1, Below.heap_alloc _ _ _ (by simp)]; exact heap_alloc_self _ _
  have y0 : EBox w1 (w.heap.size + 1) [] 0 (.slice none 0 0) := by
    unfold EBox; rw [hw1, show w.heap.size + 1 = (w.alloc (.cells (ev t v a fs.length c) 43)).heap.size by simp]; exact heap_alloc_self _ _
  obtain ⟨w2, hmk, f2, g2⟩ := make_fields w1 fs.length h16
  have x2 : EBox w2 w.heap.size t v (.slice a fs.length c) := x0.same (g2.block _ (by omega) (by simp))
  have y2 : EBox w2 (w.heap.size + 1) [] 0 (.slice none 0 0) := y0.same (g2.block _ (by omega) (by simp))
  have b2 : Below w.heap.size w w2 := b1.trans ⟨g2.os, g2.tape, g2.output, g2.size, fun k hk => g2.block k (by omega) (by simp)⟩
  have hcp := fun ty => copy_fields w2 ty w1.heap.size a fs.length c fs (hv.below b2 (Nat.le_refl _)) f2
  obtain ⟨w3, hc0, f3, g3⟩ := hcp 3
  have hcy : ∀ ty, (Builtin.copy_ #[41, 41] ty #[.slice (some ⟨w1.heap.size, 0, none⟩) fs.length fs.length, .slice a fs.length c]).run Try.prog w2 = .ok (goInt fs.length) w3 := fun ty => hc0
  have x3 : EBox w3 w.heap.size t v (.slice a fs.length c) := x2.same (g3.block _ (lt_of_block x2) (by rw [s1]; simp))
  have y3 : EBox w3 (w.heap.size + 1) [] 0 (.slice none 0 0) := y2.same (g3.block _ (lt_of_block y2) (by rw [s1]; simp))
  have b3 : Below w.heap.size w w3 := b2.trans ⟨g3.os, g3.tape, g3.output, g3.size, fun k hk => g3.block k (by have := b2.size; omega) (by rw [s1]; simp; omega)⟩
  have hz3 := b3.size
  obtain ⟨q, hq⟩ : ∃ q, q = w1.heap.size := ⟨_, rfl⟩
  have hq2 : q = w.heap.size + 2 := hq.trans s1
  have x4 := x3.set2 (.slice (some ⟨q, 0, none⟩) fs.length fs.length)
  have e01 : w.heap.size + 1 ≠ w.heap.size := by omega
  have y4 : EBox (w3.setCell ⟨w.heap.size, 2, none⟩ (.slice (some ⟨q, 0, none⟩) fs.length fs.length)) (w.heap.size + 1) [] 0 (.slice none 0 0) := y3.same (heap_setCell_other _ _ _ _ e01)
  have f4 : FdBlk (w3.setCell ⟨w.heap.size, 2, none⟩ (.slice (some ⟨q, 0, none⟩) fs.length fs.length)) q fs.length fs := by rw [hq]; exact f3.same (heap_setCell_other _ _ _ _ (show w1.heap.size ≠ w.heap.size by omega))
  have b4 : Below w.heap.size w (w3.setCell ⟨w.heap.size, 2, none⟩ (.slice (some ⟨q, 0, none⟩) fs.length fs.length)) := b3.setCell (Nat.le_refl _) _
  have y5 := ((y4.set0 t).set1 v).set2 (.slice (some ⟨q, 0, none⟩) fs.length fs.length)
  have b5 := ((b4.setCell (p := ⟨w.heap.size + 1, 0, none⟩) (Nat.le_succ _) (sv t)).setCell (p := ⟨w.heap.size + 1, 1, none⟩) (Nat.le_succ _) (.int .i64 v)).setCell (p := ⟨w.heap.size + 1, 2, none⟩) (Nat.le_succ _) (.slice (some ⟨q, 0, none⟩) fs.length fs.length)
  have eq1 : q ≠ w.heap.size + 1 := by omega
  have f5 := ((f4.same (heap_setCell_other _ ⟨w.heap.size + 1, 0, none⟩ _ (sv t) eq1)).same (heap_setCell_other _ ⟨w.heap.size + 1, 1, none⟩ _ (.int .i64 v) eq1)).same (heap_setCell_other _ ⟨w.heap.size + 1, 2, none⟩ _ (.slice (some ⟨q, 0, none⟩) fs.length fs.length) eq1)
  have Y5 := hide y5
  have B5 := hide b5
  have F5 := hide f5
  obtain ⟨p0, p1, p2, p3⟩ := x2.cells
  obtain ⟨q0, q1, q2, q3⟩ := x3.cells
  obtain ⟨r0, r1, r2, r3⟩ := x4.cells
  obtain ⟨u0, u1, u2, u3⟩ := y4.cells
  obtain ⟨z0, z1, z2, z3⟩ := x0.cells
  have hcy2 := hcy
  rw [← hq] at hcy2 hmk
  rw [hw1] at hmk
  have hq3 : w.heap.size ≤ q := by omega
  have HQ3 := hide hq3
  clear hq3 hq2 hq eq1 e01 hz3 s1 hw1
  obtain ⟨M, hM⟩ : ∃ M, M = fs.length := ⟨_, rfl⟩
  have HM := hide hM
  simp only [← hM] at hmk hcy2 p0 p1 p2 q0 q1 q2 r0 r1 r2 u0 u1 u2 z0 z1 z2 r3 u3 h16 ⊢
  clear hM hcy hc0 hcp f2 g2 f3 g3 x2 y2 x3 y3 x4 y4 f4 b4 y5 b5 f5 b1 b2 b3 x0 y0 hv
  go_enter Try.func37, Try.ntmps37
  go_wp2
  exact bodyPost_ret (results_cell_row rfl _ _ (w.heap.size + 1) 43 (ev t v (some ⟨q, 0, none⟩) M M) (0, 0) _ rfl (by rw [unhide HM]; exact unhide Y5) Try.underlying43 rfl infoEvent) rfl (by rw [unhide HM]; exact ⟨q, rfl, unhide HQ3, unhide F5, unhide B5⟩)
end Go.Proofs.Ytgpijeaehkabdaa

/-
  DERIVED. The walk of eventsApart.
-/
namespace Go.Proofs.Ytgpijeaehkabdaa
open Go.RowKit
set_option linter.unusedVariables false

/-- Where the loop stands. -/
structure ApSt (w W : World) (q n k : Nat) (es : List Evn) (xs : List (Evn × Nat)) : Prop where
  blk : EvBlk W q n xs
  len : xs.length = k
  evs : xs.map (·.1) = es.take k
  new : ∀ x ∈ xs, w.heap.size ≤ x.2
  bel : Below w.heap.size w W
  hq : w.heap.size ≤ q

def ApsPost (es : List Evn) (w : World) (e : Ending) (w' : World) : Prop :=
  ∃ (q : Nat) (xs : List (Evn × Nat)), e = .returned (.slice (some ⟨q, 0, none⟩) es.length es.length) ∧ ApSt w w' q es.length es.length es xs

theorem ApSt.step {w W W1 W2 : World} {q n k : Nat} {es : List Evn} {xs : List (Evn × Nat)} (h : ApSt w W q n k es xs) (hk : k < n) (hn : n = es.length) (o : Obj) (hW : W1 = W.alloc o) (e : Evn) (he : es[k]? = some e) (h16 : e.fields.length ≤ 16) (p : Nat) (hp : W1.heap.size ≤ p) (hf : FdBlk W2 p e.fields.length e.fields) (hb : Below W1.heap.size W1 W2) :
    (∀ j, j < 3 → (∃ v, W2.cell? ⟨q, k * 3 + j, none⟩ = some v) ∧ W2.frozen? ⟨q, k * 3 + j, none⟩ = false) ∧
    ApSt w (((W2.setCell ⟨q, k * 3, none⟩ (sv e.type)).setCell ⟨q, k * 3 + 1, none⟩ (.int .i64 e.ver)).setCell ⟨q, k * 3 + 2, none⟩ (.slice (some ⟨p, 0, none⟩) e.fields.length e.fields.length)) q n (k + 1) es (xs ++ [(e, p)]) := by
  have z1 : W1.heap.size = W.heap.size + 1 := by rw [hW]; simp
  have hbb : Below W.heap.size W W2 := by
    have a : Below W.heap.size W W1 := by rw [hW]; exact (Below.refl _ _).alloc (Nat.le_refl _) _
    exact a.trans (hb.mono (by omega))
  have hl := h.blk.lt
  have hlx : ∀ x ∈ xs, x.2 < W.heap.size := fun x hx => by
    obtain ⟨_, h3⟩ := h.blk
    exact (h3 x hx).1.lt
  have hblk : EvBlk W2 q n xs := h.blk.same (hbb.block q hl) fun x hx => hbb.block _ (hlx x hx)
  have hlen := h.len
  subst hlen
  refine ⟨fun j hj => hblk.room hk j hj, ?_⟩
  have hput := hblk.put hk e.type e.ver p e.fields.length e.fields hf rfl h16
  refine { blk := hput, len := by simp, evs := ?_, new := ?_, bel := ?_, hq := h.hq }
  · rw [List.map_append, h.evs, List.take_add_one, he]; rfl
  · intro x hx
    rcases List.mem_append.1 hx with h' | h'
    · exact h.new x h'
    · rw [List.mem_singleton.1 h']; show w.heap.size ≤ p; have := h.bel.size; omega
  · have := h.hq
    exact (((h.bel.trans (hbb.mono h.bel.size)).setCell (p := ⟨q, _, none⟩) this _).setCell (p := ⟨q, _, none⟩) this _).setCell (p := ⟨q, _, none⟩) this _

set_option maxRecDepth 20000 in
set_option maxHeartbeats 4000000 in
theorem eventsApart_go (a : Option Addr) (n c : Nat) (es : List Evn) (w : World) (hv : EvL w (.slice a n c) es) (h16 : es.length ≤ 16) (hf16 : ∀ e ∈ es, e.fields.length ≤ 16) :
    Calls Try.prog 25 #[.slice a n c] w (ApsPost es w) := by
  obtain ⟨ao, cap, e, h1, h2, h4⟩ := id hv
  cases e
  obtain ⟨w1, hmk, f1, g1⟩ := make_events w es.length h16
  have ST0 : Hid (ApSt w w1 w.heap.size es.length 0 es []) := hide { blk := f1, len := rfl, evs := rfl, new := fun x hx => by simp at hx, bel := ⟨g1.os, g1.tape, g1.output, g1.size, fun k hk => g1.block k hk (by simp)⟩, hq := Nat.le_refl _ }
  obtain ⟨N, hN⟩ : ∃ N, N = es.length := ⟨_, rfl⟩
  have HN := hide hN
  have H4 := hide h4
  have HV := hide hv
  have HF := hide hf16
  rw [← hN] at h1 h16 hmk ST0 ⊢
  clear h4 hN hv hf16 f1 g1
  obtain ⟨q, hq⟩ : ∃ q, q = w.heap.size := ⟨_, rfl⟩
  rw [← hq] at hmk ST0
  clear hq
  go_enter Try.func25, Try.ntmps25
  go_wp2
  go_loopw [11] (fun i wr => ∃ (k : Nat) (xs : List (Evn × Nat)), k ≤ N ∧ i = .int .i64 k ∧ Hid (ApSt w wr q N k es xs)) (fun i _ => N - (intOf i).toNat)
  case atStart => exact ⟨0, [], by omega, rfl, ST0⟩
  case round =>
    obtain ⟨k, xs, hk, rfl, ST⟩ := hrel
    clear ST0
    by_cases hlt : k < N
    · have hkl : k < es.length := by have := unhide HN; omega
      have HB := hide (unhide ST).bel
      obtain ⟨b, off, rfl, hb, hc⟩ := unhide H4 (by omega)
      obtain ⟨c0, c1, fa, fl, fc, c2, c3⟩ := hc k hkl
      obtain ⟨f, hf⟩ : ∃ f, f = es[k] := ⟨_, rfl⟩
      rw [← hf] at c0 c1 c3
      have d0 := ((unhide HB).cell (p := ⟨b, off + k * 3, none⟩) hb).trans c0
      have d1 := ((unhide HB).cell (p := ⟨b, off + k * 3 + 1, none⟩) hb).trans c1
      have d2 := ((unhide HB).cell (p := ⟨b, off + k * 3 + 2, none⟩) hb).trans c2
      have HE : Hid (es[k]? = some f) := hide (by rw [hf]; exact List.getElem?_eq_getElem hkl)
      have hf6 := unhide HF f (List.mem_of_getElem? (unhide HE))
      obtain ⟨ft, fv, ff⟩ := f
      simp only at d0 d1 hf6
      have hbw : Below w.heap.size w (wr.alloc (.cells (ev ft fv fa fl fc) 43)) := (unhide HB).alloc (unhide HB).size _
      have CA := hide (apart_go ft fv fa fl fc ff (wr.alloc (.cells (ev ft fv fa fl fc) 43)) (c3.below hbw (Nat.le_refl _)) hf6)
      have HH6 := hide hf6
      clear hf hc c0 c1 c2 c3 hbw hf6
      go_wp2_with fail
      refine (unhide CA).mono ?_
      rintro e w2 ⟨p, rfl, hp, hfb, hb2⟩
      obtain ⟨rm, st2⟩ := (unhide ST).step hlt (unhide HN) _ rfl ⟨ft, fv, ff⟩ (unhide HE) (unhide HH6) p hp hfb hb2
      obtain ⟨⟨v0, r0⟩, s0⟩ := rm 0 (by omega)
      obtain ⟨⟨v1, r1⟩, s1⟩ := rm 1 (by omega)
      obtain ⟨⟨v2, r2⟩, s2⟩ := rm 2 (by omega)
      rw [Nat.add_zero] at r0 s0
      have ST2 := hide st2
      clear rm st2 hp hfb hb2
      obtain ⟨M, hM⟩ : ∃ M, M = ff.length := ⟨_, rfl⟩
      simp only [← hM] at ST2 ⊢
      clear hM
      go_wp2
      go_roundw
      case rel => exact ⟨k + 1, _, by omega, by go_num, ST2⟩
      case measure => simp [intOf]; omega
    · have hkN : k = N := by omega
      subst hkN
      have HP : Hid (ApsPost es w (.returned (.slice (some ⟨q, 0, none⟩) k k)) wr) := hide (by
        have st := unhide ST
        have e := unhide HN
        subst e
        exact ⟨q, xs, rfl, st⟩)
      go_wp2
      go_ret
      exact unhide HP
end Go.Proofs.Ytgpijeaehkabdaa

/-
  DERIVED. The index of streams in plain words and in memory.
-/
namespace Go.Proofs.Ytgpijeaehkabdaa
open Go.RowKit Go.Maps
set_option linter.unusedVariables false

/-- An event of the index: its stream, its number there. -/
structure Ent where
  s : List UInt8
  num : Nat
  e : Evn
/-- What the append of a key came to. -/
structure Kd where
  s : List UInt8
  first : Nat
  pos : Nat
  cnt : Nat
structure Ix where
  all : List Ent
  key : List UInt8 → Option Kd
def Ix.new : Ix := ⟨[], fun _ => none⟩

/-- A stream's places. -/
def plc (l : List Ent) (s : List UInt8) : List Nat := (l.zipIdx.filter fun x => x.1.s == s).map (·.2)
theorem plc_snoc (l : List Ent) (x : Ent) (s : List UInt8) : plc (l ++ [x]) s = plc l s ++ if x.s = s then [l.length] else [] := by
  unfold plc
  rw [List.zipIdx_append, List.filter_append, List.map_append]
  congr 1
  by_cases h : x.s = s
  · simp [h]
  · simp [h]
def Ix.ver (I : Ix) (s : List UInt8) : Nat := (plc I.all s).length
theorem plc_len (l : List Ent) (s : List UInt8) : (plc l s).length ≤ l.length := by
  unfold plc
  rw [List.length_map]
  have := List.length_filter_le (fun x : Ent × Nat => x.1.s == s) l.zipIdx
  simpa using this

abbrev nilS : Value := .slice none 0 0
/-- A map's element, as it is. -/
def rawE (v : Value) : Option (DataW Value × List MemPlace) := some (.held v, [])
def natV (n : Nat) : Value := .int .i64 (n : Int)
abbrev kdA (s : List UInt8) (f p c : Int) (b : Bool) : Array Value := #[sv s, .int .i64 f, .int .i64 p, .int .i64 c, .bool b]
def kdV : Option Kd → Value
  | none => .agg (kdA [] 0 0 0 false)
  | some k => .agg (kdA k.s k.first k.pos k.cnt false)

/-- Nothing that was there has turned but blocks of F. -/
structure Kept (F : Nat → Prop) (w w' : World) : Prop where
  os : w'.os = w.os
  tape : w'.tape = w.tape
  output : w'.output = w.output
  size : w.heap.size ≤ w'.heap.size
  block : ∀ k, k < w.heap.size → ¬ F k → w'.heap[k]? = w.heap[k]?
theorem Kept.refl (F : Nat → Prop) (w : World) : Kept F w w := ⟨rfl, rfl, rfl, Nat.le_refl _, fun _ _ _ => rfl⟩
theorem Kept.trans {F : Nat → Prop} {a b c : World} (h : Kept F a b) (k : Kept F b c) : Kept F a c :=
  ⟨k.os.trans h.os, k.tape.trans h.tape, k.output.trans h.output, Nat.le_trans h.size k.size, fun i hi hn => (k.block i (Nat.lt_of_lt_of_le hi h.size) hn).trans (h.block i hi hn)⟩
theorem Kept.mono {F G : Nat → Prop} {a b : World} (h : Kept F a b) (hFG : ∀ k, k < a.heap.size → F k → G k) : Kept G a b :=
  ⟨h.os, h.tape, h.output, h.size, fun i hi hn => h.block i hi fun hf => hn (hFG i hi hf)⟩
theorem Kept.below {F : Nat → Prop} {a b : World} {B : Nat} (h : Kept F a b) (hB : B ≤ a.heap.size) (hF : ∀ k, F k → B ≤ k) : Below B a b :=
  ⟨h.os, h.tape, h.output, h.size, fun i hi => h.block i (by omega) fun hf => by have := hF i hf; omega⟩
theorem Kept.of_below {F : Nat → Prop} {a b : World} (h : Below a.heap.size a b) : Kept F a b := ⟨h.os, h.tape, h.output, h.size, fun i hi _ => h.block i hi⟩
theorem Kept.of_grown {F : Nat → Prop} {a b : World} {row : Option Nat} (h : a.grownBy b row) (hk : ∀ k, row = some k → F k) : Kept F a b :=
  ⟨h.os, h.tape, h.output, h.size, fun i hi hn => h.block i hi fun e => hn (hk i e.symm)⟩
theorem ownsMap_frame {H : Type} {P : Program} {k : TypeId} {R : Value → Option (DataW H × List MemPlace)} {w w' : World} {b n : Nat} {D : DataW H} (h : w.ownsMap P k R b n D) (hk : w'.heap[b]? = w.heap[b]?) : w'.ownsMap P k R b n D := by
  obtain ⟨es, clock, hb, r⟩ := h
  exact ⟨es, clock, hk.trans hb, r⟩
theorem ownsRow_frame {w w' : World} {e : TypeId} {s n : Nat} {v : Value} {cs : List Value} (h : w.ownsRow 0 e s v n cs) (hk : ∀ q, v.ownBlock = some q → q < w.heap.size → w'.heap[q]? = w.heap[q]?) : w'.ownsRow 0 e s v n cs := by
  obtain ⟨h1, h2⟩ := h
  refine ⟨h1, ?_⟩
  rcases h2 with h2 | ⟨q, cap, cur, rfl, hb, hg, r⟩
  · exact .inl h2
  · exact .inr ⟨q, cap, cur, rfl, hb, (hk q rfl (lt_of_block hg)).trans hg, r⟩
theorem ownsRow_mark {w : World} {e : TypeId} {s n : Nat} {v : Value} {cs : List Value} (h : w.ownsRow 0 e s v n cs) {q : Nat} (hq : v.ownBlock = some q) : ∃ cur, w.heap[q]? = some (.cells cur e (0, 0)) := by
  rcases h.2 with ⟨rfl, _⟩ | ⟨g, cap, cur, rfl, hb, hg, r⟩
  · cases hq
  · cases hq; exact ⟨cur, hg⟩
theorem mark_ne {w : World} {b k : Nat} {A C : Array Value} {s t : TypeId} {p q : Nat × Nat} (h1 : w.heap[b]? = some (.cells A s p)) (h2 : w.heap[k]? = some (.cells C t q)) (hne : s ≠ t) : k ≠ b := by
  rintro rfl
  rw [h1] at h2
  simp only [Option.some.injEq, Obj.cells.injEq] at h2
  exact hne h2.2.1

/-- An entry's cells; the block of its fields. -/
def ecell (i : Nat) (x : Ent × Nat) : List Value := [natV i, sv x.1.s, natV x.1.num, sv x.1.e.type, .int .i64 x.1.e.ver, .slice (some ⟨x.2, 0, none⟩) x.1.e.fields.length x.1.e.fields.length]
def ecells : List (Ent × Nat) → Nat → List Value
  | [], _ => []
  | x :: r, i => ecell i x ++ ecells r (i + 1)
theorem ecells_snoc : ∀ (l : List (Ent × Nat)) (x : Ent × Nat) (i : Nat), ecells (l ++ [x]) i = ecells l i ++ ecell (i + l.length) x
  | [], x, i => by simp [ecells]
  | y :: r, x, i => by
    show ecell i y ++ ecells (r ++ [x]) (i + 1) = ecell i y ++ ecells r (i + 1) ++ ecell (i + (r.length + 1)) x
    rw [ecells_snoc r x (i + 1), List.append_assoc, Nat.add_right_comm, Nat.add_assoc]

def lit (k : List UInt8) : Lit := .string k
theorem lit_inj {a b : List UInt8} (h : lit a = lit b) : a = b := by unfold lit at h; injection h
theorem lit_key {k : List UInt8} (h : k.length ≤ maxLen) : keyOf Try.prog 9 (sv k) = some (lit k) := by
  have hz : (⟨k.toArray⟩ : ByteArray).size ≤ maxLen := h
  exact WideMaps.keyOf_string_mk Try.underlying9 hz
theorem lit_is (k : List UInt8) : WideAt.IsKeyLit (lit k) := trivial
theorem keyedS : Keyed Try.prog 9 := string_keyed Try.underlying9

structure IxIn (w : World) (F : Nat → Prop) (st mp mk N : Nat) (I : Ix) (xs : List (Ent × Nat)) (av : Value) (pf : List UInt8 → Value) (D1 D2 : DataW Value) : Prop where
  stc : w.heap[st]? = some (.cells #[av, .map (some mp), .map (some mk)] 68 (0, 0))
  row : w.ownsRow 0 45 6 av xs.length (ecells xs 0)
  all : xs.map (·.1) = I.all
  fds : ∀ x ∈ xs, FdBlk w x.2 x.1.e.fields.length x.1.e.fields ∧ x.1.e.fields.length ≤ 16 ∧ F x.2
  mpo : w.ownsMap Try.prog 9 rawE mp N D1
  mpa : ∀ s, D1.atKey (lit s) (.held nilS) = .held (pf s)
  mph : ∀ kl, Maps.has D1 kl = true ↔ ∃ s, plc I.all s ≠ [] ∧ kl = lit s
  rows : ∀ s, w.ownsRow 0 3 1 (pf s) (plc I.all s).length ((plc I.all s).map natV)
  apart : ∀ s s' q, (pf s).ownBlock = some q → (pf s').ownBlock = some q → s = s'
  mko : w.ownsMap Try.prog 9 rawE mk N D2
  mka : ∀ k, D2.atKey (lit k) (.held (kdV none)) = .held (kdV (I.key k))
  mkh : ∀ k, Maps.has D2 (lit k) = (I.key k).isSome
  mne : mp ≠ mk
  fst : F st
  fmp : F mp
  fmk : F mk
  fav : ∀ q, av.ownBlock = some q → F q
  fpf : ∀ s q, (pf s).ownBlock = some q → F q
  len : I.all.length ≤ N
  nil : I.key [] = none
  avs : ∃ a c, av = .slice a xs.length c

/-- The index at block x, all its memory among F; N bounds all that is counted. -/
def IxAt (w : World) (F : Nat → Prop) (x N : Nat) (I : Ix) : Prop := ∃ st, w.heap[x]? = some (.cells #[.pointer (some ⟨st, 0, none⟩)] 63 (0, 0)) ∧ F x ∧ ∃ mp mk xs av pf D1 D2, IxIn w F st mp mk N I xs av pf D1 D2

theorem IxIn.frame {w w' : World} {F : Nat → Prop} {st mp mk N : Nat} {I : Ix} {xs : List (Ent × Nat)} {av : Value} {pf : List UInt8 → Value} {D1 D2 : DataW Value} (h : IxIn w F st mp mk N I xs av pf D1 D2) (hk : ∀ k, F k → k < w.heap.size → w'.heap[k]? = w.heap[k]?) : IxIn w' F st mp mk N I xs av pf D1 D2 :=
  { h with
    stc := (hk st h.fst (lt_of_block h.stc)).trans h.stc
    row := ownsRow_frame h.row fun q hq hl => hk q (h.fav q hq) hl
    fds := fun x hx => ⟨(h.fds x hx).1.same (hk _ (h.fds x hx).2.2 (h.fds x hx).1.lt), (h.fds x hx).2⟩
    mpo := ownsMap_frame h.mpo (hk mp h.fmp h.mpo.lt)
    rows := fun s => ownsRow_frame (h.rows s) fun q hq hl => hk q (h.fpf s q hq) hl
    mko := ownsMap_frame h.mko (hk mk h.fmk h.mko.lt) }
theorem IxAt.frame {w w' : World} {F : Nat → Prop} {x N : Nat} {I : Ix} (h : IxAt w F x N I) (hk : ∀ k, F k → k < w.heap.size → w'.heap[k]? = w.heap[k]?) : IxAt w' F x N I := by
  obtain ⟨st, h1, h2, mp, mk, xs, av, pf, D1, D2, h⟩ := h
  exact ⟨st, (hk x h2 (lt_of_block h1)).trans h1, h2, mp, mk, xs, av, pf, D1, D2, h.frame hk⟩
theorem IxAt.grown {w w' : World} {F : Nat → Prop} {x N : Nat} {I : Ix} (h : IxAt w F x N I) (hb : Below w.heap.size w w') : IxAt w' F x N I := h.frame fun k _ hk => hb.block k hk

theorem zeroInts (w : World) : (zeroValue 79).run Try.prog w = .ok nilS w := by kernel_rfl
theorem zeroKeyed (w : World) : (zeroValue 84).run Try.prog w = .ok (kdV none) w := by kernel_rfl
theorem IxIn.look {w W : World} {F : Nat → Prop} {st mp mk N : Nat} {I : Ix} {xs : List (Ent × Nat)} {av : Value} {pf : List UInt8 → Value} {D1 D2 : DataW Value} (h : IxIn w F st mp mk N I xs av pf D1 D2) (hW : W.heap[mp]? = w.heap[mp]?) (s : List UInt8) (hs : s.length ≤ maxLen) :
    (Instr.lookup 65 (.map (some mp)) (sv s) false).run Try.prog W = .ok (pf s) W := by
  obtain ⟨u, ps, hrun, hv⟩ := (ownsMap_frame h.mpo hW).lookup keyedS Try.underlying65 (zeroInts W) (zd := .held nilS) (zp := []) rfl (lit_key hs)
  rw [h.mpa s] at hv
  simp only [rawE, Option.some.injEq, Prod.mk.injEq, DataW.held.injEq] at hv
  rw [hrun, hv.1]
theorem IxIn.lookK {w W : World} {F : Nat → Prop} {st mp mk N : Nat} {I : Ix} {xs : List (Ent × Nat)} {av : Value} {pf : List UInt8 → Value} {D1 D2 : DataW Value} (h : IxIn w F st mp mk N I xs av pf D1 D2) (hW : W.heap[mk]? = w.heap[mk]?) (k : List UInt8) (hk : k.length ≤ maxLen) :
    (Instr.lookup 66 (.map (some mk)) (sv k) true).run Try.prog W = .ok (.tuple #[kdV (I.key k), .bool (I.key k).isSome]) W := by
  obtain ⟨u, ps, hrun, hv⟩ := (ownsMap_frame h.mko hW).look_ok keyedS Try.underlying66 (zeroKeyed W) (zd := .held (kdV none)) (zp := []) rfl (lit_key hk)
  rw [h.mka k] at hv
  simp only [rawE, Option.some.injEq, Prod.mk.injEq, DataW.held.injEq] at hv
  rw [hrun, hv.1, h.mkh]
theorem IxIn.pfs {w : World} {F : Nat → Prop} {st mp mk N : Nat} {I : Ix} {xs : List (Ent × Nat)} {av : Value} {pf : List UInt8 → Value} {D1 D2 : DataW Value} (h : IxIn w F st mp mk N I xs av pf D1 D2) (s : List UInt8) : ∃ a c, pf s = .slice a (I.ver s) c := by
  obtain ⟨h1, h2⟩ := h.rows s
  rcases h2 with ⟨e, h3⟩ | ⟨q, cap, cur, e, _⟩
  · refine ⟨none, 0, ?_⟩
    rw [e]
    first | (rw [show I.ver s = 0 from h3.1]) | (rw [show I.ver s = 0 from h3]) | (unfold Ix.ver; simp_all)
  · exact ⟨_, _, e⟩
end Go.Proofs.Ytgpijeaehkabdaa

/-
  DERIVED. The walks of New, now, version, Len, Version.
-/
namespace Go.Proofs.Ytgpijeaehkabdaa
open Go.RowKit Go.Maps
set_option linter.unusedVariables false

theorem mm1 (w : World) : (Instr.makeMap 65 none).run Try.prog w = .ok (.map (some w.heap.size)) (w.alloc (.map #[] 0)) := rfl
theorem mm2 (w : World) : (Instr.makeMap 66 none).run Try.prog w = .ok (.map (some w.heap.size)) (w.alloc (.map #[] 0)) := rfl
theorem sizeState : (Try.prog.info? 68).map (·.size) = some 3 := by kernel_rfl
abbrev stV (av : Value) (m k : Option Nat) : Array Value := #[av, .map m, .map k]

theorem empty_go (w : World) : Calls Try.prog 22 #[] w fun e w' => e = .returned (.pointer (some ⟨w.heap.size + 2, 0, none⟩)) ∧ w' = ((w.alloc (.map #[] 0)).alloc (.map #[] 0)).alloc (.cells (stV nilS (some w.heap.size) (some (w.heap.size + 1))) 68) := by
  have h1 := mm1
  have h2 := mm2
  go_enter Try.func22, Try.ntmps22
  go_wp2
  go_ret
  exact ⟨by first | rfl | simp, by first | rfl | simp⟩

def NewPost (w : World) (e : Ending) (w' : World) : Prop := ∃ x, e = .returned (.pointer (some ⟨x, 0, none⟩)) ∧ IxAt w' (fun k => w.heap.size ≤ k ∧ k < w'.heap.size) x 0 Ix.new ∧ Below w.heap.size w w'

theorem new_mem (w : World) : NewPost w (.returned (.pointer (some ⟨w.heap.size + 3, 0, none⟩))) ((((w.alloc (.map #[] 0)).alloc (.map #[] 0)).alloc (.cells (stV nilS (some w.heap.size) (some (w.heap.size + 1))) 68)).alloc (.cells #[.pointer (some ⟨w.heap.size + 2, 0, none⟩)] 63)) := by
  obtain ⟨W, hW⟩ : ∃ W, W = (((w.alloc (.map #[] 0)).alloc (.map #[] 0)).alloc (.cells (stV nilS (some w.heap.size) (some (w.heap.size + 1))) 68)).alloc (.cells #[.pointer (some ⟨w.heap.size + 2, 0, none⟩)] 63) := ⟨_, rfl⟩
  have hz : W.heap.size = w.heap.size + 4 := by rw [hW]; simp
  have hm := World.ownsMap_made (H := Value) w Try.prog 9 rawE
  have hk := World.ownsMap_made (H := Value) (w.alloc (.map #[] 0)) Try.prog 9 rawE
  have e1 : (w.alloc (.map #[] 0)).heap.size = w.heap.size + 1 := by simp
  rw [e1] at hk
  have hst := heap_alloc_self ((w.alloc (.map #[] 0)).alloc (.map #[] 0)) (.cells (stV nilS (some w.heap.size) (some (w.heap.size + 1))) 68)
  have e2 : ((w.alloc (.map #[] 0)).alloc (.map #[] 0)).heap.size = w.heap.size + 2 := by simp
  rw [e2] at hst
  have hix := heap_alloc_self (((w.alloc (.map #[] 0)).alloc (.map #[] 0)).alloc (.cells (stV nilS (some w.heap.size) (some (w.heap.size + 1))) 68)) (.cells #[.pointer (some ⟨w.heap.size + 2, 0, none⟩)] 63)
  have e3 : (((w.alloc (.map #[] 0)).alloc (.map #[] 0)).alloc (.cells (stV nilS (some w.heap.size) (some (w.heap.size + 1))) 68)).heap.size = w.heap.size + 3 := by simp
  rw [e3] at hix
  rw [← hW]
  have no : ∀ (n : Nat) (e : TypeId) (s : Nat), W.ownsRow 0 e s nilS 0 [] := fun n e s => World.ownsRow_nil _ _ _ _
  refine ⟨w.heap.size + 3, rfl, ⟨w.heap.size + 2, by rw [hW]; exact hix, by omega, w.heap.size, w.heap.size + 1, [], nilS, fun _ => nilS, .map [], .map [], ?_⟩, ?_⟩
  · exact
      { stc := by rw [hW, Below.heap_alloc _ _ _ (by rw [e3]; omega)]; exact hst
        row := no 0 _ _
        all := rfl
        fds := fun x hx => by simp at hx
        mpo := by rw [hW]; exact ((hm.alloc _).alloc _).alloc _
        mpa := fun s => rfl
        mph := fun kl => by simp [Ix.new, plc, Maps.has]
        rows := fun s => no 0 _ _
        apart := fun s s' q h => by cases h
        mko := by rw [hW]; exact (hk.alloc _).alloc _
        mka := fun k => rfl
        mkh := fun k => by simp [Ix.new, Maps.has]
        mne := by omega
        fst := by omega
        fmp := by omega
        fmk := by omega
        fav := fun q h => by cases h
        fpf := fun s q h => by cases h
        len := Nat.le_refl _
        nil := rfl
        avs := ⟨none, 0, rfl⟩ }
  · rw [hW]
    exact ((((Below.refl w.heap.size w).alloc (Nat.le_refl _) _).alloc (by rw [e1]; omega) _).alloc (by rw [e2]; omega) _).alloc (by rw [e3]; omega) _

theorem New_go (w : World) : Calls Try.prog 10 #[] w (NewPost w) := by
  have HP := hide (new_mem w)
  go_enter Try.func10, Try.ntmps10
  go_wp2_with fail
  refine (empty_go w).mono ?_
  rintro e w1 ⟨rfl, rfl⟩
  go_wp2
  go_ret
  have := unhide HP
  simpa using this

theorem now_go {w : World} {x st mp mk : Nat} {av : Value} (hx : w.heap[x]? = some (.cells #[.pointer (some ⟨st, 0, none⟩)] 63 (0, 0))) (hs : w.heap[st]? = some (.cells (stV av (some mp) (some mk)) 68 (0, 0))) (ha : ∃ a n c, av = .slice a n c) :
    Calls Try.prog 23 #[.pointer (some ⟨x, 0, none⟩)] w fun e w' => e = .returned (.agg (stV av (some mp) (some mk))) ∧ w' = w.alloc (.cells (stV av (some mp) (some mk)) 68) := by
  obtain ⟨a, n, c, rfl⟩ := ha
  have c0 : w.cell? ⟨x, 0, none⟩ = some (.pointer (some ⟨st, 0, none⟩)) := (cell_of_row _ _ _ _ _ _ hx).trans rfl
  have d0 : w.cell? ⟨st, 0, none⟩ = some (.slice a n c) := (cell_of_row _ _ _ _ _ _ hs).trans rfl
  have d1 : w.cell? ⟨st, 1, none⟩ = some (.map (some mp)) := (cell_of_row _ _ _ _ _ _ hs).trans rfl
  have d2 : w.cell? ⟨st, 2, none⟩ = some (.map (some mk)) := (cell_of_row _ _ _ _ _ _ hs).trans rfl
  have hxl := lt_of_block hx
  have hsl := lt_of_block hs
  clear hx hs
  go_enter Try.func23, Try.ntmps23
  go_wp2
  exact bodyPost_ret (results_cell_row rfl _ _ w.heap.size 68 (stV (.slice a n c) (some mp) (some mk)) (0, 0) _ rfl (heap_alloc_new _ _) Try.underlying68 rfl sizeState) rfl ⟨rfl, by first | rfl | simp⟩

theorem now_nil (w : World) : Calls Try.prog 23 #[.pointer none] w fun e w' => e = .returned (.agg (stV nilS none none)) ∧ w' = w.alloc (.cells (stV nilS none none) 68) := by
  go_enter Try.func23, Try.ntmps23
  go_wp2
  exact bodyPost_ret (results_cell_row rfl _ _ w.heap.size 68 (stV nilS none none) (0, 0) _ rfl (heap_alloc_new _ _) Try.underlying68 rfl sizeState) rfl ⟨rfl, by first | rfl | simp⟩
end Go.Proofs.Ytgpijeaehkabdaa

/-
  DERIVED. The walks of version and of the state's try.
-/
namespace Go.Proofs.Ytgpijeaehkabdaa
open Go.RowKit Go.Maps
set_option linter.unusedVariables false

theorem version_go {w : World} {F : Nat → Prop} {st mp mk N : Nat} {I : Ix} {xs : List (Ent × Nat)} {av : Value} {pf : List UInt8 → Value} {D1 D2 : DataW Value} (h : IxIn w F st mp mk N I xs av pf D1 D2) (a : Option Addr) (n c : Nat) (ha : av = .slice a n c) (s : List UInt8) (hs : s.length ≤ maxLen) (W : World) (hW : W.heap[mp]? = w.heap[mp]?) :
    Calls Try.prog 33 #[.agg (stV (.slice a n c) (some mp) (some mk)), sv s] W fun e w' => e = .returned (.int .i64 (I.ver s)) ∧ Below W.heap.size W w' := by
  have hlt : mp < W.heap.size := by
    obtain ⟨es, clock, hb, _⟩ := ownsMap_frame h.mpo hW
    exact lt_of_block hb
  have hl := h.look (W := W.alloc (.cells (stV (.slice a n c) (some mp) (some mk)) 68)) ((Below.heap_alloc _ _ _ hlt).trans hW) s hs
  obtain ⟨a1, c1, e1⟩ := h.pfs s
  rw [e1] at hl
  have HB := hide ((Below.refl W.heap.size W).alloc (Nat.le_refl _) (.cells (stV (.slice a n c) (some mp) (some mk)) 68))
  clear h hW e1
  go_enter Try.func33, Try.ntmps33
  go_wp2
  go_ret
  exact ⟨rfl, unhide HB⟩

theorem results_ct {P : Program} {fn : Func} {p u : Tmp} {ty : TypeId} (h : fn.results = #[.cell p ty, .tmp u]) (tmps : Array Value) (w : World) (g : Nat) (t : TypeId) (cs : Array Value) (fr : Nat × Nat) (d : TypeDesc) (x : Value)
    (hp : tmps.getD p undef = .pointer (some ⟨g, 0, none⟩)) (hx : tmps.getD u undef = x) (hg : w.heap[g]? = some (.cells cs t fr))
    (hu : P.underlying ty = some d) (hd : (match d with | .struct _ | .array _ _ => true | _ => false) = true) (hi : (P.info? ty).map (·.size) = some cs.size) :
    (results fn tmps).run P w = .ok (.tuple #[.agg cs, x]) w := by
  rw [results_cell_tmp h, hp, hx]
  simp [asAddr, Result.andThen, run_loadVar_row w g t ty cs fr d hg hu hd hi]
theorem sizeApp : (Try.prog.info? 27).map (·.size) = some 4 := by kernel_rfl

abbrev apV (f p c : Int) (b : Bool) : Array Value := #[.int .i64 f, .int .i64 p, .int .i64 c, .bool b]
def ABox (w : World) (q : Nat) (f p c : Int) (b : Bool) : Prop := w.heap[q]? = some (.cells (apV f p c b) 27 (0, 0))
theorem ABox.cells {w : World} {q : Nat} {f p c : Int} {b : Bool} (h : ABox w q f p c b) : w.cell? ⟨q, 0, none⟩ = some (.int .i64 f) ∧ w.cell? ⟨q, 1, none⟩ = some (.int .i64 p) ∧ w.cell? ⟨q, 2, none⟩ = some (.int .i64 c) ∧ w.cell? ⟨q, 3, none⟩ = some (.bool b) ∧ ∀ i, w.frozen? ⟨q, i, none⟩ = false :=
  ⟨(cell_of_row _ _ _ _ _ _ h).trans rfl, (cell_of_row _ _ _ _ _ _ h).trans rfl, (cell_of_row _ _ _ _ _ _ h).trans rfl, (cell_of_row _ _ _ _ _ _ h).trans rfl, fun i => by simp [World.frozen?, show w.heap[q]? = _ from h]⟩
theorem ABox.put {w : World} {q : Nat} {f p c : Int} {b : Bool} (h : ABox w q f p c b) (f' p' c' : Int) (b' : Bool) : ABox ((((w.setCell ⟨q, 0, none⟩ (.int .i64 f')).setCell ⟨q, 1, none⟩ (.int .i64 p')).setCell ⟨q, 2, none⟩ (.int .i64 c')).setCell ⟨q, 3, none⟩ (.bool b')) q f' p' c' b' := by
  unfold ABox at h ⊢
  rw [heap_setCell_same _ q 3 _ _ _ (heap_setCell_same _ q 2 _ _ _ (heap_setCell_same _ q 1 _ _ _ (heap_setCell_same w q 0 _ _ _ h)))]
  rfl
theorem ABox.same {w w' : World} {q : Nat} {f p c : Int} {b : Bool} (h : ABox w q f p c b) (e : w'.heap[q]? = w.heap[q]?) : ABox w' q f p c b := e.trans h
theorem below_put {B : Nat} {a w : World} (h : Below B a w) {q : Nat} (hq : B ≤ q) (f' p' c' : Int) (b' : Bool) : Below B a ((((w.setCell ⟨q, 0, none⟩ (.int .i64 f')).setCell ⟨q, 1, none⟩ (.int .i64 p')).setCell ⟨q, 2, none⟩ (.int .i64 c')).setCell ⟨q, 3, none⟩ (.bool b')) :=
  (((h.setCell (p := ⟨q, 0, none⟩) hq _).setCell (p := ⟨q, 1, none⟩) hq _).setCell (p := ⟨q, 2, none⟩) hq _).setCell (p := ⟨q, 3, none⟩) hq _

open Classical in
/-- What a try comes to: P10.1. -/
noncomputable def tryA (I : Ix) (s : List UInt8) (x : Int) (k : List UInt8) (es : List Evn) : Array Value × Int :=
  if ¬ okNames s k then (apV 0 0 0 false, 100) else
  match I.key k with
  | some d => if d.s ≠ s then (apV 0 0 0 false, 101) else (apV d.first d.pos d.cnt true, 0)
  | none => if ¬ okEvs es then (apV 0 0 0 false, 102) else if x < -1 then (apV 0 0 0 false, 1) else if x ≠ -1 ∧ x ≠ (I.ver s : Int) then (apV 0 0 0 false, 103) else (apV (I.ver s) I.all.length es.length false, 0)

def TrPost (r : Array Value × Int) (w : World) (e : Ending) (w' : World) : Prop := e = .returned (.tuple #[.agg r.1, .int .i64 r.2]) ∧ Below w.heap.size w w'

end Go.Proofs.Ytgpijeaehkabdaa

/-
  DERIVED. The walk of the state's check, by cases.
-/
namespace Go.Proofs.Ytgpijeaehkabdaa
open Go.RowKit Go.Maps
set_option linter.unusedVariables false

abbrev bt (s k : List UInt8) (f : Int) (a : Option Addr) (n c : Nat) : Array Value := #[sv s, sv k, .int .i64 f, .slice a n c]
open Classical in
/-- What a check of a batch answers: P10.2. -/
noncomputable def chkA (I : Ix) (s k : List UInt8) (fi : Int) (es : List Evn) : Int :=
  if ¬ okNames s k then 100 else if (I.key k).isSome = true then 101 else if ¬ okEvs es then 102 else if fi ≠ (I.ver s : Int) then 103 else 0

set_option maxRecDepth 20000 in
set_option maxHeartbeats 4000000 in
theorem chk_names0 {w : World} {F : Nat → Prop} {st mp mk N : Nat} {I : Ix} {xs : List (Ent × Nat)} {av : Value} {pf : List UInt8 → Value} {D1 D2 : DataW Value} (h : IxIn w F st mp mk N I xs av pf D1 D2) (a : Option Addr) (n c : Nat) (ha : av = .slice a n c) (s : List UInt8) (hs : s.length ≤ maxLen) (fi : Int) (k : List UInt8) (hk : k.length ≤ maxLen) (ea : Option Addr) (en ec : Nat) (es : List Evn) (hv : EvL w (.slice ea en ec) es) (hfit : ∀ e ∈ es, fitE e) (hn : ¬ okNames s k) (hky : I.key k = none) :
    Calls Try.prog 26 #[.agg (stV (.slice a n c) (some mp) (some mk)), .agg (bt s k fi ea en ec)] w fun e w' => e = .returned (.int .i64 100) ∧ Below w.heap.size w w' := by
  have hsl : s.length ≤ 9223372036854775807 := hs
  have hkl : k.length ≤ 9223372036854775807 := hk
  have lmp := h.mpo.lt
  have lmk := h.mko.lt
  obtain ⟨w2, hw2⟩ : ∃ w2, w2 = (w.alloc (.cells (stV (.slice a n c) (some mp) (some mk)) 68)).alloc (.cells (bt s k fi ea en ec) 30) := ⟨_, rfl⟩
  have b2 : Below w.heap.size w w2 := by rw [hw2]; exact ((Below.refl _ _).alloc (Nat.le_refl _) _).alloc (by simp) _
  have z2 : w2.heap.size = w.heap.size + 2 := by rw [hw2]; simp
  have HS2 : w2.heap[w.heap.size]? = some (.cells (stV (.slice a n c) (some mp) (some mk)) 68 (0, 0)) := by rw [hw2, Below.heap_alloc _ _ _ (by simp)]; exact heap_alloc_self _ _
  have HB2 : BBox w2 (w.heap.size + 1) s k fi (.slice ea en ec) := by
    unfold BBox; rw [hw2, show w.heap.size + 1 = (w.alloc (.cells (stV (.slice a n c) (some mp) (some mk)) 68)).heap.size by simp]; exact heap_alloc_self _ _
  have hlk := h.lookK (W := w2) (b2.block mk lmk) k hkl
  have HKEY := hide hky
  rw [unhide HKEY] at hlk
  simp only [kdV, Option.isSome_none] at hlk
  obtain ⟨w3, hw3⟩ : ∃ w3, w3 = w2.alloc (.cells (kdA [] 0 0 0 false) 84) := ⟨_, rfl⟩
  have b3 : Below w2.heap.size w2 w3 := by rw [hw3]; exact (Below.refl _ _).alloc (Nat.le_refl _) _
  have B3 := hide (b2.trans (b3.mono b2.size))
  have z3 : w3.heap.size = w.heap.size + 3 := by rw [hw3]; simp [z2]
  have HS3 := (b3.block w.heap.size (by omega)).trans HS2
  have HB3 := HB2.same (b3.block (w.heap.size + 1) (by omega))
  obtain ⟨q0, q1, q2, q3, q4⟩ := HB2.cells
  obtain ⟨p0, p1, p2, p3, p4⟩ := HB3.cells
  have t3 : w2.cell? ⟨w.heap.size, 2, none⟩ = some (.map (some mk)) := (cell_of_row _ _ _ _ _ _ HS2).trans rfl
  have HI := hide h
  have HV := hide hv
  have HFI := hide hfit
  have HSS := hide HS3
  have HBB := hide HB3
  have Z3 := hide z3
  have NA := hide (namesAllowed_any s k)
  have HNA := hide (ans_false hn)

  clear h b2 b3 z2 z3 HS2 HB2 HS3 HB3 hv hfit hs hk hky
  go_enter Try.func26, Try.ntmps26
  go_upto_region 1 with fail
  rw [← hw2]
  clear hw2
  go_upto_region 2 with fail
  rw [← hw3]
  clear hw3 hlk q0 q1 q2 q3 q4 t3
  go_wp2_with fail
  refine (unhide NA w3 hsl hkl).mono ?_
  rintro e w4 ⟨rfl, rfl⟩
  rw [unhide HNA]
  go_wp2
  go_ret
  exact ⟨rfl, unhide B3⟩

set_option maxRecDepth 20000 in
set_option maxHeartbeats 4000000 in
theorem chk_names1 {w : World} {F : Nat → Prop} {st mp mk N : Nat} {I : Ix} {xs : List (Ent × Nat)} {av : Value} {pf : List UInt8 → Value} {D1 D2 : DataW Value} (h : IxIn w F st mp mk N I xs av pf D1 D2) (a : Option Addr) (n c : Nat) (ha : av = .slice a n c) (s : List UInt8) (hs : s.length ≤ maxLen) (fi : Int) (k : List UInt8) (hk : k.length ≤ maxLen) (ea : Option Addr) (en ec : Nat) (es : List Evn) (hv : EvL w (.slice ea en ec) es) (hfit : ∀ e ∈ es, fitE e) (hn : ¬ okNames s k) (ds : List UInt8) (df dp dc : Nat) (hky : I.key k = some ⟨ds, df, dp, dc⟩) :
    Calls Try.prog 26 #[.agg (stV (.slice a n c) (some mp) (some mk)), .agg (bt s k fi ea en ec)] w fun e w' => e = .returned (.int .i64 100) ∧ Below w.heap.size w w' := by
  have hsl : s.length ≤ 9223372036854775807 := hs
  have hkl : k.length ≤ 9223372036854775807 := hk
  have lmp := h.mpo.lt
  have lmk := h.mko.lt
  obtain ⟨w2, hw2⟩ : ∃ w2, w2 = (w.alloc (.cells (stV (.slice a n c) (some mp) (some mk)) 68)).alloc (.cells (bt s k fi ea en ec) 30) := ⟨_, rfl⟩
  have b2 : Below w.heap.size w w2 := by rw [hw2]; exact ((Below.refl _ _).alloc (Nat.le_refl _) _).alloc (by simp) _
  have z2 : w2.heap.size = w.heap.size + 2 := by rw [hw2]; simp
  have HS2 : w2.heap[w.heap.size]? = some (.cells (stV (.slice a n c) (some mp) (some mk)) 68 (0, 0)) := by rw [hw2, Below.heap_alloc _ _ _ (by simp)]; exact heap_alloc_self _ _
  have HB2 : BBox w2 (w.heap.size + 1) s k fi (.slice ea en ec) := by
    unfold BBox; rw [hw2, show w.heap.size + 1 = (w.alloc (.cells (stV (.slice a n c) (some mp) (some mk)) 68)).heap.size by simp]; exact heap_alloc_self _ _
  have hlk := h.lookK (W := w2) (b2.block mk lmk) k hkl
  have HKEY := hide hky
  rw [unhide HKEY] at hlk
  simp only [kdV, Option.isSome_some] at hlk
  obtain ⟨w3, hw3⟩ : ∃ w3, w3 = w2.alloc (.cells (kdA ds df dp dc false) 84) := ⟨_, rfl⟩
  have b3 : Below w2.heap.size w2 w3 := by rw [hw3]; exact (Below.refl _ _).alloc (Nat.le_refl _) _
  have B3 := hide (b2.trans (b3.mono b2.size))
  have z3 : w3.heap.size = w.heap.size + 3 := by rw [hw3]; simp [z2]
  have HS3 := (b3.block w.heap.size (by omega)).trans HS2
  have HB3 := HB2.same (b3.block (w.heap.size + 1) (by omega))
  obtain ⟨q0, q1, q2, q3, q4⟩ := HB2.cells
  obtain ⟨p0, p1, p2, p3, p4⟩ := HB3.cells
  have t3 : w2.cell? ⟨w.heap.size, 2, none⟩ = some (.map (some mk)) := (cell_of_row _ _ _ _ _ _ HS2).trans rfl
  have HI := hide h
  have HV := hide hv
  have HFI := hide hfit
  have HSS := hide HS3
  have HBB := hide HB3
  have Z3 := hide z3
  have NA := hide (namesAllowed_any s k)
  have HNA := hide (ans_false hn)

  clear h b2 b3 z2 z3 HS2 HB2 HS3 HB3 hv hfit hs hk hky
  go_enter Try.func26, Try.ntmps26
  go_upto_region 1 with fail
  rw [← hw2]
  clear hw2
  go_upto_region 2 with fail
  rw [← hw3]
  clear hw3 hlk q0 q1 q2 q3 q4 t3
  go_wp2_with fail
  refine (unhide NA w3 hsl hkl).mono ?_
  rintro e w4 ⟨rfl, rfl⟩
  rw [unhide HNA]
  go_wp2
  go_ret
  exact ⟨rfl, unhide B3⟩

set_option maxRecDepth 20000 in
set_option maxHeartbeats 4000000 in
theorem chk_key {w : World} {F : Nat → Prop} {st mp mk N : Nat} {I : Ix} {xs : List (Ent × Nat)} {av : Value} {pf : List UInt8 → Value} {D1 D2 : DataW Value} (h : IxIn w F st mp mk N I xs av pf D1 D2) (a : Option Addr) (n c : Nat) (ha : av = .slice a n c) (s : List UInt8) (hs : s.length ≤ maxLen) (fi : Int) (k : List UInt8) (hk : k.length ≤ maxLen) (ea : Option Addr) (en ec : Nat) (es : List Evn) (hv : EvL w (.slice ea en ec) es) (hfit : ∀ e ∈ es, fitE e) (hn : okNames s k) (ds : List UInt8) (df dp dc : Nat) (hky : I.key k = some ⟨ds, df, dp, dc⟩) :
    Calls Try.prog 26 #[.agg (stV (.slice a n c) (some mp) (some mk)), .agg (bt s k fi ea en ec)] w fun e w' => e = .returned (.int .i64 101) ∧ Below w.heap.size w w' := by
  have hsl : s.length ≤ 9223372036854775807 := hs
  have hkl : k.length ≤ 9223372036854775807 := hk
  have lmp := h.mpo.lt
  have lmk := h.mko.lt
  obtain ⟨w2, hw2⟩ : ∃ w2, w2 = (w.alloc (.cells (stV (.slice a n c) (some mp) (some mk)) 68)).alloc (.cells (bt s k fi ea en ec) 30) := ⟨_, rfl⟩
  have b2 : Below w.heap.size w w2 := by rw [hw2]; exact ((Below.refl _ _).alloc (Nat.le_refl _) _).alloc (by simp) _
  have z2 : w2.heap.size = w.heap.size + 2 := by rw [hw2]; simp
  have HS2 : w2.heap[w.heap.size]? = some (.cells (stV (.slice a n c) (some mp) (some mk)) 68 (0, 0)) := by rw [hw2, Below.heap_alloc _ _ _ (by simp)]; exact heap_alloc_self _ _
  have HB2 : BBox w2 (w.heap.size + 1) s k fi (.slice ea en ec) := by
    unfold BBox; rw [hw2, show w.heap.size + 1 = (w.alloc (.cells (stV (.slice a n c) (some mp) (some mk)) 68)).heap.size by simp]; exact heap_alloc_self _ _
  have hlk := h.lookK (W := w2) (b2.block mk lmk) k hkl
  have HKEY := hide hky
  rw [unhide HKEY] at hlk
  simp only [kdV, Option.isSome_some] at hlk
  obtain ⟨w3, hw3⟩ : ∃ w3, w3 = w2.alloc (.cells (kdA ds df dp dc false) 84) := ⟨_, rfl⟩
  have b3 : Below w2.heap.size w2 w3 := by rw [hw3]; exact (Below.refl _ _).alloc (Nat.le_refl _) _
  have B3 := hide (b2.trans (b3.mono b2.size))
  have z3 : w3.heap.size = w.heap.size + 3 := by rw [hw3]; simp [z2]
  have HS3 := (b3.block w.heap.size (by omega)).trans HS2
  have HB3 := HB2.same (b3.block (w.heap.size + 1) (by omega))
  obtain ⟨q0, q1, q2, q3, q4⟩ := HB2.cells
  obtain ⟨p0, p1, p2, p3, p4⟩ := HB3.cells
  have t3 : w2.cell? ⟨w.heap.size, 2, none⟩ = some (.map (some mk)) := (cell_of_row _ _ _ _ _ _ HS2).trans rfl
  have HI := hide h
  have HV := hide hv
  have HFI := hide hfit
  have HSS := hide HS3
  have HBB := hide HB3
  have Z3 := hide z3
  have NA := hide (namesAllowed_any s k)
  have HNA := hide (ans_true hn)

  clear h b2 b3 z2 z3 HS2 HB2 HS3 HB3 hv hfit hs hk hky
  go_enter Try.func26, Try.ntmps26
  go_upto_region 1 with fail
  rw [← hw2]
  clear hw2
  go_upto_region 2 with fail
  rw [← hw3]
  clear hw3 hlk q0 q1 q2 q3 q4 t3
  go_wp2_with fail
  refine (unhide NA w3 hsl hkl).mono ?_
  rintro e w4 ⟨rfl, rfl⟩
  rw [unhide HNA]
  go_wp2
  go_ret
  exact ⟨rfl, unhide B3⟩

set_option maxRecDepth 20000 in
set_option maxHeartbeats 4000000 in
theorem chk_evs {w : World} {F : Nat → Prop} {st mp mk N : Nat} {I : Ix} {xs : List (Ent × Nat)} {av : Value} {pf : List UInt8 → Value} {D1 D2 : DataW Value} (h : IxIn w F st mp mk N I xs av pf D1 D2) (a : Option Addr) (n c : Nat) (ha : av = .slice a n c) (s : List UInt8) (hs : s.length ≤ maxLen) (fi : Int) (k : List UInt8) (hk : k.length ≤ maxLen) (ea : Option Addr) (en ec : Nat) (es : List Evn) (hv : EvL w (.slice ea en ec) es) (hfit : ∀ e ∈ es, fitE e) (hn : okNames s k) (hky : I.key k = none) (hev : ¬ okEvs es) :
    Calls Try.prog 26 #[.agg (stV (.slice a n c) (some mp) (some mk)), .agg (bt s k fi ea en ec)] w fun e w' => e = .returned (.int .i64 102) ∧ Below w.heap.size w w' := by
  have hsl : s.length ≤ 9223372036854775807 := hs
  have hkl : k.length ≤ 9223372036854775807 := hk
  have lmp := h.mpo.lt
  have lmk := h.mko.lt
  obtain ⟨w2, hw2⟩ : ∃ w2, w2 = (w.alloc (.cells (stV (.slice a n c) (some mp) (some mk)) 68)).alloc (.cells (bt s k fi ea en ec) 30) := ⟨_, rfl⟩
  have b2 : Below w.heap.size w w2 := by rw [hw2]; exact ((Below.refl _ _).alloc (Nat.le_refl _) _).alloc (by simp) _
  have z2 : w2.heap.size = w.heap.size + 2 := by rw [hw2]; simp
  have HS2 : w2.heap[w.heap.size]? = some (.cells (stV (.slice a n c) (some mp) (some mk)) 68 (0, 0)) := by rw [hw2, Below.heap_alloc _ _ _ (by simp)]; exact heap_alloc_self _ _
  have HB2 : BBox w2 (w.heap.size + 1) s k fi (.slice ea en ec) := by
    unfold BBox; rw [hw2, show w.heap.size + 1 = (w.alloc (.cells (stV (.slice a n c) (some mp) (some mk)) 68)).heap.size by simp]; exact heap_alloc_self _ _
  have hlk := h.lookK (W := w2) (b2.block mk lmk) k hkl
  have HKEY := hide hky
  rw [unhide HKEY] at hlk
  simp only [kdV, Option.isSome_none] at hlk
  obtain ⟨w3, hw3⟩ : ∃ w3, w3 = w2.alloc (.cells (kdA [] 0 0 0 false) 84) := ⟨_, rfl⟩
  have b3 : Below w2.heap.size w2 w3 := by rw [hw3]; exact (Below.refl _ _).alloc (Nat.le_refl _) _
  have B3 := hide (b2.trans (b3.mono b2.size))
  have z3 : w3.heap.size = w.heap.size + 3 := by rw [hw3]; simp [z2]
  have HS3 := (b3.block w.heap.size (by omega)).trans HS2
  have HB3 := HB2.same (b3.block (w.heap.size + 1) (by omega))
  obtain ⟨q0, q1, q2, q3, q4⟩ := HB2.cells
  obtain ⟨p0, p1, p2, p3, p4⟩ := HB3.cells
  have t3 : w2.cell? ⟨w.heap.size, 2, none⟩ = some (.map (some mk)) := (cell_of_row _ _ _ _ _ _ HS2).trans rfl
  have HI := hide h
  have HV := hide hv
  have HFI := hide hfit
  have HSS := hide HS3
  have HBB := hide HB3
  have Z3 := hide z3
  have NA := hide (namesAllowed_any s k)
  have HNA := hide (ans_true hn)
  have HEV := hide (ans_false hev)
  clear hev

  clear h b2 b3 z2 z3 HS2 HB2 HS3 HB3 hv hfit hs hk hky
  go_enter Try.func26, Try.ntmps26
  go_upto_region 1 with fail
  rw [← hw2]
  clear hw2
  go_upto_region 2 with fail
  rw [← hw3]
  clear hw3 hlk q0 q1 q2 q3 q4 t3
  go_wp2_with fail
  refine (unhide NA w3 hsl hkl).mono ?_
  rintro e w4 ⟨rfl, rfl⟩
  rw [unhide HNA]
  have CE := hide (eventsAllowed_any ea en ec es w3 ((unhide HV).below (unhide B3) (Nat.le_refl _)) (unhide HFI))
  go_wp2_with fail
  refine (unhide CE).mono ?_
  rintro e w5 ⟨rfl, b5⟩
  rw [unhide HEV]
  have B5 := hide ((unhide B3).trans (b5.mono (unhide B3).size))
  clear b5 CE
  go_wp2
  go_ret
  exact ⟨rfl, unhide B5⟩

set_option maxRecDepth 20000 in
set_option maxHeartbeats 4000000 in
theorem chk_ver {w : World} {F : Nat → Prop} {st mp mk N : Nat} {I : Ix} {xs : List (Ent × Nat)} {av : Value} {pf : List UInt8 → Value} {D1 D2 : DataW Value} (h : IxIn w F st mp mk N I xs av pf D1 D2) (a : Option Addr) (n c : Nat) (ha : av = .slice a n c) (s : List UInt8) (hs : s.length ≤ maxLen) (fi : Int) (k : List UInt8) (hk : k.length ≤ maxLen) (ea : Option Addr) (en ec : Nat) (es : List Evn) (hv : EvL w (.slice ea en ec) es) (hfit : ∀ e ∈ es, fitE e) (hn : okNames s k) (hky : I.key k = none) (hev : okEvs es) (hf : fi ≠ (I.ver s : Int)) :
    Calls Try.prog 26 #[.agg (stV (.slice a n c) (some mp) (some mk)), .agg (bt s k fi ea en ec)] w fun e w' => e = .returned (.int .i64 103) ∧ Below w.heap.size w w' := by
  have hsl : s.length ≤ 9223372036854775807 := hs
  have hkl : k.length ≤ 9223372036854775807 := hk
  have lmp := h.mpo.lt
  have lmk := h.mko.lt
  obtain ⟨w2, hw2⟩ : ∃ w2, w2 = (w.alloc (.cells (stV (.slice a n c) (some mp) (some mk)) 68)).alloc (.cells (bt s k fi ea en ec) 30) := ⟨_, rfl⟩
  have b2 : Below w.heap.size w w2 := by rw [hw2]; exact ((Below.refl _ _).alloc (Nat.le_refl _) _).alloc (by simp) _
  have z2 : w2.heap.size = w.heap.size + 2 := by rw [hw2]; simp
  have HS2 : w2.heap[w.heap.size]? = some (.cells (stV (.slice a n c) (some mp) (some mk)) 68 (0, 0)) := by rw [hw2, Below.heap_alloc _ _ _ (by simp)]; exact heap_alloc_self _ _
  have HB2 : BBox w2 (w.heap.size + 1) s k fi (.slice ea en ec) := by
    unfold BBox; rw [hw2, show w.heap.size + 1 = (w.alloc (.cells (stV (.slice a n c) (some mp) (some mk)) 68)).heap.size by simp]; exact heap_alloc_self _ _
  have hlk := h.lookK (W := w2) (b2.block mk lmk) k hkl
  have HKEY := hide hky
  rw [unhide HKEY] at hlk
  simp only [kdV, Option.isSome_none] at hlk
  obtain ⟨w3, hw3⟩ : ∃ w3, w3 = w2.alloc (.cells (kdA [] 0 0 0 false) 84) := ⟨_, rfl⟩
  have b3 : Below w2.heap.size w2 w3 := by rw [hw3]; exact (Below.refl _ _).alloc (Nat.le_refl _) _
  have B3 := hide (b2.trans (b3.mono b2.size))
  have z3 : w3.heap.size = w.heap.size + 3 := by rw [hw3]; simp [z2]
  have HS3 := (b3.block w.heap.size (by omega)).trans HS2
  have HB3 := HB2.same (b3.block (w.heap.size + 1) (by omega))
  obtain ⟨q0, q1, q2, q3, q4⟩ := HB2.cells
  obtain ⟨p0, p1, p2, p3, p4⟩ := HB3.cells
  have t3 : w2.cell? ⟨w.heap.size, 2, none⟩ = some (.map (some mk)) := (cell_of_row _ _ _ _ _ _ HS2).trans rfl
  have HI := hide h
  have HV := hide hv
  have HFI := hide hfit
  have HSS := hide HS3
  have HBB := hide HB3
  have Z3 := hide z3
  have NA := hide (namesAllowed_any s k)
  have HNA := hide (ans_true hn)
  have HEV := hide (ans_true hev)
  have hq2 : (fi != (I.ver s : Int)) = true := bne_iff_ne.2 hf
  clear hev hf

  clear h b2 b3 z2 z3 HS2 HB2 HS3 HB3 hv hfit hs hk hky
  go_enter Try.func26, Try.ntmps26
  go_upto_region 1 with fail
  rw [← hw2]
  clear hw2
  go_upto_region 2 with fail
  rw [← hw3]
  clear hw3 hlk q0 q1 q2 q3 q4 t3
  go_wp2_with fail
  refine (unhide NA w3 hsl hkl).mono ?_
  rintro e w4 ⟨rfl, rfl⟩
  rw [unhide HNA]
  have CE := hide (eventsAllowed_any ea en ec es w3 ((unhide HV).below (unhide B3) (Nat.le_refl _)) (unhide HFI))
  go_wp2_with fail
  refine (unhide CE).mono ?_
  rintro e w5 ⟨rfl, b5⟩
  rw [unhide HEV]
  have B5 := hide ((unhide B3).trans (b5.mono (unhide B3).size))
  have HS5 := (b5.block w.heap.size (by have := unhide Z3; omega)).trans (unhide HSS)
  have HB5 := (unhide HBB).same (b5.block (w.heap.size + 1) (by have := unhide Z3; omega))
  have VC := hide (version_go (unhide HI) a n c ha s hsl w5.drew ((unhide B5).block mp lmp))
  obtain ⟨r0, r1, r2, r3, r4⟩ := HB5.cells
  have v0 : w5.cell? ⟨w.heap.size, 0, none⟩ = some (.slice a n c) := (cell_of_row _ _ _ _ _ _ HS5).trans rfl
  have v1 : w5.cell? ⟨w.heap.size, 1, none⟩ = some (.map (some mp)) := (cell_of_row _ _ _ _ _ _ HS5).trans rfl
  have v2 : w5.cell? ⟨w.heap.size, 2, none⟩ = some (.map (some mk)) := (cell_of_row _ _ _ _ _ _ HS5).trans rfl
  have S0 : Hid (w5.drew.cell? ⟨w.heap.size, 0, none⟩ = some (.slice a n c) ∧ w5.drew.cell? ⟨w.heap.size, 1, none⟩ = some (.map (some mp)) ∧ w5.drew.cell? ⟨w.heap.size, 2, none⟩ = some (.map (some mk)) ∧ w5.drew.cell? ⟨w.heap.size + 1, 0, none⟩ = some (sv s) ∧ w5.drew.cell? ⟨w.heap.size + 1, 2, none⟩ = some (.int .i64 fi)) := hide ⟨v0, v1, v2, r0, r2⟩
  have l5 : w.heap.size + 1 < w5.heap.size := by have := b5.size; have := unhide Z3; omega
  have NX : Hid (∀ w6, Below w5.drew.heap.size w5.drew w6 → (w6.cell? ⟨w.heap.size, 0, none⟩ = some (.slice a n c) ∧ w6.cell? ⟨w.heap.size, 1, none⟩ = some (.map (some mp)) ∧ w6.cell? ⟨w.heap.size, 2, none⟩ = some (.map (some mk)) ∧ w6.cell? ⟨w.heap.size + 1, 0, none⟩ = some (sv s) ∧ w6.cell? ⟨w.heap.size + 1, 2, none⟩ = some (.int .i64 fi))) := hide (fun w6 hb => ⟨(hb.cell (p := ⟨w.heap.size, 0, none⟩) (show w.heap.size < w5.heap.size by omega)).trans (unhide S0).1, (hb.cell (p := ⟨w.heap.size, 1, none⟩) (show w.heap.size < w5.heap.size by omega)).trans (unhide S0).2.1, (hb.cell (p := ⟨w.heap.size, 2, none⟩) (show w.heap.size < w5.heap.size by omega)).trans (unhide S0).2.2.1, (hb.cell (p := ⟨w.heap.size + 1, 0, none⟩) l5).trans (unhide S0).2.2.2.1, (hb.cell (p := ⟨w.heap.size + 1, 2, none⟩) l5).trans (unhide S0).2.2.2.2⟩)
  have BN : Hid (∀ w6, Below w5.drew.heap.size w5.drew w6 → Below w.heap.size w w6) := hide (fun w6 hb => (unhide B5).drew.trans (hb.mono (unhide B5).size))
  clear b5 CE HS5 HB5 p0 p1 p2 p3 p4
  go_upto_region 8 with fail
  clear v0 v1 v2 r0 r1 r2 r3 r4
  go_region_held3 (fun w' => w'.cell? ⟨w.heap.size, 0, none⟩ = some (.slice a n c) ∧ w'.cell? ⟨w.heap.size, 1, none⟩ = some (.map (some mp)) ∧ w'.cell? ⟨w.heap.size, 2, none⟩ = some (.map (some mk)) ∧ w'.cell? ⟨w.heap.size + 1, 0, none⟩ = some (sv s) ∧ w'.cell? ⟨w.heap.size + 1, 2, none⟩ = some (.int .i64 fi))
    (first | exact unhide S0 | exact unhide S2)
    ((go_at_call 33; refine (unhide VC).mono ?_; rintro e w6 ⟨rfl, b6⟩; have S2 := hide (unhide NX w6 b6); have B6 := hide (unhide BN w6 b6); clear b6))
  all_goals
    go_wp2
    go_ret
    exact ⟨rfl, unhide B6⟩

set_option maxRecDepth 20000 in
set_option maxHeartbeats 4000000 in
theorem chk_fine {w : World} {F : Nat → Prop} {st mp mk N : Nat} {I : Ix} {xs : List (Ent × Nat)} {av : Value} {pf : List UInt8 → Value} {D1 D2 : DataW Value} (h : IxIn w F st mp mk N I xs av pf D1 D2) (a : Option Addr) (n c : Nat) (ha : av = .slice a n c) (s : List UInt8) (hs : s.length ≤ maxLen) (fi : Int) (k : List UInt8) (hk : k.length ≤ maxLen) (ea : Option Addr) (en ec : Nat) (es : List Evn) (hv : EvL w (.slice ea en ec) es) (hfit : ∀ e ∈ es, fitE e) (hn : okNames s k) (hky : I.key k = none) (hev : okEvs es) (hf : fi = (I.ver s : Int)) :
    Calls Try.prog 26 #[.agg (stV (.slice a n c) (some mp) (some mk)), .agg (bt s k fi ea en ec)] w fun e w' => e = .returned (.int .i64 0) ∧ Below w.heap.size w w' := by
  have hsl : s.length ≤ 9223372036854775807 := hs
  have hkl : k.length ≤ 9223372036854775807 := hk
  have lmp := h.mpo.lt
  have lmk := h.mko.lt
  obtain ⟨w2, hw2⟩ : ∃ w2, w2 = (w.alloc (.cells (stV (.slice a n c) (some mp) (some mk)) 68)).alloc (.cells (bt s k fi ea en ec) 30) := ⟨_, rfl⟩
  have b2 : Below w.heap.size w w2 := by rw [hw2]; exact ((Below.refl _ _).alloc (Nat.le_refl _) _).alloc (by simp) _
  have z2 : w2.heap.size = w.heap.size + 2 := by rw [hw2]; simp
  have HS2 : w2.heap[w.heap.size]? = some (.cells (stV (.slice a n c) (some mp) (some mk)) 68 (0, 0)) := by rw [hw2, Below.heap_alloc _ _ _ (by simp)]; exact heap_alloc_self _ _
  have HB2 : BBox w2 (w.heap.size + 1) s k fi (.slice ea en ec) := by
    unfold BBox; rw [hw2, show w.heap.size + 1 = (w.alloc (.cells (stV (.slice a n c) (some mp) (some mk)) 68)).heap.size by simp]; exact heap_alloc_self _ _
  have hlk := h.lookK (W := w2) (b2.block mk lmk) k hkl
  have HKEY := hide hky
  rw [unhide HKEY] at hlk
  simp only [kdV, Option.isSome_none] at hlk
  obtain ⟨w3, hw3⟩ : ∃ w3, w3 = w2.alloc (.cells (kdA [] 0 0 0 false) 84) := ⟨_, rfl⟩
  have b3 : Below w2.heap.size w2 w3 := by rw [hw3]; exact (Below.refl _ _).alloc (Nat.le_refl _) _
  have B3 := hide (b2.trans (b3.mono b2.size))
  have z3 : w3.heap.size = w.heap.size + 3 := by rw [hw3]; simp [z2]
  have HS3 := (b3.block w.heap.size (by omega)).trans HS2
  have HB3 := HB2.same (b3.block (w.heap.size + 1) (by omega))
  obtain ⟨q0, q1, q2, q3, q4⟩ := HB2.cells
  obtain ⟨p0, p1, p2, p3, p4⟩ := HB3.cells
  have t3 : w2.cell? ⟨w.heap.size, 2, none⟩ = some (.map (some mk)) := (cell_of_row _ _ _ _ _ _ HS2).trans rfl
  have HI := hide h
  have HV := hide hv
  have HFI := hide hfit
  have HSS := hide HS3
  have HBB := hide HB3
  have Z3 := hide z3
  have NA := hide (namesAllowed_any s k)
  have HNA := hide (ans_true hn)
  have HEV := hide (ans_true hev)
  have hq2 : (fi != (I.ver s : Int)) = false := by rw [hf]; simp
  clear hev hf

  clear h b2 b3 z2 z3 HS2 HB2 HS3 HB3 hv hfit hs hk hky
  go_enter Try.func26, Try.ntmps26
  go_upto_region 1 with fail
  rw [← hw2]
  clear hw2
  go_upto_region 2 with fail
  rw [← hw3]
  clear hw3 hlk q0 q1 q2 q3 q4 t3
  go_wp2_with fail
  refine (unhide NA w3 hsl hkl).mono ?_
  rintro e w4 ⟨rfl, rfl⟩
  rw [unhide HNA]
  have CE := hide (eventsAllowed_any ea en ec es w3 ((unhide HV).below (unhide B3) (Nat.le_refl _)) (unhide HFI))
  go_wp2_with fail
  refine (unhide CE).mono ?_
  rintro e w5 ⟨rfl, b5⟩
  rw [unhide HEV]
  have B5 := hide ((unhide B3).trans (b5.mono (unhide B3).size))
  have HS5 := (b5.block w.heap.size (by have := unhide Z3; omega)).trans (unhide HSS)
  have HB5 := (unhide HBB).same (b5.block (w.heap.size + 1) (by have := unhide Z3; omega))
  have VC := hide (version_go (unhide HI) a n c ha s hsl w5.drew ((unhide B5).block mp lmp))
  obtain ⟨r0, r1, r2, r3, r4⟩ := HB5.cells
  have v0 : w5.cell? ⟨w.heap.size, 0, none⟩ = some (.slice a n c) := (cell_of_row _ _ _ _ _ _ HS5).trans rfl
  have v1 : w5.cell? ⟨w.heap.size, 1, none⟩ = some (.map (some mp)) := (cell_of_row _ _ _ _ _ _ HS5).trans rfl
  have v2 : w5.cell? ⟨w.heap.size, 2, none⟩ = some (.map (some mk)) := (cell_of_row _ _ _ _ _ _ HS5).trans rfl
  have S0 : Hid (w5.drew.cell? ⟨w.heap.size, 0, none⟩ = some (.slice a n c) ∧ w5.drew.cell? ⟨w.heap.size, 1, none⟩ = some (.map (some mp)) ∧ w5.drew.cell? ⟨w.heap.size, 2, none⟩ = some (.map (some mk)) ∧ w5.drew.cell? ⟨w.heap.size + 1, 0, none⟩ = some (sv s) ∧ w5.drew.cell? ⟨w.heap.size + 1, 2, none⟩ = some (.int .i64 fi)) := hide ⟨v0, v1, v2, r0, r2⟩
  have l5 : w.heap.size + 1 < w5.heap.size := by have := b5.size; have := unhide Z3; omega
  have NX : Hid (∀ w6, Below w5.drew.heap.size w5.drew w6 → (w6.cell? ⟨w.heap.size, 0, none⟩ = some (.slice a n c) ∧ w6.cell? ⟨w.heap.size, 1, none⟩ = some (.map (some mp)) ∧ w6.cell? ⟨w.heap.size, 2, none⟩ = some (.map (some mk)) ∧ w6.cell? ⟨w.heap.size + 1, 0, none⟩ = some (sv s) ∧ w6.cell? ⟨w.heap.size + 1, 2, none⟩ = some (.int .i64 fi))) := hide (fun w6 hb => ⟨(hb.cell (p := ⟨w.heap.size, 0, none⟩) (show w.heap.size < w5.heap.size by omega)).trans (unhide S0).1, (hb.cell (p := ⟨w.heap.size, 1, none⟩) (show w.heap.size < w5.heap.size by omega)).trans (unhide S0).2.1, (hb.cell (p := ⟨w.heap.size, 2, none⟩) (show w.heap.size < w5.heap.size by omega)).trans (unhide S0).2.2.1, (hb.cell (p := ⟨w.heap.size + 1, 0, none⟩) l5).trans (unhide S0).2.2.2.1, (hb.cell (p := ⟨w.heap.size + 1, 2, none⟩) l5).trans (unhide S0).2.2.2.2⟩)
  have BN : Hid (∀ w6, Below w5.drew.heap.size w5.drew w6 → Below w.heap.size w w6) := hide (fun w6 hb => (unhide B5).drew.trans (hb.mono (unhide B5).size))
  clear b5 CE HS5 HB5 p0 p1 p2 p3 p4
  go_upto_region 8 with fail
  clear v0 v1 v2 r0 r1 r2 r3 r4
  go_region_held3 (fun w' => w'.cell? ⟨w.heap.size, 0, none⟩ = some (.slice a n c) ∧ w'.cell? ⟨w.heap.size, 1, none⟩ = some (.map (some mp)) ∧ w'.cell? ⟨w.heap.size, 2, none⟩ = some (.map (some mk)) ∧ w'.cell? ⟨w.heap.size + 1, 0, none⟩ = some (sv s) ∧ w'.cell? ⟨w.heap.size + 1, 2, none⟩ = some (.int .i64 fi))
    (first | exact unhide S0 | exact unhide S2)
    ((go_at_call 33; refine (unhide VC).mono ?_; rintro e w6 ⟨rfl, b6⟩; have S2 := hide (unhide NX w6 b6); have B6 := hide (unhide BN w6 b6); clear b6))
  all_goals
    go_wp2
    go_ret
    exact ⟨rfl, unhide B6⟩

theorem check_go {w : World} {F : Nat → Prop} {st mp mk N : Nat} {I : Ix} {xs : List (Ent × Nat)} {av : Value} {pf : List UInt8 → Value} {D1 D2 : DataW Value} (h : IxIn w F st mp mk N I xs av pf D1 D2) (a : Option Addr) (n c : Nat) (ha : av = .slice a n c) (s : List UInt8) (hs : s.length ≤ maxLen) (fi : Int) (k : List UInt8) (hk : k.length ≤ maxLen) (ea : Option Addr) (en ec : Nat) (es : List Evn) (hv : EvL w (.slice ea en ec) es) (hfit : ∀ e ∈ es, fitE e) :
    Calls Try.prog 26 #[.agg (stV (.slice a n c) (some mp) (some mk)), .agg (bt s k fi ea en ec)] w fun e w' => e = .returned (.int .i64 (chkA I s k fi es)) ∧ Below w.heap.size w w' := by
  unfold chkA
  by_cases hn : okNames s k
  · rw [if_neg (fun h' => h' hn)]
    cases hky : I.key k with
    | none =>
      rw [if_neg (by simp)]
      by_cases hev : okEvs es
      · rw [if_neg (fun h' => h' hev)]
        by_cases hf : fi = (I.ver s : Int)
        · rw [if_neg (fun h' => h' hf)]
          exact chk_fine h a n c ha s hs fi k hk ea en ec es hv hfit hn hky hev hf
        · rw [if_pos hf]
          exact chk_ver h a n c ha s hs fi k hk ea en ec es hv hfit hn hky hev hf
      · rw [if_pos hev]
        exact chk_evs h a n c ha s hs fi k hk ea en ec es hv hfit hn hky hev
    | some d =>
      obtain ⟨ds, df, dp, dc⟩ := d
      rw [if_pos (by simp)]
      exact chk_key h a n c ha s hs fi k hk ea en ec es hv hfit hn ds df dp dc hky
  · rw [if_pos hn]
    cases hky : I.key k with
    | none => exact chk_names0 h a n c ha s hs fi k hk ea en ec es hv hfit hn hky
    | some d =>
      obtain ⟨ds, df, dp, dc⟩ := d
      exact chk_names1 h a n c ha s hs fi k hk ea en ec es hv hfit hn ds df dp dc hky
end Go.Proofs.Ytgpijeaehkabdaa
