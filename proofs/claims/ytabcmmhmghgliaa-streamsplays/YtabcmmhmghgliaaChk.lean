/-
  DERIVED. The walk of Check.
-/
import Derived.Test.YtabcmmhmghgliaaEvs
import Derived.Deep.Cut
import Derived.Deep.CutRange
namespace Go.Proofs.Ytabcmmhmghgliaa
open Go.RowKit
set_option linter.unusedVariables false

/-- An event's cells. -/
abbrev ev (t : List UInt8) (v : Int) (a : Option Addr) (n c : Nat) : Array Value := #[sv t, .int .i64 v, .slice a n c]

theorem not_event {t : List UInt8} {v : Int} {fs : List Fld} (h : ¬ (okName t ∧ 0 ≤ v ∧ v ≤ 1073741824 ∧ fs.length ≤ 16)) : ¬ okEvent t v fs := fun h' => h ⟨h'.1, h'.2.1, h'.2.2.1, h'.2.2.2.1⟩

open Classical in
/-- The number of Check's answer. -/
noncomputable def chk (p : Prop) : Int := if p then 0 else 13
open Classical in
theorem chk_ok {p : Prop} (h : p) : chk p = 0 := by unfold chk; rw [if_pos h]
open Classical in
theorem chk_bad {p : Prop} (h : ¬ p) : chk p = 13 := by unfold chk; rw [if_neg h]

theorem bel_call {w wr w4 : World} {o : Obj} (h : Below w.heap.size w wr) (h4 : Below (wr.alloc o).drew.heap.size (wr.alloc o).drew w4) : Below w.heap.size w w4 :=
  ((h.alloc h.size o).drew).trans (h4.mono (by show w.heap.size ≤ (wr.alloc o).heap.size; have := h.size; simp; omega))

theorem bel_call' {wr w4 : World} {o : Obj} (h4 : Below (wr.alloc o).drew.heap.size (wr.alloc o).drew w4) : Below wr.heap.size wr w4 :=
  (((Below.refl wr.heap.size wr).alloc (Nat.le_refl _) o).drew).trans (h4.mono (by show wr.heap.size ≤ (wr.alloc o).heap.size; simp))
theorem bel_call'' {B : Nat} {w0 wr w4 : World} {o : Obj} (h : Below B w0 wr) (hB : B ≤ wr.heap.size) (h4 : Below (wr.alloc o).drew.heap.size (wr.alloc o).drew w4) : Below B w0 w4 :=
  h.trans ((bel_call' h4).mono hB)

theorem head_cases {t : List UInt8} {v : Int} {m : Nat} (hn : okName t) (hbad : ¬ (okName t ∧ 0 ≤ v ∧ v ≤ 1073741824 ∧ m ≤ 16)) : v < 0 ∨ (0 ≤ v ∧ 1073741824 < v) ∨ (0 ≤ v ∧ v ≤ 1073741824 ∧ 16 < m) := by
  by_cases h1 : v < 0
  · exact .inl h1
  · by_cases h2 : 1073741824 < v
    · exact .inr (.inl ⟨by omega, h2⟩)
    · refine .inr (.inr ⟨by omega, by omega, ?_⟩)
      by_cases h3 : 16 < m
      · exact h3
      · exact absurd ⟨hn, by omega, by omega, by omega⟩ hbad

set_option maxHeartbeats 2000000 in
theorem Check_head (t : List UInt8) (v : Int) (a : Option Addr) (n c : Nat) (fs : List Fld) (w : World) (ht : t.length ≤ 9223372036854775807) (hv : FdL w (.slice a n c) fs) (hbad : ¬ (okName t ∧ 0 ≤ v ∧ v ≤ 1073741824 ∧ fs.length ≤ 16)) :
    Calls Try.prog 61 #[.agg (ev t v a n c)] w fun e w' => e = .returned (.int .i64 (chk (okEvent t v fs))) ∧ Below w.heap.size w w' := by
  obtain rfl : n = fs.length := by obtain ⟨_, _, e, _⟩ := hv; cases e; rfl
  have HA := hide (chk_bad (not_event hbad))
  have HB := hide ((Below.refl w.heap.size w).alloc (Nat.le_refl _) (.cells (ev t v a fs.length c) 49))
  by_cases hn : okName t
  · have HN := hide (ans_true hn)
    rcases head_cases hn hbad with h | ⟨h1, h2⟩ | ⟨h1, h2, h3⟩
    all_goals
      clear hbad hn
      go_enter Try.func61, Try.ntmps61
      go_wp2_with (go_at_call 73; refine (nameAllowed_any t _ ht).mono ?_; rintro e w' ⟨rfl, rfl⟩; rw [unhide HN])
      go_ret
      rw [unhide HA]
      exact ⟨rfl, unhide HB⟩
  · have HN := hide (ans_false hn)
    clear hbad hn
    go_enter Try.func61, Try.ntmps61
    go_wp2_with (go_at_call 73; refine (nameAllowed_any t _ ht).mono ?_; rintro e w' ⟨rfl, rfl⟩; rw [unhide HN])
    go_ret
    rw [unhide HA]
    exact ⟨rfl, unhide HB⟩

set_option maxHeartbeats 4000000 in
theorem Check_fields (t : List UInt8) (v : Int) (a : Option Addr) (n c : Nat) (fs : List Fld) (w : World) (ht : t.length ≤ 9223372036854775807) (hv : FdL w (.slice a n c) fs) (hfit : ∀ f ∈ fs, fits f) (hn : okName t) (h1 : 0 ≤ v) (h2 : v ≤ 1073741824) (h3 : fs.length ≤ 16) :
    Calls Try.prog 61 #[.agg (ev t v a n c)] w fun e w' => e = .returned (.int .i64 (chk (okEvent t v fs))) ∧ Below w.heap.size w w' := by
  obtain ⟨ao, cap, e, g1, g2, g4⟩ := id hv
  cases e
  have HNm := hide (ans_true hn)
  have HE := hide (show (∀ j, j < fs.length → okAt fs j) → okEvent t v fs from fun h => ⟨hn, h1, h2, h3, h⟩)
  obtain ⟨N, hN⟩ : ∃ N, N = fs.length := ⟨_, rfl⟩
  have HN := hide hN
  have HV := hide hv
  have H4 := hide g4
  have HFit := hide hfit
  rw [← hN] at g1 h3 ⊢
  clear g4 hN hv hfit hn
  go_enter Try.func61, Try.ntmps61
  go_wp2_with (go_at_call 73; refine (nameAllowed_any t _ ht).mono ?_; rintro e w' ⟨rfl, rfl⟩; rw [unhide HNm])
  obtain ⟨w0, hw0⟩ : ∃ w0, w0 = w.alloc (.cells (ev t v a N c) 49) := ⟨_, rfl⟩
  rw [← hw0]
  have s0 : w.heap.size < w0.heap.size := by rw [hw0]; simp
  have b0 : Below w.heap.size w w0 := by rw [hw0]; exact (Below.refl _ _).alloc (Nat.le_refl _) _
  have z2 : w0.cell? ⟨w.heap.size, 2, none⟩ = some (.slice a N c) := by rw [hw0]; simp
  have HB0 := hide b0
  clear hw0 b0
  go_loopw [3, 4, 28] (fun _ _ i wr => ∃ k : Nat, k ≤ N ∧ i = .int .i64 k ∧ Hid (∀ j, j < k → okAt fs j) ∧ Below w0.heap.size w0 wr) (fun _ _ i _ => N - (intOf i).toNat)
  case atStart => exact ⟨0, by omega, rfl, hide (fun j hj => by omega), Below.refl _ _⟩
  case round =>
    obtain ⟨k, hk, rfl, HJ, hbel⟩ := hrel
    have hsw := hbel.size
    have z2r := (hbel.cell (p := ⟨w.heap.size, 2, none⟩) s0).trans z2
    have HWr := hide ((unhide HB0).trans (hbel.mono (by omega)))
    clear z2
    by_cases hlt : k < N
    · have hkl : k < fs.length := by have := unhide HN; omega
      obtain ⟨b, off, rfl, hb, hc⟩ := unhide H4 (by omega)
      obtain ⟨c0, c1, c2, c3⟩ := hc k hkl
      obtain ⟨f, hf⟩ : ∃ f, f = fs[k] := ⟨_, rfl⟩
      rw [← hf] at c0 c1 c2 c3
      have d0 := ((unhide HWr).cell (p := ⟨b, off + k * 4, none⟩) hb).trans c0
      have d1 := ((unhide HWr).cell (p := ⟨b, off + k * 4 + 1, none⟩) hb).trans c1
      have d2 := ((unhide HWr).cell (p := ⟨b, off + k * 4 + 2, none⟩) hb).trans c2
      have d3 := ((unhide HWr).cell (p := ⟨b, off + k * 4 + 3, none⟩) hb).trans c3
      have HF : Hid (fs[k]? = some f) := hide (by rw [hf]; exact List.getElem?_eq_getElem hkl)
      have HFf := hide (unhide HFit f (by rw [hf]; exact List.getElem_mem hkl))
      have HB := hide hbel
      clear hf hc c0 c1 c2 c3 hbel
      have HF4 := hide (fun o => (unhide HWr).alloc (by omega) o)
      obtain ⟨fn, ft, fi, fss⟩ := f
      simp only at d0 d1 d2 d3
      have z2a : ∀ o, (wr.alloc o).cell? ⟨w.heap.size, 2, none⟩ = some (.slice (some ⟨b, off, none⟩) N c) := fun o => (((Below.refl wr.heap.size wr).alloc (Nat.le_refl _) o).cell (p := ⟨w.heap.size, 2, none⟩) (by show w.heap.size < wr.heap.size; omega)).trans z2r
      by_cases hok : okField ⟨fn, ft, fi, fss⟩
      · have HOK := hide (ans_true hok)
        have HT := hide ((((unhide HV).below (unhide HWr) (Nat.le_refl _)).take k (by omega)))
        by_cases hdup : ∃ g ∈ fs.take k, g.name = fn
        · have HDU := hide (ans_true hdup)
          have HA := hide (chk_bad (p := okEvent t v fs) (fun h => by
            obtain ⟨g, hg, _, h6⟩ := h.2.2.2.2 k hkl
            rw [unhide HF] at hg
            cases hg
            obtain ⟨q, hq, he⟩ := hdup
            obtain ⟨j, hj, e⟩ := List.mem_iff_getElem.1 hq
            have hj' : j < k := by simp at hj; omega
            refine h6 j hj' q ?_ he
            rw [← e, List.getElem_take]
            exact List.getElem?_eq_getElem (by omega)))
          clear hok hdup
          go_upto_region 6 with fail
          first | (go_region_with (first | (go_at_call 74; refine (fieldAllowed_any ⟨fn, ft, fi, fss⟩ _ (unhide HFf)).mono ?_; rintro e w4 ⟨rfl, b4⟩; rw [unhide HOK]; have HB4 := hide b4; have s4 := b4.size; have z24 := b4.cell (p := ⟨w.heap.size, 2, none⟩) (by simp; omega); have n4 := b4.cell (p := ⟨wr.heap.size, 0, none⟩) (by simp); simp [z2a] at z24 n4 s4; clear b4) | (go_at_call 75; refine (hasField_any _ _ _ (fs.take k) fn _ ((unhide HT).below (bel_call' (unhide HB4)) (Nat.le_refl _))).mono ?_; rintro e w5 ⟨rfl, b5⟩; rw [unhide HDU]; have HB5 := hide ((unhide HB4).trans (b5.mono (unhide HB4).size)); clear b5))) | fail
          all_goals
            go_wp2
            go_ret
            rw [unhide HA]
            exact ⟨rfl, bel_call (unhide HWr) (unhide HB5)⟩
        · have HDU := hide (ans_false hdup)
          have HJ2 : Hid (∀ j, j < k + 1 → okAt fs j) := hide (fun j hj => by
            by_cases h : j < k
            · exact unhide HJ j h
            · have : j = k := by omega
              subst this
              refine ⟨_, unhide HF, hok, fun i hi g hg he => hdup ⟨g, ?_, he⟩⟩
              rw [List.mem_iff_getElem?]
              exact ⟨i, by rw [List.getElem?_take_of_lt hi]; exact hg⟩)
          clear hok hdup
          go_upto_region 6 with fail
          first | (go_region_with (first | (go_at_call 74; refine (fieldAllowed_any ⟨fn, ft, fi, fss⟩ _ (unhide HFf)).mono ?_; rintro e w4 ⟨rfl, b4⟩; rw [unhide HOK]; have HB4 := hide b4; have s4 := b4.size; have z24 := b4.cell (p := ⟨w.heap.size, 2, none⟩) (by simp; omega); have n4 := b4.cell (p := ⟨wr.heap.size, 0, none⟩) (by simp); simp [z2a] at z24 n4 s4; clear b4) | (go_at_call 75; refine (hasField_any _ _ _ (fs.take k) fn _ ((unhide HT).below (bel_call' (unhide HB4)) (Nat.le_refl _))).mono ?_; rintro e w5 ⟨rfl, b5⟩; rw [unhide HDU]; have HB5 := hide ((unhide HB4).trans (b5.mono (unhide HB4).size)); clear b5))) | fail
          all_goals
            go_wp2
            go_roundw
            case rel => exact ⟨k + 1, by omega, by go_num, HJ2, bel_call'' (unhide HB) hsw (unhide HB5)⟩
            case measure => simp [intOf]; omega
      · have HOK := hide (ans_false hok)
        have HA := hide (chk_bad (p := okEvent t v fs) (fun h => by
          obtain ⟨g, hg, h5, _⟩ := h.2.2.2.2 k hkl
          rw [unhide HF] at hg
          cases hg
          exact hok h5))
        clear hok
        go_upto_region 6 with fail
        first | (go_region_with (go_at_call 74; refine (fieldAllowed_any ⟨fn, ft, fi, fss⟩ _ (unhide HFf)).mono ?_; rintro e w4 ⟨rfl, b4⟩; rw [unhide HOK]; have HB4 := hide b4; clear b4)) | fail
        all_goals
          go_wp2
          go_ret
          rw [unhide HA]
          exact ⟨rfl, bel_call (unhide HWr) (unhide HB4)⟩
    · have HA := hide (chk_ok (unhide HE (fun j hj => unhide HJ j (by have := unhide HN; omega))))
      have HB := hide hbel
      clear hbel
      go_wp2
      go_ret
      rw [unhide HA]
      exact ⟨rfl, unhide HWr⟩
/-- Check. -/
theorem Check_any (t : List UInt8) (v : Int) (a : Option Addr) (n c : Nat) (fs : List Fld) (w : World) (ht : t.length ≤ 9223372036854775807) (hv : FdL w (.slice a n c) fs) (hfit : ∀ f ∈ fs, fits f) :
    Calls Try.prog 61 #[.agg (ev t v a n c)] w fun e w' => e = .returned (.int .i64 (chk (okEvent t v fs))) ∧ Below w.heap.size w w' := by
  by_cases h : okName t ∧ 0 ≤ v ∧ v ≤ 1073741824 ∧ fs.length ≤ 16
  · exact Check_fields t v a n c fs w ht hv hfit h.1 h.2.1 h.2.2.1 h.2.2.2
  · exact Check_head t v a n c fs w ht hv h
end Go.Proofs.Ytabcmmhmghgliaa
