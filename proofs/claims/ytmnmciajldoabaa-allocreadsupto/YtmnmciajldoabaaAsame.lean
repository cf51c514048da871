/-
  DERIVED. SameRuns; runs of one's own as they are read; Pick.
-/
import Derived.Test.YtmnmciajldoabaaAapp
import Derived.BigQuiet
namespace Go.Proofs.Ytmnmciajldoabaa
open Go.RowKit
set_option linter.unusedVariables false

def toI (x : Nat × Nat) : Int × Int := ((x.1 : Int), (x.2 : Int))

theorem rcells_at : ∀ (xs : List (Nat × Nat)) (i : Nat) (h : i < xs.length), (rcells xs)[i * 2]? = some (.int .i64 (xs[i].1 : Int)) ∧ (rcells xs)[i * 2 + 1]? = some (.int .i64 (xs[i].2 : Int))
  | x :: xs, 0, _ => by simp [rcells]
  | x :: xs, i + 1, h => by
    have ih := rcells_at xs i (by simpa using h)
    have e : rcells (x :: xs) = .int .i64 (x.1 : Int) :: .int .i64 (x.2 : Int) :: rcells xs := by simp [rcells]
    rw [e, show (i + 1) * 2 = i * 2 + 1 + 1 by omega, show i * 2 + 1 + 1 + 1 = (i * 2 + 1) + 1 + 1 by omega]
    simp only [List.getElem?_cons_succ, List.getElem_cons_succ]
    exact ih

theorem ROwn.rn {w : World} {base : Nat} {v : Value} {xs : List (Nat × Nat)} (h : ROwn w base v xs) (hf : ∀ x ∈ xs, x.1 ≤ 512 ∧ x.2 ≤ 512) : Rn w v (xs.map toI) := by
  have hfit : ∀ x ∈ xs.map toI, fits x := fun x hx => by
    obtain ⟨y, hy, rfl⟩ := List.mem_map.1 hx
    have := hf y hy
    simp only [fits, toI]
    omega
  rcases h.2 with ⟨rfl, h0⟩ | ⟨g, cap, cur, rfl, hb, hg, hn, hm, hs, ht⟩
  · obtain rfl : xs = [] := List.eq_nil_of_length_eq_zero h0
    exact ⟨none, 0, rfl, by simp, by omega, hfit, fun h => absurd rfl h⟩
  · refine ⟨some ⟨g, 0, none⟩, cap, by simp, by simpa using hn, by unfold maxLen at hm; omega, hfit, fun _ => ⟨g, 0, rfl, lt_of_block hg, fun i hi => ?_⟩⟩
    have hi' : i < xs.length := by simpa using hi
    obtain ⟨e1, e2⟩ := rcells_at xs i hi'
    have at' : ∀ j, j < xs.length * 2 → cur[j]? = (rcells xs)[j]? := fun j hj => by
      have e : (cur.toList.take (xs.length * 2))[j]? = (rcells xs)[j]? := by rw [ht]
      rw [List.getElem?_take_of_lt (by omega)] at e
      simpa using e
    constructor
    · rw [cell_of_row _ _ _ _ _ _ hg, Nat.zero_add, at' _ (by omega), e1]
      simp [toI]
    · rw [cell_of_row _ _ _ _ _ _ hg, Nat.zero_add, at' _ (by omega), e2]
      simp [toI]

/-- One run in a block of its own. -/
theorem Rn.one (w : World) (x1 x2 : Int) (hf : fits (x1, x2)) : Rn (w.alloc (.cells #[.int .i64 x1, .int .i64 x2] 36)) (.slice (some ⟨w.heap.size, 0, none⟩) 1 1) [(x1, x2)] := by
  refine ⟨_, 1, rfl, by simp, by omega, fun x hx => by simp at hx; subst hx; exact hf, fun _ => ⟨w.heap.size, 0, rfl, by simp, fun i hi => ?_⟩⟩
  have : i = 0 := by simp at hi; omega
  subst this
  exact ⟨(cell_of_row _ _ _ _ _ _ (heap_alloc_new _ _)).trans rfl, (cell_of_row _ _ _ _ _ _ (heap_alloc_new _ _)).trans rfl⟩

theorem take_eq_step {α : Type} (l m : List α) (k : Nat) (h1 : k < l.length) (h2 : k < m.length) (h : l.take k = m.take k) (e : l[k] = m[k]) : l.take (k + 1) = m.take (k + 1) := by
  rw [List.take_succ_eq_append_getElem h1, List.take_succ_eq_append_getElem h2, h, e]

set_option maxHeartbeats 2000000 in
theorem SameRuns_any (w : World) (v u : Value) (l m : List (Int × Int)) (hv : Rn w v l) (hu : Rn w u m) :
    Calls Try.prog 10 #[v, u] w fun e w' => e = .returned (.bool (decide (l = m))) ∧ w.grownBy w' none := by
  have HV := hide hv
  have HU := hide hu
  obtain ⟨ao, cap, rfl, h1, h2, _, _⟩ := hv
  obtain ⟨bo, dap, rfl, k1, k2, _, _⟩ := hu
  by_cases hlen : l.length = m.length
  · obtain ⟨n, hn⟩ : ∃ n, n = l.length := ⟨_, rfl⟩
    have hnm : n = m.length := hn.trans hlen
    rw [← hn] at h1 HV ⊢
    rw [← hnm] at k1 HU ⊢
    have hni : (n : Int) ≤ 9223372036854775807 := by omega
    have Hn := hide hn
    have Hm := hide hnm
    clear hn hnm hlen
    go_enter Try.func10, Try.ntmps10
    go_wp2
    go_loopw [5] (fun i wr => ∃ k : Nat, i = .int .i64 (k : Int) ∧ k ≤ n ∧ Hid (l.take k = m.take k) ∧ w.grownBy wr none) (fun i _ => n - (intOf i).toNat)
    case atStart => exact ⟨0, rfl, by omega, hide (by simp), World.grownBy.refl _ _⟩
    case round =>
      obtain ⟨k, rfl, hk, HT, hg⟩ := hrel
      by_cases hlt : k < n
      · have hlt' : (k : Int) < (n : Int) := by omega
        have hkl : k < l.length := by rw [← unhide Hn]; exact hlt
        have hkm : k < m.length := by rw [← unhide Hm]; exact hlt
        obtain ⟨pb, off, hao, hpb, hc⟩ : ∃ pb off, ao = some ⟨pb, off, none⟩ ∧ pb < wr.heap.size ∧ ∀ i, (h : i < l.length) → wr.cell? ⟨pb, off + i * 2, none⟩ = some (.int .i64 l[i].1) ∧ wr.cell? ⟨pb, off + i * 2 + 1, none⟩ = some (.int .i64 l[i].2) := by
          obtain ⟨ao', cap', e, _, _, _, h4⟩ := (unhide HV).kept hg
          cases e
          exact h4 (by omega)
        obtain ⟨qb, qff, hbo, hqb, hd⟩ : ∃ pb off, bo = some ⟨pb, off, none⟩ ∧ pb < wr.heap.size ∧ ∀ i, (h : i < m.length) → wr.cell? ⟨pb, off + i * 2, none⟩ = some (.int .i64 m[i].1) ∧ wr.cell? ⟨pb, off + i * 2 + 1, none⟩ = some (.int .i64 m[i].2) := by
          obtain ⟨ao', cap', e, _, _, _, h4⟩ := (unhide HU).kept hg
          cases e
          exact h4 (by omega)
        subst hao hbo
        obtain ⟨c0, c1⟩ := hc k hkl
        obtain ⟨d0, d1⟩ := hd k hkm
        obtain ⟨x, hx⟩ : ∃ x, x = l[k] := ⟨_, rfl⟩
        obtain ⟨y, hy⟩ : ∃ y, y = m[k] := ⟨_, rfl⟩
        rw [← hx] at c0 c1
        rw [← hy] at d0 d1
        have HX := hide hx
        have HY := hide hy
        obtain ⟨x1, x2⟩ := x
        obtain ⟨y1, y2⟩ := y
        simp only at c0 c1 d0 d1
        have HG := hide hg
        clear hc hd hx hy hg
        by_cases he : x1 = y1 ∧ x2 = y2
        · obtain ⟨rfl, rfl⟩ := he
          have HT2 : Hid (l.take (k + 1) = m.take (k + 1)) := hide (take_eq_step l m k hkl hkm (unhide HT) ((unhide HX).symm.trans (unhide HY)))
          go_wp2_with fail
          go_quiet (fail)
          go_wp2
          go_roundw
          case rel => exact ⟨k + 1, rfl, by omega, HT2, grown_drewN (unhide HG) _⟩
          case measure => simp [intOf]; omega
        · have HF : Hid (decide (l = m) = false) := hide (decide_eq_false (fun e => by
            subst e
            have := (unhide HX).trans (unhide HY).symm
            simp only [Prod.mk.injEq] at this
            exact he this))
          by_cases h1' : x1 = y1
          · have h2' : ¬ x2 = y2 := fun e => he ⟨h1', e⟩
            have b1 : (x1 == y1) = true := beq_iff_eq.2 h1'
            have b2 : (x2 == y2) = false := beq_eq_false_iff_ne.2 h2'
            clear he
            go_wp2_with fail
            go_quiet (fail)
            go_wp2
            go_ret
            rw [unhide HF]
            exact ⟨rfl, grown_drewN (unhide HG) _⟩
          · have b1 : (x1 == y1) = false := beq_eq_false_iff_ne.2 h1'
            clear he
            go_wp2_with fail
            go_quiet (fail)
            go_wp2
            go_ret
            rw [unhide HF]
            exact ⟨rfl, grown_drewN (unhide HG) _⟩
      · have hlt' : ¬ (k : Int) < (n : Int) := by omega
        have HF : Hid (decide (l = m) = true) := hide (decide_eq_true (by
          have := unhide HT
          rw [List.take_of_length_le (by have := unhide Hn; omega), List.take_of_length_le (by have := unhide Hm; omega)] at this
          exact this))
        have HG := hide hg
        clear hg
        go_wp2
        go_ret
        rw [unhide HF]
        exact ⟨rfl, unhide HG⟩
  · have hli : (l.length : Int) ≠ (m.length : Int) := by omega
    have HF : Hid (decide (l = m) = false) := hide (decide_eq_false (fun e => hlen (by rw [e])))
    clear hlen
    go_enter Try.func10, Try.ntmps10
    go_wp2
    go_ret
    rw [unhide HF]
    exact ⟨rfl, World.grownBy.refl _ _⟩
end Go.Proofs.Ytmnmciajldoabaa
