/-
  DERIVED. runAt, use.
-/
import Derived.Test.YtmnmciajldoabaaAfun
namespace Go.Proofs.Ytmnmciajldoabaa
open Go.RowKit
set_option linter.unusedVariables false

theorem runL_yes {f : Nat → Bool} {k n : Nat} (hk : 0 < k) (h : f n = true) : runL f k n = runL f (k - 1) (n + 1) + 1 := by
  cases k with
  | zero => omega
  | succ k => simp [runL, h]
theorem runL_no {f : Nat → Bool} {k n : Nat} (h : k = 0 ∨ f n = false) : runL f k n = 0 := by
  cases k with
  | zero => rfl
  | succ k => rcases h with h | h
              · omega
              · simp [runL, h]

theorem infoRun : (Try.prog.info? 36).map (·.size) = some 2 := by kernel_rfl
def rv (x : Nat × Nat) : Value := .agg #[.int .i64 (x.1 : Int), .int .i64 (x.2 : Int)]

set_option maxHeartbeats 1000000 in
set_option maxRecDepth 20000 in
theorem runAt_any (w : World) (b B n : Nat) (U V : Nat → Bool) (h : MapAt w b B U V) (hn : n ≤ B) :
    Calls Try.prog 41 #[.pointer (some ⟨b, 0, none⟩), .int .i64 (n : Int)] w fun e w' => e = .returned (rv (n, runL (may U V) (B - n) n)) ∧ w.grownBy w' none := by
  have hB := h.le
  go_enter Try.func41, Try.ntmps41
  go_wp2
  go_loopw [5] (fun i wr => ∃ j : Nat, i = .int .i64 (j : Int) ∧ n ≤ j ∧ j ≤ B ∧ Hid (runL (may U V) (B - n) n = (j - n) + runL (may U V) (B - j) j) ∧ wr = w.alloc (.cells #[.int .i64 0, .int .i64 0] 36)) (fun i _ => B - (intOf i).toNat)
  case atStart => exact ⟨n, rfl, by omega, by omega, hide (by simp), rfl⟩
  case round =>
    obtain ⟨j, rfl, hnj, hk, HL, rfl⟩ := hrel
    have h' := h.alloc (.cells #[.int .i64 0, .int .i64 0] 36)
    have c0 := h'.num
    have hj512 : (j : Int) ≤ 512 := by omega
    have hn512 : (n : Int) ≤ (j : Int) := by omega
    have hc : (w.alloc (.cells #[.int .i64 0, .int .i64 0] 36)).cell? ⟨w.heap.size, 0, none⟩ = some (.int .i64 0) := by rw [cell_of_row _ _ _ _ _ _ (heap_alloc_new _ _)]; rfl
    have hc1 : (w.alloc (.cells #[.int .i64 0, .int .i64 0] 36)).cell? ⟨w.heap.size, 1, none⟩ = some (.int .i64 0) := by rw [cell_of_row _ _ _ _ _ _ (heap_alloc_new _ _)]; rfl
    have HEnd : Hid (∀ (e : Ending) (w' : World), e = .returned (rv (n, j - n)) ∧ w.grownBy w' none → runL (may U V) (B - j) j = 0 → e = .returned (rv (n, runL (may U V) (B - n) n)) ∧ w.grownBy w' none) := hide (fun e w' h0 h1 => by rw [unhide HL, h1]; exact h0)
    by_cases hlt : j < B
    · have hlt' : (j : Int) < (B : Int) := by omega
      have cU := h'.used (n := j) (by omega)
      have cV := h'.was (n := j) (by omega)
      have hj5 : (j : Int) < 512 := by omega
      cases hU : U j with
      | true =>
        rw [hU] at cU
        clear HL h' h
        go_wp2
        refine bodyPost_ret (results_cell_row rfl _ _ w.heap.size 36 #[.int .i64 (n : Int), .int .i64 ((j : Int) - (n : Int))] (0, 0) _ rfl (heap_alloc_new _ _) Try.underlying36 rfl infoRun) rfl (unhide HEnd _ _ ⟨by rw [rv, Int.ofNat_sub hnj], World.grownBy_alloc _ _ _⟩ (runL_no (.inr (by simp [may, hU]))))
      | false =>
        rw [hU] at cU
        cases hV : V j with
        | true =>
          rw [hV] at cV
          clear HL h' h
          go_wp2
          refine bodyPost_ret (results_cell_row rfl _ _ w.heap.size 36 #[.int .i64 (n : Int), .int .i64 ((j : Int) - (n : Int))] (0, 0) _ rfl (heap_alloc_new _ _) Try.underlying36 rfl infoRun) rfl (unhide HEnd _ _ ⟨by rw [rv, Int.ofNat_sub hnj], World.grownBy_alloc _ _ _⟩ (runL_no (.inr (by simp [may, hV]))))
        | false =>
          rw [hV] at cV
          have HL2 : Hid (runL (may U V) (B - n) n = (j + 1 - n) + runL (may U V) (B - (j + 1)) (j + 1)) := hide (by
            rw [unhide HL, runL_yes (by omega) (by simp [may, hU, hV]), show B - j - 1 = B - (j + 1) by omega]
            omega)
          clear HL h' h
          go_wp2
          go_roundw
          case rel => exact ⟨j + 1, rfl, by omega, by omega, HL2, trivial⟩
          case measure => simp [intOf]; omega
    · have hlt' : ¬ (j : Int) < (B : Int) := by omega
      clear HL h' h
      go_wp2
      refine bodyPost_ret (results_cell_row rfl _ _ w.heap.size 36 #[.int .i64 (n : Int), .int .i64 ((j : Int) - (n : Int))] (0, 0) _ rfl (heap_alloc_new _ _) Try.underlying36 rfl infoRun) rfl (unhide HEnd _ _ ⟨by rw [rv, Int.ofNat_sub hnj], World.grownBy_alloc _ _ _⟩ (runL_no (.inl (by omega))))

theorem mark_nil (U : Nat → Bool) (x : Nat) : mark U (x, 0) = U := by
  funext j
  simp only [mark]
  have : (decide (x ≤ j) && decide (j < x + 0)) = false := by
    simp only [Bool.and_eq_false_iff, decide_eq_false_iff_not]; omega
  rw [this, Bool.or_false]
theorem mark_step (U : Nat → Bool) (x k : Nat) : (fun j => if j = x + k then true else mark U (x, k) j) = mark U (x, k + 1) := by
  funext j
  simp only [mark]
  by_cases e : j = x + k
  · subst e
    simp
  · rw [if_neg e]
    congr 1
    have : (decide (j < x + (k + 1))) = decide (j < x + k) := decide_eq_decide.2 (by omega)
    rw [this]

set_option maxHeartbeats 1000000 in
set_option maxRecDepth 20000 in
theorem use_any (w : World) (b B : Nat) (x : Nat × Nat) (U V : Nat → Bool) (h : MapAt w b B U V) (hx : x.1 + x.2 ≤ 512) :
    Calls Try.prog 25 #[.pointer (some ⟨b, 0, none⟩), rv x] w fun e w' => (∃ v, e = .returned v) ∧ MapAt w' b B (mark U x) V ∧ w.grownBy w' (some b) := by
  obtain ⟨x, l⟩ := x
  simp only at hx
  unfold rv
  simp only
  have hb := h.lt
  go_enter Try.func25, Try.ntmps25
  go_wp2
  go_loopw [4] (fun i wr => ∃ k : Nat, i = .int .i64 ((x + k : Nat) : Int) ∧ k ≤ l ∧ MapAt wr b B (mark U (x, k)) V ∧ w.grownBy wr (some b) ∧ wr.cell? ⟨w.heap.size, 0, none⟩ = some (.int .i64 (x : Int)) ∧ wr.cell? ⟨w.heap.size, 1, none⟩ = some (.int .i64 (l : Int))) (fun i _ => x + l - (intOf i).toNat)
  case atStart => exact ⟨0, rfl, by omega, by rw [mark_nil]; exact h.alloc _, World.grownBy_alloc _ _ _, by rw [cell_of_row _ _ _ _ _ _ (heap_alloc_new _ _)]; rfl, by rw [cell_of_row _ _ _ _ _ _ (heap_alloc_new _ _)]; rfl⟩
  case round =>
    obtain ⟨k, rfl, hk, hm, hg, c0, c1⟩ := hrel
    obtain ⟨j, hj⟩ : ∃ j, j = x + k := ⟨_, rfl⟩
    rw [← hj]
    have hxi : (x : Int) + (l : Int) ≤ 512 := by omega
    have hj0 : (j : Int) ≤ 512 := by omega
    by_cases hlt : k < l
    · have hlt' : (j : Int) < (x : Int) + (l : Int) := by omega
      have hj5 : (j : Int) < 512 := by omega
      have cU := hm.used (n := j) (by omega)
      have cf := hm.frozen (1 + j)
      have HM : Hid (MapAt (wr.setCell ⟨b, 1 + j, none⟩ (.bool true)) b B (mark U (x, k + 1)) V) := hide (by
        have := hm.set j (by omega) true
        rw [hj, mark_step] at this
        rw [hj]; exact this)
      have hne : b ≠ w.heap.size := by omega
      have HG : Hid (w.grownBy (wr.setCell ⟨b, 1 + j, none⟩ (.bool true)) (some b)) := hide (hg.trans (setCell_grown wr b (1 + j) _))
      have d0 : Hid ((wr.setCell ⟨b, 1 + j, none⟩ (.bool true)).cell? ⟨w.heap.size, 0, none⟩ = some (.int .i64 (x : Int))) := hide (by rw [World.cell?_setCell_other _ _ _ _ (fun e => hne (congrArg Addr.block e))]; exact c0)
      have d1 : Hid ((wr.setCell ⟨b, 1 + j, none⟩ (.bool true)).cell? ⟨w.heap.size, 1, none⟩ = some (.int .i64 (l : Int))) := hide (by rw [World.cell?_setCell_other _ _ _ _ (fun e => hne (congrArg Addr.block e))]; exact c1)
      have HJ := hide hj
      clear hj hm hg h
      go_wp2
      go_roundw
      case rel => exact ⟨k + 1, by rw [unhide HJ]; rfl, by omega, unhide HM, unhide HG, unhide d0, unhide d1⟩
      case measure => simp [intOf]; omega
    · have hlt' : ¬ (j : Int) < (x : Int) + (l : Int) := by omega
      obtain rfl : k = l := by omega
      have HM := hide hm
      have HG := hide hg
      clear hj hm hg h
      go_wp2
      go_end0
      exact ⟨⟨_, rfl⟩, unhide HM, unhide HG⟩
end Go.Proofs.Ytmnmciajldoabaa
