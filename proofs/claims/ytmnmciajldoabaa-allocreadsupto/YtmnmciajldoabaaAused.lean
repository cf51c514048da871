/-
  DERIVED. The law's used: some of the blocks that are in use, as runs.
-/
import Derived.Test.YtmnmciajldoabaaAref2
namespace Go.Proofs.Ytmnmciajldoabaa
open Go.RowKit
set_option linter.unusedVariables false

def usedF (U : Nat → Bool) (n : Nat) : Nat → Bool := fun k => U k && decide ((k + n) % 3 ≠ 0)
set_option maxRecDepth 20000 in
set_option maxHeartbeats 2000000 in
theorem used_any (w : World) (N b B n : Nat) (v1 v2 : Value) (U V : Nat → Bool) (h : RmAt w N b B v1 v2 U V) (hn : n < 3) :
    Calls Try.prog 11 #[.pointer (some ⟨b, 0, none⟩), .int .i64 (n : Int)] w fun e w' => ∃ u X, e = .returned u ∧ ROwn w' w.heap.size u X ∧ (∀ x ∈ X, x.1 ≤ 512 ∧ x.2 ≤ 512) ∧ w.grownBy w' none := by
  have HM := hide h
  have hle := h.le
  have hBI : (B : Int) ≤ 512 := by omega
  have hnI : (n : Int) ≤ 2 := by omega
  obtain ⟨o1, p1, hv1, q1, q2, _⟩ := h.now.form
  subst hv1
  clear h
  go_enter Try.func11, Try.ntmps11
  go_wp2
  go_loopw [5, 6] (fun a i wr => ∃ k : Nat, i = .int .i64 (k : Int) ∧ k ≤ B ∧ NOwn wr w.heap.size a ((List.range' 0 k).filter (usedF U n)) ∧ w.grownBy wr none) (fun _ i _ => B - (intOf i).toNat)
  case atStart => exact ⟨0, rfl, by omega, by simpa using NOwn.nil w w.heap.size, World.grownBy.refl _ _⟩
  case round =>
    obtain ⟨k, rfl, hk, hN, hG⟩ := hrel
    have HN := hide hN
    have HG := hide hG
    have M2 := hide ((unhide HM).grown hG)
    have c0 := (unhide M2).c0
    clear hN hG
    have HFs := hide (filter_range_succ (usedF U n) k)
    by_cases hlt : k < B
    · have hlt' : (k : Int) < (B : Int) := by omega
      have hidx : (0 : Int) ≤ (k : Int) ∧ (k : Int) < (B : Int) := ⟨by omega, hlt'⟩
      obtain ⟨o', cap', e', _, _, h4⟩ := (unhide M2).now.form
      cases e'
      obtain ⟨g, rfl, _, hgl, _, hcell⟩ := h4 (by omega)
      have ck := hcell k hlt
      clear h4 hcell
      have skip : Hid (usedF U n k = false → NOwn wr w.heap.size u5 ((List.range' 0 (k + 1)).filter (usedF U n))) := hide (fun hf => by rw [unhide HFs, hf]; simpa using unhide HN)
      cases hU : U k with
      | false =>
        rw [hU] at ck
        have hf : usedF U n k = false := by simp [usedF, hU]
        have N5 := hide (unhide skip hf)
        clear hU hf skip
        go_wp2
        go_roundw
        case rel => exact ⟨k + 1, rfl, by omega, unhide N5, unhide HG⟩
        case measure => simp [intOf]; omega
      | true =>
        rw [hU] at ck
        by_cases hz : (k + n) % 3 = 0
        · have hf : usedF U n k = false := by simp [usedF, hz]
          have N5 := hide (unhide skip hf)
          have hzi : ((k : Int) + (n : Int)) % 3 = 0 := by omega
          have hzb : (((k : Int) + (n : Int)) % 3 != 0) = false := by simp [hzi]
          clear hU hf skip hz hzi
          go_wp2
          go_roundw
          case rel => exact ⟨k + 1, rfl, by omega, unhide N5, unhide HG⟩
          case measure => simp [intOf]; omega
        · have hf : usedF U n k = true := by simp [usedF, hU, hz]
          rw [hf, if_pos rfl] at HFs
          have hzi : ¬ ((k : Int) + (n : Int)) % 3 = 0 := by omega
          have hzb : (((k : Int) + (n : Int)) % 3 != 0) = true := by simp [hzi]
          have hll : ((List.range' 0 k).filter (usedF U n)).length ≤ 65536 := by have := filter_len_le (usedF U n) k; omega
          clear hU hf skip hz hzi
          go_wp2_with (at_builtin; refine wpList_append_int rfl (.tmp 30) (.tmp 32) rfl w.heap.size _ ((List.range' 0 k).filter (usedF U n)) rfl ?ho ?hb hll ⟨_, 0, none⟩ 1 k rfl ?hc ?_)
          case ho => exact (unhide HN).grown (World.grownBy_alloc _ _ _)
          case hb => have := (unhide HG).size; simp; omega
          case hc => exact (cell_of_row _ _ _ _ _ _ (heap_alloc_new _ _)).trans rfl
          intro v5 w5 o5 g5
          have N5 : Hid (NOwn w5 w.heap.size v5 ((List.range' 0 (k + 1)).filter (usedF U n))) := hide (by rw [unhide HFs]; exact o5)
          have G5 : Hid (w.grownBy w5 none) := hide (((unhide HG).trans (World.grownBy_alloc _ _ _)).andThen g5 (fun z e => .inl ((unhide HN).row e).1))
          clear o5 g5 HN HG M2 c0 ck
          go_wp2
          go_roundw
          case rel => exact ⟨k + 1, rfl, by omega, unhide N5, unhide G5⟩
          case measure => simp [intOf]; omega
    · have hlt' : ¬ (k : Int) < (B : Int) := by omega
      have hlow : low ((List.range' 0 k).filter (usedF U n)) := fun x hx => by
        have h1 := (List.mem_filter.1 hx).1
        rw [List.mem_range'] at h1
        obtain ⟨i, hi, rfl⟩ := h1
        omega
      have HLow := hide hlow
      clear hlow
      go_wp2_with fail
      refine (Whole_any wr u5 _ (unhide HN).nr (unhide HLow) (by have := filter_len_le (usedF U n) k; omega)).mono ?_
      rintro e w6 ⟨u6, rfl, o6, g6⟩
      have O6 : Hid (ROwn w6 w.heap.size u6 (canon ((List.range' 0 k).filter (usedF U n)))) := hide (by
        obtain ⟨h1, h2⟩ := o6
        refine ⟨h1, ?_⟩
        have hsz := (unhide HG).size
        rcases h2 with h2 | ⟨g, cap, cur, a, b', c⟩
        · exact .inl h2
        · exact .inr ⟨g, cap, cur, a, by omega, c⟩)
      have G6 : Hid (w.grownBy w6 none) := hide ((unhide HG).trans g6)
      clear o6 g6 HG M2 c0
      go_wp2
      go_ret
      exact ⟨_, _, rfl, unhide O6, fun x hx => by have := low_canon (unhide HLow) x hx; omega, unhide G6⟩
end Go.Proofs.Ytmnmciajldoabaa
