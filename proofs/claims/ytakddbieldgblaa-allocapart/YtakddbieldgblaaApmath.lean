/-
  DERIVED. The plain mathematics of AllocApart: what is free behind Take, and at last.
-/
import Derived.Test.YtakddbieldgblaaAmath
namespace Go.Proofs.Ytakddbieldgblaa
set_option linter.unusedVariables false

theorem free_sorted (B : Nat) (U V : Nat → Bool) : (blocks (runsOf B U V)).Pairwise (· < ·) := by
  rw [runsOf, blocks_runsF]
  exact List.Pairwise.filter _ (List.pairwise_lt_range')

theorem filter_notTake : ∀ (F : List Nat) (n : Nat), F.Pairwise (· < ·) → F.filter (fun j => !decide (j ∈ F.take n)) = F.drop n
  | [], n, _ => by simp
  | x :: F, 0, h => by
    simp only [List.take_zero, List.drop_zero]
    exact List.filter_eq_self.2 (by simp)
  | x :: F, n + 1, h => by
    obtain ⟨h1, h2⟩ := List.pairwise_cons.1 h
    simp only [List.take_succ_cons, List.drop_succ_cons]
    rw [List.filter_cons]
    rw [if_neg (by simp)]
    rw [← filter_notTake F n h2]
    apply List.filter_congr
    intro j hj
    have : j ≠ x := fun e => by have := h1 j hj; omega
    simp [this]

theorem may_marks (U V : Nat → Bool) (rs : List (Nat × Nat)) (j : Nat) : may (marks U rs) V j = (may U V j && !decide (j ∈ blocks rs)) := by
  simp only [may, marks_eq]
  cases U j <;> cases V j <;> simp

/-- Behind Take so many fewer are free. -/
theorem free_behind (B n : Nat) (U V : Nat → Bool) (hn : n ≤ total (runsOf B U V)) : total (runsOf B (marks U (cut n (runsOf B U V))) V) = total (runsOf B U V) - n := by
  have hs := free_sorted B U V
  have e : blocks (runsOf B (marks U (cut n (runsOf B U V))) V) = (blocks (runsOf B U V)).drop n := by
    rw [← filter_notTake _ n hs, runsOf, blocks_runsF]
    have : ∀ rs, (List.range' 0 B).filter (may (marks U rs) V) = ((List.range' 0 B).filter (may U V)).filter (fun j => !decide (j ∈ blocks rs)) := fun rs => by
      rw [List.filter_filter]
      apply List.filter_congr
      intro j _
      rw [may_marks, Bool.and_comm]
    rw [this, blocks_cut, runsOf, blocks_runsF]
  rw [total_blocks, e, List.length_drop, ← total_blocks]

theorem filter_two (U : Nat → Bool) : ∀ l : List Nat, (l.filter U).length + (l.filter fun x => !U x).length = l.length
  | [] => rfl
  | x :: l => by
    have := filter_two U l
    cases h : U x <;> simp [h] <;> omega

/-- Where nothing was done since the last Commit all that is not in use is free. -/
theorem free_last (B : Nat) (U : Nat → Bool) : total (runsOf B U U) + ((List.range B).filter U).length = B := by
  rw [total_blocks, runsOf, blocks_runsF, ← List.range_eq_range']
  have h := filter_two U (List.range B)
  rw [List.length_range] at h
  have e : (List.range B).filter (may U U) = (List.range B).filter (fun x => !U x) := List.filter_congr (fun j _ => by simp [may])
  rw [e]
  omega

theorem runs_rise {xs : List (Nat × Nat)} (hp : ∀ x ∈ xs, 1 ≤ x.2) (h : (blocks xs).Pairwise (· < ·)) : xs.Pairwise fun x y => x.1 + x.2 ≤ y.1 := by
  induction xs with
  | nil => exact .nil
  | cons x xs ih =>
    have e : blocks (x :: xs) = List.range' x.1 x.2 ++ blocks xs := by simp [blocks]
    rw [e, List.pairwise_append] at h
    refine List.Pairwise.cons (fun y hy => ?_) (ih (fun z hz => hp z (List.mem_cons_of_mem _ hz)) h.2.1)
    have h1 := hp x (List.mem_cons_self ..)
    have h2 := hp y (List.mem_cons_of_mem _ hy)
    have := h.2.2 (x.1 + x.2 - 1) (List.mem_range'_1.2 (by omega)) y.1 (mem_blocks.2 ⟨y, hy, by omega, by omega⟩)
    omega

/-- What is taken was free, and was not taken yet. -/
theorem taken_free (B n : Nat) (U V : Nat → Bool) (k : Nat) (hk : k < (cut n (runsOf B U V)).length) (t : Nat) (ht : t < (cut n (runsOf B U V))[k].2) :
    (cut n (runsOf B U V))[k].1 + t < B ∧ V ((cut n (runsOf B U V))[k].1 + t) = false ∧ mark (marks U ((cut n (runsOf B U V)).take k)) ((cut n (runsOf B U V))[k].1, t) ((cut n (runsOf B U V))[k].1 + t) = false := by
  obtain ⟨rs, hrs⟩ : ∃ rs, rs = cut n (runsOf B U V) := ⟨_, rfl⟩
  have hb : blocks rs = (blocks (runsOf B U V)).take n := by rw [hrs, blocks_cut]
  have hpos : ∀ x ∈ rs, 1 ≤ x.2 := by rw [hrs]; exact cut_pos _ _ (fun y hy => runsF_pos _ _ _ y hy)
  have hsr : (blocks rs).Pairwise (· < ·) := by rw [hb]; exact (free_sorted B U V).sublist (List.take_sublist _ _)
  have hri := runs_rise hpos hsr
  simp only [← hrs] at hk ht ⊢
  have hj : rs[k].1 + t ∈ blocks rs := mem_blocks.2 ⟨rs[k], List.getElem_mem hk, by omega, by omega⟩
  have hF : rs[k].1 + t ∈ blocks (runsOf B U V) := by rw [hb] at hj; exact List.mem_of_mem_take hj
  rw [runsOf, blocks_runsF] at hF
  obtain ⟨h1, h2⟩ := List.mem_filter.1 hF
  have h3 := List.mem_range'_1.1 h1
  simp only [may, Bool.and_eq_true, Bool.not_eq_true'] at h2
  refine ⟨by omega, h2.2, ?_⟩
  have hnb : rs[k].1 + t ∉ blocks (rs.take k) := fun hm => by
    obtain ⟨x, hx, h4, h5⟩ := mem_blocks.1 hm
    obtain ⟨i, hi, rfl⟩ := List.getElem_of_mem hx
    have hik : i < k := by simp at hi; omega
    have hlt : i < rs.length := by omega
    have hge : (rs.take k)[i] = rs[i] := by simp
    rw [hge] at h4 h5
    have := (List.pairwise_iff_getElem.1 hri) i k hlt hk hik
    omega
  simp only [mark, marks_eq, h2.1, hnb, decide_false, Bool.or_false, Bool.false_or, Bool.and_eq_false_iff, decide_eq_false_iff_not]
  omega

/-- A run of one block given back. -/
theorem give_one (B j : Nat) (U : Nat → Bool) (hj : j ≤ B) : giveL B U [((j : Int), 1)] = if j < B ∧ U j = true then some (fun i => if i = j then false else U i) else none := by
  have e : dropR B U ((j : Int), 1) = if j < B ∧ U j = true then some (fun i => if i = j then false else U i) else none := by
    simp only [dropR]
    by_cases h : j < B
    · rw [if_neg (by omega)]
      simp only [Int.toNat_natCast, show (1 : Int).toNat = 1 from rfl, dropGo, h, true_and]
    · rw [if_pos (by omega), if_neg (by omega)]
  simp only [giveL, e]
  split
  · rename_i h
    split at h
    · cases h
    · rename_i h2; rw [if_neg h2]
  · rename_i U' h
    split at h
    · rename_i h2; rw [if_pos h2]; cases h; rfl
    · cases h
end Go.Proofs.Ytakddbieldgblaa
