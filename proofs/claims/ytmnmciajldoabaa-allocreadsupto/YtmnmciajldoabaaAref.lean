/-
  DERIVED. The document's map in memory: two slices of bools. may, Free, All.
-/
import Derived.Test.YtmnmciajldoabaaAwhole
namespace Go.Proofs.Ytmnmciajldoabaa
open Go.RowKit
set_option linter.unusedVariables false

def bvl (f : Nat → Bool) (B : Nat) : List Value := (List.range B).map fun j => Value.bool (f j)
theorem bvl_len (f : Nat → Bool) (B : Nat) : (bvl f B).length = B := by simp [bvl]
theorem bvl_at (f : Nat → Bool) {B j : Nat} (h : j < B) : (bvl f B)[j]? = some (Value.bool (f j)) := by simp [bvl, h]
/-- A slice of bools of one's own. -/
def BOwn (w : World) (base : Nat) (v : Value) (f : Nat → Bool) (B : Nat) : Prop := w.ownsRow base 4 1 v B (bvl f B)
theorem BOwn.kept {W W' : World} {base B : Nat} {v : Value} {f : Nat → Bool} {row : Option Nat} (h : BOwn W base v f B) (hg : W.grownBy W' row) (hne : ∀ q, v.ownBlock = some q → some q ≠ row) : BOwn W' base v f B := by
  obtain ⟨h1, h2⟩ := h
  refine ⟨h1, ?_⟩
  rcases h2 with h2 | ⟨g, cap, cur, rfl, hb, hgb, r⟩
  · exact .inl h2
  · exact .inr ⟨g, cap, cur, rfl, hb, (hg.block g (lt_of_block hgb) (hne g rfl)).trans hgb, r⟩
theorem BOwn.form {w : World} {base B : Nat} {v : Value} {f : Nat → Bool} (h : BOwn w base v f B) : ∃ ao cap, v = .slice ao B cap ∧ B ≤ cap ∧ cap ≤ 9223372036854775807 ∧ (B ≠ 0 → ∃ g, ao = some ⟨g, 0, none⟩ ∧ base ≤ g ∧ g < w.heap.size ∧ (∀ i, w.frozen? ⟨g, i, none⟩ = false) ∧ ∀ i, i < B → w.cell? ⟨g, i, none⟩ = some (.bool (f i))) := by
  rcases h.2 with ⟨rfl, h0⟩ | ⟨g, cap, cur, rfl, hb, hg, hn, hm, hs, ht⟩
  · exact ⟨none, 0, by rw [h0], by omega, by omega, fun h => absurd h0 h⟩
  · refine ⟨some ⟨g, 0, none⟩, cap, rfl, hn, by unfold maxLen at hm; omega, fun _ => ⟨g, rfl, hb, lt_of_block hg, fun i => by simp [World.frozen?, hg], fun i hi => ?_⟩⟩
    have e : (cur.toList.take (B * 1))[i]? = (bvl f B)[i]? := by rw [ht]
    rw [List.getElem?_take_of_lt (by omega), bvl_at f hi] at e
    rw [cell_of_row _ _ _ _ _ _ hg]
    simpa using e

/-- The document's map at block b: B blocks, U in use, V at the last Commit. -/
structure RmAt (w : World) (N b B : Nat) (v1 v2 : Value) (U V : Nat → Bool) : Prop where
  blk : w.heap[b]? = some (.cells #[v1, v2] 55 (0, 0))
  now : BOwn w N v1 U B
  last : BOwn w N v2 V B
  le : B ≤ 512
  base : N ≤ b
  apart : ∀ q, v1.ownBlock = some q → v2.ownBlock ≠ some q
theorem RmAt.lt {w : World} {N b B : Nat} {v1 v2 : Value} {U V : Nat → Bool} (h : RmAt w N b B v1 v2 U V) : b < w.heap.size := lt_of_block h.blk
theorem RmAt.c0 {w : World} {N b B : Nat} {v1 v2 : Value} {U V : Nat → Bool} (h : RmAt w N b B v1 v2 U V) : w.cell? ⟨b, 0, none⟩ = some v1 := (cell_of_row _ _ _ _ _ _ h.blk).trans rfl
theorem RmAt.c1 {w : World} {N b B : Nat} {v1 v2 : Value} {U V : Nat → Bool} (h : RmAt w N b B v1 v2 U V) : w.cell? ⟨b, 1, none⟩ = some v2 := (cell_of_row _ _ _ _ _ _ h.blk).trans rfl
theorem RmAt.grown {w w' : World} {N b B : Nat} {v1 v2 : Value} {U V : Nat → Bool} (h : RmAt w N b B v1 v2 U V) (hg : w.grownBy w' none) : RmAt w' N b B v1 v2 U V := ⟨(hg.block b h.lt (by simp)).trans h.blk, h.now.kept hg (fun _ _ e => by cases e), h.last.kept hg (fun _ _ e => by cases e), h.le, h.base, h.apart⟩

theorem rmay_any (w : World) (N b B n : Nat) (v1 v2 : Value) (U V : Nat → Bool) (h : RmAt w N b B v1 v2 U V) (hn : n < B) :
    Calls Try.prog 27 #[.pointer (some ⟨b, 0, none⟩), .int .i64 (n : Int)] w fun e w' => e = .returned (.bool (may U V n)) ∧ w' = w := by
  have c0 := h.c0
  have c1 := h.c1
  obtain ⟨o1, p1, rfl, h1, h2, h4⟩ := h.now.form
  obtain ⟨o2, p2, rfl, k1, k2, k4⟩ := h.last.form
  obtain ⟨g1, rfl, _, _, _, d1⟩ := h4 (by omega)
  obtain ⟨g2, rfl, _, _, _, d2⟩ := k4 (by omega)
  have e1 := d1 n hn
  have e2 := d2 n hn
  have hle := h.le
  have hni : (n : Int) < (B : Int) := by omega
  clear h h4 k4 d1 d2
  unfold may
  cases hU : U n with
  | true =>
    rw [hU] at e1
    clear hU
    go_enter Try.func27, Try.ntmps27
    go_wp2
    go_ret
    exact ⟨rfl, rfl⟩
  | false =>
    rw [hU] at e1
    clear hU
    go_enter Try.func27, Try.ntmps27
    go_wp2
    go_ret
    exact ⟨by simp, rfl⟩

theorem filter_range_succ (f : Nat → Bool) (k : Nat) : (List.range' 0 (k + 1)).filter f = (List.range' 0 k).filter f ++ (if f k = true then [k] else []) := by
  rw [List.range'_concat, List.filter_append]
  simp only [Nat.zero_add, Nat.one_mul]
  cases h : f k <;> simp [h]
theorem filter_len_le (f : Nat → Bool) (k : Nat) : ((List.range' 0 k).filter f).length ≤ k := by
  have := List.length_filter_le f (List.range' 0 k)
  simpa using this

set_option maxHeartbeats 2000000 in
theorem rAll_any (w : World) (N b B : Nat) (v1 v2 : Value) (U V : Nat → Bool) (h : RmAt w N b B v1 v2 U V) :
    Calls Try.prog 30 #[.pointer (some ⟨b, 0, none⟩)] w fun e w' => ∃ u, e = .returned u ∧ ROwn w' w.heap.size u (runsOf B U V) ∧ w.grownBy w' none := by
  have HM := hide h
  have hle := h.le
  have hBI : (B : Int) ≤ 512 := by omega
  obtain ⟨o1, p1, hv1, q1, q2, _⟩ := h.now.form
  subst hv1
  clear h
  go_enter Try.func30, Try.ntmps30
  go_wp2
  go_loopw [3, 4] (fun a i wr => ∃ k : Nat, i = .int .i64 (k : Int) ∧ k ≤ B ∧ NOwn wr w.heap.size a ((List.range' 0 k).filter (may U V)) ∧ w.grownBy wr none) (fun _ i _ => B - (intOf i).toNat)
  case atStart => exact ⟨0, rfl, by omega, by simpa using NOwn.nil w w.heap.size, World.grownBy.refl _ _⟩
  case round =>
    obtain ⟨k, rfl, hk, hN, hG⟩ := hrel
    have HN := hide hN
    have HG := hide hG
    have M2 := hide ((unhide HM).grown hG)
    have c0 := (unhide M2).c0
    clear hN hG
    have HFs := hide (filter_range_succ (may U V) k)
    by_cases hlt : k < B
    · have hlt' : (k : Int) < (B : Int) := by omega
      go_wp2_with fail
      refine (rmay_any wr N b B k _ v2 U V (unhide M2) hlt).mono ?_
      rintro e wr' ⟨rfl, rfl⟩
      cases hm : may U V k with
      | true =>
        rw [hm, if_pos rfl] at HFs
        have hll : ((List.range' 0 k).filter (may U V)).length ≤ 65536 := by have := filter_len_le (may U V) k; omega
        clear hm
        go_wp2_with (at_builtin; refine wpList_append_int rfl (.tmp 19) (.tmp 21) rfl w.heap.size _ ((List.range' 0 k).filter (may U V)) rfl ?ho ?hb hll ⟨_, 0, none⟩ 1 k rfl ?hc ?_)
        case ho => exact (unhide HN).grown (World.grownBy_alloc _ _ _)
        case hb => have := (unhide HG).size; simp; omega
        case hc => exact (cell_of_row _ _ _ _ _ _ (heap_alloc_new _ _)).trans rfl
        intro v5 w5 o5 g5
        have N5 : Hid (NOwn w5 w.heap.size v5 ((List.range' 0 (k + 1)).filter (may U V))) := hide (by rw [unhide HFs]; exact o5)
        have G5 : Hid (w.grownBy w5 none) := hide (((unhide HG).trans (World.grownBy_alloc _ _ _)).andThen g5 (fun z e => .inl ((unhide HN).row e).1))
        clear o5 g5 HN HG M2 c0
        go_wp2
        go_roundw
        case rel => exact ⟨k + 1, rfl, by omega, unhide N5, unhide G5⟩
        case measure => simp [intOf]; omega
      | false =>
        rw [hm, if_neg (by simp), List.append_nil] at HFs
        have N5 : Hid (NOwn wr' w.heap.size u3 ((List.range' 0 (k + 1)).filter (may U V))) := hide (by rw [unhide HFs]; exact unhide HN)
        clear hm
        go_wp2
        go_roundw
        case rel => exact ⟨k + 1, rfl, by omega, unhide N5, unhide HG⟩
        case measure => simp [intOf]; omega
    · have hlt' : ¬ (k : Int) < (B : Int) := by omega
      have hkB : k = B := by omega
      have N5 : Hid (NOwn wr w.heap.size u3 ((List.range' 0 B).filter (may U V))) := hide (by rw [← hkB]; exact unhide HN)
      clear hkB HN
      go_wp2_with fail
      refine (Whole_any wr u3 _ (unhide N5).nr (fun x hx => by
        have h1 := (List.mem_filter.1 hx).1
        rw [List.mem_range'] at h1
        obtain ⟨i, hi, rfl⟩ := h1
        omega) (by have := filter_len_le (may U V) B; omega)).mono ?_
      rintro e w6 ⟨u6, rfl, o6, g6⟩
      rw [canon_free] at o6
      have O6 : Hid (ROwn w6 w.heap.size u6 (runsOf B U V)) := hide (by
        obtain ⟨h1, h2⟩ := o6
        refine ⟨h1, ?_⟩
        have hsz := (unhide HG).size
        rcases h2 with h2 | ⟨g, cap, cur, a, b', c⟩
        · exact .inl h2
        · exact .inr ⟨g, cap, cur, a, by omega, c⟩)
      have G6 : Hid (w.grownBy w6 none) := hide ((unhide HG).trans g6)
      clear o6 g6 HG M2 c0
      go_wp2
      go_ret
      exact ⟨_, rfl, unhide O6, unhide G6⟩
end Go.Proofs.Ytmnmciajldoabaa
