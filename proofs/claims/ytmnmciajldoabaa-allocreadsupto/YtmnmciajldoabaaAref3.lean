/-
  DERIVED. The document's map: Take.
-/
import Derived.Test.YtmnmciajldoabaaAref2
namespace Go.Proofs.Ytmnmciajldoabaa
open Go.RowKit
set_option linter.unusedVariables false

theorem norm_cut : ∀ (X : List (Nat × Nat)) (n : Nat), Norm X → Norm (cut n X)
  | [], n, _ => trivial
  | [x], n, h => by
    simp only [cut]
    split
    · trivial
    · have : 0 < x.2 := h
      show 0 < min x.2 n
      omega
  | x :: y :: r, n, h => by
    have h0 := h.head
    have ih := norm_cut (y :: r) (n - min x.2 n) h.tail
    have h2 := h.2.1
    rw [cut]
    split
    · trivial
    · by_cases hc : n - min x.2 n = 0
      · rw [hc, cut_zero]
        show 0 < min x.2 n
        omega
      · rw [cut, if_neg hc] at ih ⊢
        refine ⟨by show 0 < min x.2 n; omega, ?_, ih⟩
        simp only
        omega
theorem canon_taken (B n : Nat) (U V : Nat → Bool) : canon (((List.range' 0 B).filter (may U V)).take n) = cut n (runsOf B U V) := by
  refine canon_of (norm_cut _ _ ?_) ?_
  · rw [runsOf]
    exact norm_runsF _ _ _
  · rw [← blocks_bks, blocks_cut, runsOf, blocks_runsF]
theorem taken_eq (f : Nat → Bool) {k B n : Nat} (hk : k ≤ B) (hn : ((List.range' 0 k).filter f).length ≤ n) (h : k = B ∨ ((List.range' 0 k).filter f).length = n) : ((List.range' 0 B).filter f).take n = (List.range' 0 k).filter f := by
  rcases h with rfl | h
  · exact List.take_of_length_le hn
  · have e : List.range' 0 B = List.range' 0 k ++ List.range' (0 + k) (B - k) := by
      rw [List.range'_append_1]
      congr 1
      omega
    rw [e, List.filter_append, ← h, List.take_left']
    rfl
def tkU (U V : Nat → Bool) (k : Nat) : Nat → Bool := fun j => U j || decide (j ∈ (List.range' 0 k).filter (may U V))
theorem marks_taken (U V : Nat → Bool) {k B n : Nat} (h : ((List.range' 0 B).filter (may U V)).take n = (List.range' 0 k).filter (may U V)) : tkU U V k = marks U (cut n (runsOf B U V)) := by
  funext j
  unfold tkU
  rw [marks_eq, blocks_cut, runsOf, blocks_runsF, h]

theorem BOwn.set {w : World} {base g B cap : Nat} {f : Nat → Bool} (h : BOwn w base (.slice (some ⟨g, 0, none⟩) B cap) f B) (k : Nat) (x : Bool) : BOwn (w.setCell ⟨g, k, none⟩ (.bool x)) base (.slice (some ⟨g, 0, none⟩) B cap) (fun j => if j = k then x else f j) B := by
  obtain ⟨h1, h2⟩ := h
  refine ⟨by simp [bvl], ?_⟩
  rcases h2 with ⟨e, _⟩ | ⟨g', cap', cur, e, hb, hg, hn, hm, hs, ht⟩
  · cases e
  · cases e
    refine .inr ⟨g, cap, _, rfl, hb, heap_setCell_same w g k _ _ _ hg, hn, hm, by simp [hs], ?_⟩
    rw [Array.toList_setIfInBounds, List.take_set, ht]
    apply List.ext_getElem
    · simp [bvl]
    · intro i h1 h2
      by_cases e : i = k
      · subst e; simp [bvl]
      · rw [List.getElem_set_ne (fun h => e h.symm)]
        simp [bvl, e]
theorem RmAt.setNow {w : World} {N b B g cap : Nat} {v2 : Value} {U V : Nat → Bool} (h : RmAt w N b B (.slice (some ⟨g, 0, none⟩) B cap) v2 U V) (k : Nat) (x : Bool) :
    RmAt (w.setCell ⟨g, k, none⟩ (.bool x)) N b B (.slice (some ⟨g, 0, none⟩) B cap) v2 (fun j => if j = k then x else U j) V := by
  have hg := setCell_grown w g k (.bool x)
  have hgb : b ≠ g := by
    rintro rfl
    obtain ⟨_, cur, hc⟩ := h.now.row (q := b) rfl
    rw [h.blk] at hc
    cases hc
  exact ⟨(hg.block b h.lt (fun e => hgb (Option.some.inj e))).trans h.blk, h.now.set k x, h.last.kept hg (fun q hq e => by cases e; exact h.apart g rfl hq), h.le, h.base, h.apart⟩
theorem RmAt.cast {w : World} {N b B : Nat} {v1 v2 : Value} {U U' V : Nat → Bool} (h : RmAt w N b B v1 v2 U V) (e : U = U') : RmAt w N b B v1 v2 U' V := e ▸ h

theorem may_fresh (U V : Nat → Bool) (k : Nat) : may (tkU U V k) V k = may U V k := by
  have : decide (k ∈ (List.range' 0 k).filter (may U V)) = false := by
    apply decide_eq_false
    intro h
    have h1 := (List.mem_filter.1 h).1
    rw [List.mem_range'] at h1
    obtain ⟨i, hi, e⟩ := h1
    omega
  simp only [may, tkU, this, Bool.or_false]

theorem RmAt.keptN {w w' : World} {N b B base : Nat} {v1 v2 v : Value} {U V : Nat → Bool} {L : List Nat} (h : RmAt w N b B v1 v2 U V) (hN : NOwn w base v L) (hg : w.grownBy w' v.ownBlock) : RmAt w' N b B v1 v2 U V := by
  cases ho : v.ownBlock with
  | none => rw [ho] at hg; exact h.grown hg
  | some q =>
    rw [ho] at hg
    obtain ⟨_, cur, hc⟩ := hN.row ho
    exact h.kept hg hc (by decide) (by decide)
theorem gr_weak0 {w w' : World} {row : Option Nat} (h : w.grownBy w' none) : w.grownBy w' row := by
  obtain ⟨h1, h2, h3, h4, h5⟩ := h
  exact ⟨h1, h2, h3, h4, fun k hk _ => h5 k hk (by simp)⟩
theorem ROwn.low {w : World} {base base' : Nat} {v : Value} {L : List (Nat × Nat)} (h : ROwn w base v L) (hb : base' ≤ base) : ROwn w base' v L := by
  obtain ⟨h1, h2⟩ := h
  refine ⟨h1, ?_⟩
  rcases h2 with h2 | ⟨g, cap, cur, a, b', c⟩
  · exact .inl h2
  · exact .inr ⟨g, cap, cur, a, by omega, c⟩

def RTk (w : World) (N b B n : Nat) (v1 v2 : Value) (U V : Nat → Bool) (e : Ending) (w' : World) : Prop :=
  ∃ u, e = .returned (.tuple #[u, .int .i64 0]) ∧ ROwn w' w.heap.size u (cut n (runsOf B U V)) ∧ RmAt w' N b B v1 v2 (marks U (cut n (runsOf B U V))) V ∧ w.grownBy w' v1.ownBlock

set_option maxHeartbeats 4000000 in
theorem rTake_ok (w : World) (N b B n : Nat) (v1 v2 : Value) (U V : Nat → Bool) (h : RmAt w N b B v1 v2 U V) (hn : n ≤ total (runsOf B U V)) :
    Calls Try.prog 9 #[.pointer (some ⟨b, 0, none⟩), .int .i64 (n : Int)] w (RTk w N b B n v1 v2 U V) := by
  have HM := hide h
  have hle := h.le
  have hBI : (B : Int) ≤ 512 := by omega
  have htot := runsOf_total B U V
  have hn0 : ¬ (n : Int) < 0 := by omega
  obtain ⟨o1, p1, hv1, q1, q2, q3⟩ := h.now.form
  subst hv1
  have Q3 := hide q3
  clear q3 h
  go_enter Try.func9, Try.ntmps9
  go_wp2_with fail
  refine (rFree_any w N b B _ v2 U V (unhide HM)).mono ?_
  rintro e w1 ⟨rfl, hw1⟩
  subst w1
  have hn1 : decide (total (runsOf B U V) < n) = false := decide_eq_false (by omega)
  go_wp2
  go_loopw [6, 7] (fun a i wr => ∃ k : Nat, i = .int .i64 (k : Int) ∧ k ≤ B ∧ ((List.range' 0 k).filter (may U V)).length ≤ n ∧ NOwn wr w.heap.size a ((List.range' 0 k).filter (may U V)) ∧ RmAt wr N b B (.slice o1 B p1) v2 (tkU U V k) V ∧ w.grownBy wr (Value.slice o1 B p1).ownBlock) (fun _ i _ => B - (intOf i).toNat)
  case atStart => exact ⟨0, rfl, by omega, by simp, by simpa using NOwn.nil w w.heap.size, (unhide HM).cast (by funext j; simp [tkU]), World.grownBy.refl _ _⟩
  case round =>
    obtain ⟨k, rfl, hk, hkl, hN, hR, hG⟩ := hrel
    have HN := hide hN
    have HG := hide hG
    have M2 := hide hR
    have hlb : ((List.range' 0 k).filter (may U V)).length ≤ 512 := by have := filter_len_le (may U V) k; omega
    obtain ⟨la, lc, hu, l1, l2, _⟩ := hN.form
    have c0 := hR.c0
    have HFs := hide (filter_range_succ (may U V) k)
    have HMF := hide (may_fresh U V k)
    clear hN hR hG
    by_cases hlt : k < B
    · have hlt' : (k : Int) < (B : Int) := by omega
      by_cases hln : ((List.range' 0 k).filter (may U V)).length < n
      · have hln' : (((List.range' 0 k).filter (may U V)).length : Int) < (n : Int) := by omega
        obtain ⟨F, hF⟩ : ∃ F, F = (List.range' 0 k).filter (may U V) := ⟨_, rfl⟩
        rw [← hF] at hu hln hln' hlb HN HFs hkl l1
        subst hu
        have HF := hide hF
        clear hF
        go_wp2_with fail
        refine (rmay_any wr N b B k _ v2 _ V (unhide M2) hlt).mono ?_
        rintro e wr' ⟨rfl, hwr⟩
        subst wr'
        rw [unhide HMF]
        cases hm : may U V k with
        | true =>
          rw [hm, if_pos rfl] at HFs
          obtain ⟨g, ho1, -, hgl, -, -⟩ := (unhide Q3) (by omega)
          subst ho1
          clear hm
          go_wp2_with (at_builtin; refine wpList_append_int rfl (.tmp 34) (.tmp 36) rfl w.heap.size _ F rfl ?ho ?hb (by omega) ⟨_, 0, none⟩ 1 k rfl ?hc ?_)
          case ho => exact (unhide HN).grown (World.grownBy_alloc _ _ _)
          case hb => have := (unhide HG).size; simp; omega
          case hc => exact (cell_of_row _ _ _ _ _ _ (heap_alloc_new _ _)).trans rfl
          intro v5 w5 o5 g5
          have G5 := hide (((unhide HG).trans (World.grownBy_alloc _ _ _)).andThen g5 (fun z e => .inl ((unhide HN).row e).1))
          have M5 := hide ((((unhide M2).grown (World.grownBy_alloc _ _ none))).keptN ((unhide HN).grown (World.grownBy_alloc _ _ _)) g5)
          have N5 := hide o5
          have c5 := (unhide M5).c0
          obtain ⟨oo, pp, ee, -, -, hh⟩ := (unhide M5).now.form
          injection ee with ee1 _ ee2
          subst ee1 ee2
          obtain ⟨g', eg, -, -, fz, cz⟩ := hh (by omega)
          cases eg
          have z5 := cz k hlt
          have f5 := fz k
          have M6 := hide (((unhide M5).setNow k true).cast (U' := tkU U V (k + 1)) (by
            funext j
            unfold tkU
            rw [unhide HFs, ← unhide HF]
            by_cases e : j = k
            · simp [e]
            · simp [e]))
          have G6 := hide ((unhide G5).trans (setCell_grown w5 g k (.bool true)))
          have N6 : Hid (NOwn (w5.setCell ⟨g, k, none⟩ (.bool true)) w.heap.size v5 ((List.range' 0 (k + 1)).filter (may U V))) := hide (by
            rw [unhide HFs]
            obtain ⟨_, cur, hc⟩ := (unhide M5).now.row (q := g) rfl
            exact (unhide N5).kept (setCell_grown w5 g k (.bool true)) (fun q hq e => (unhide N5).ne hq hc (by decide) (Option.some.inj e)))
          have L6 : Hid (((List.range' 0 (k + 1)).filter (may U V)).length ≤ n) := hide (by rw [unhide HFs, List.length_append]; simp; omega)
          clear o5 g5 cz fz hh HN HG M2 c0 M5 N5 G5
          go_wp2
          go_roundw
          case rel => exact ⟨k + 1, rfl, by omega, unhide L6, unhide N6, unhide M6, unhide G6⟩
          case measure => simp [intOf]; omega
        | false =>
          rw [hm, if_neg (by simp), List.append_nil] at HFs
          have N5 : Hid (NOwn wr w.heap.size (.slice la F.length lc) ((List.range' 0 (k + 1)).filter (may U V))) := hide (by rw [unhide HFs]; exact unhide HN)
          have M5 := hide ((unhide M2).cast (U' := tkU U V (k + 1)) (by funext j; unfold tkU; rw [unhide HFs, ← unhide HF]))
          have L5 : Hid (((List.range' 0 (k + 1)).filter (may U V)).length ≤ n) := hide (by rw [unhide HFs]; omega)
          clear hm M2 HN
          go_wp2
          go_roundw
          case rel => exact ⟨k + 1, rfl, by omega, unhide L5, unhide N5, unhide M5, unhide HG⟩
          case measure => simp [intOf]; omega
      · have hln' : ¬ (((List.range' 0 k).filter (may U V)).length : Int) < (n : Int) := by omega
        obtain ⟨F, hF⟩ : ∃ F, F = (List.range' 0 k).filter (may U V) := ⟨_, rfl⟩
        have HT := hide (taken_eq (may U V) hk hkl (.inr (by omega)))
        have HMk := hide (marks_taken U V (unhide HT))
        have HLt : Hid (low F) := hide (by
          intro x hx
          rw [hF] at hx
          have h1 := (List.mem_filter.1 hx).1
          rw [List.mem_range'] at h1
          obtain ⟨i, hi, rfl⟩ := h1
          omega)
        rw [← hF] at hu hlb HN hkl l1 HT
        try rw [← hF] at hln
        try rw [← hF] at hln'
        subst hu
        clear hF HFs HMF
        go_wp2_with fail
        refine (Whole_any wr _ F (unhide HN).nr (unhide HLt) (by omega)).mono ?_
        rintro e w6 ⟨u6, rfl, o6, g6⟩
        have O6 : Hid (ROwn w6 w.heap.size u6 (cut n (runsOf B U V))) := hide (by
          rw [← canon_taken, unhide HT]
          exact o6.low (unhide HG).size)
        have M6 := hide (((unhide M2).grown g6).cast (unhide HMk))
        have G6 := hide ((unhide HG).trans (gr_weak0 g6))
        clear o6 g6 HG M2 c0
        go_wp2
        go_ret2
        exact ⟨_, rfl, unhide O6, unhide M6, unhide G6⟩
    · have hlt' : ¬ (k : Int) < (B : Int) := by omega
      obtain ⟨F, hF⟩ : ∃ F, F = (List.range' 0 k).filter (may U V) := ⟨_, rfl⟩
      have HT := hide (taken_eq (may U V) hk hkl (.inl (by omega)))
      have HMk := hide (marks_taken U V (unhide HT))
      have HLt : Hid (low F) := hide (by
        intro x hx
        rw [hF] at hx
        have h1 := (List.mem_filter.1 hx).1
        rw [List.mem_range'] at h1
        obtain ⟨i, hi, rfl⟩ := h1
        omega)
      rw [← hF] at hu hlb HN hkl l1 HT
      try rw [← hF] at hln
      try rw [← hF] at hln'
      subst hu
      clear hF HFs HMF
      go_wp2_with fail
      refine (Whole_any wr _ F (unhide HN).nr (unhide HLt) (by omega)).mono ?_
      rintro e w6 ⟨u6, rfl, o6, g6⟩
      have O6 : Hid (ROwn w6 w.heap.size u6 (cut n (runsOf B U V))) := hide (by
        rw [← canon_taken, unhide HT]
        exact o6.low (unhide HG).size)
      have M6 := hide (((unhide M2).grown g6).cast (unhide HMk))
      have G6 := hide ((unhide HG).trans (gr_weak0 g6))
      clear o6 g6 HG M2 c0
      go_wp2
      go_ret2
      exact ⟨_, rfl, unhide O6, unhide M6, unhide G6⟩
end Go.Proofs.Ytmnmciajldoabaa
