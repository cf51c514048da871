/-
  DERIVED. Calls on a node and on the document's, side by side: what both answer.
-/
import Derived.Test.YtikoegmpbjeadaaIasked
import Derived.Test.YtikoegmpbjeadaaIcut2
import Derived.Test.YtikoegmpbjeadaaIread3
namespace Go.Proofs.Ytikoegmpbjeadaa
open Go.RowKit
set_option linter.unusedVariables false

def needV (n : Nat) (N : Int) : Int × Int := if N < 0 then (0, 1) else if 32768 < (n : Int) + N then (0, 60) else (((bf (n + N.toNat) - bf n : Nat) : Int), 0)
theorem Need_val (w : World) (b n : Nat) (v : Value) (L : List Nat) (h : NdAt w b n v L) (N : Int) (hN : I64 N) : Calls Try.prog 18 #[.pointer (some ⟨b, 0, none⟩), .int .i64 N] w fun e w' => e = .returned (.tuple #[.int .i64 (needV n N).1, .int .i64 (needV n N).2]) ∧ w.grownBy w' none := by
  unfold needV
  by_cases h1 : N < 0
  · rw [if_pos h1]
    refine (Need_neg w b n v L h N h1).mono ?_
    rintro e w' ⟨rfl, rfl⟩
    exact ⟨rfl, World.grownBy.refl _ _⟩
  · rw [if_neg h1]
    by_cases h2 : 32768 < (n : Int) + N
    · rw [if_pos h2]
      refine (Need_far w b n v L h N h2 (by omega) hN.2).mono ?_
      rintro e w' ⟨rfl, rfl⟩
      exact ⟨rfl, World.grownBy.refl _ _⟩
    · rw [if_neg h2]
      obtain ⟨m, rfl⟩ := Int.eq_ofNat_of_zero_le (show 0 ≤ N by omega)
      refine (Need_ok w b n v L h m (by omega)).mono ?_
      rintro e w' ⟨rfl, rfl⟩
      exact ⟨rfl, World.grownBy.refl _ _⟩
theorem rNeed_val (w : World) (b n : Nat) (v : Value) (L : List Nat) (h : RdAt w b n v L) (N : Int) (hN : I64 N) : Calls Try.prog 28 #[.pointer (some ⟨b, 0, none⟩), .int .i64 N] w fun e w' => e = .returned (.tuple #[.int .i64 (needV n N).1, .int .i64 (needV n N).2]) ∧ w.grownBy w' none := by
  unfold needV
  by_cases h1 : N < 0
  · rw [if_pos h1]
    refine (rNeed_neg w b N h1).mono ?_
    rintro e w' ⟨rfl, rfl⟩
    exact ⟨rfl, World.grownBy.refl _ _⟩
  · rw [if_neg h1]
    by_cases h2 : 32768 < (n : Int) + N
    · rw [if_pos h2]
      refine (rNeed_far w b n v L h N h2 (by omega) hN.2).mono ?_
      rintro e w' ⟨rfl, rfl⟩
      exact ⟨rfl, World.grownBy.refl _ _⟩
    · rw [if_neg h2]
      obtain ⟨m, rfl⟩ := Int.eq_ofNat_of_zero_le (show 0 ≤ N by omega)
      refine (rNeed_ok w b n v L h m (by omega)).mono ?_
      rintro e w' ⟨rfl, hg⟩
      exact ⟨rfl, hg⟩
theorem needV_small (n : Nat) (N : Int) (hn : n ≤ 32768) : 0 ≤ (needV n N).1 ∧ (needV n N).1 ≤ 64 := by
  unfold needV
  split
  · simp
  · split
    · simp
    · have := bf_le (show n + N.toNat ≤ 32768 by omega)
      simp only
      omega

def atV (n : Nat) (L : List Nat) (k : Int) : Int × Int × Int := if k < 0 ∨ (n : Int) ≤ k then (0, 0, 60) else ((L.getD (k.toNat / 512) 0 : Nat), ((k.toNat % 512 : Nat) : Int), 0)
theorem At_val (w : World) (b n : Nat) (v : Value) (L : List Nat) (h : NdAt w b n v L) (k : Int) (hk : I64 k) : Calls Try.prog 23 #[.pointer (some ⟨b, 0, none⟩), .int .i64 k] w fun e w' => e = .returned (.tuple #[.int .i64 (atV n L k).1, .int .i64 (atV n L k).2.1, .int .i64 (atV n L k).2.2]) ∧ w' = w := by
  unfold atV
  by_cases h1 : k < 0 ∨ (n : Int) ≤ k
  · rw [if_pos h1]
    exact At_far w b n v L h k h1 hk.2
  · rw [if_neg h1]
    obtain ⟨m, rfl⟩ := Int.eq_ofNat_of_zero_le (show 0 ≤ k by omega)
    refine (At_ok w b n v L h m (by omega)).mono ?_
    rintro e w' ⟨c, rfl, hc, rfl⟩
    have : L.getD (m / 512) 0 = c := by rw [List.getD_eq_getElem?_getD, hc]; rfl
    simp only [Int.toNat_natCast, this]
    exact ⟨trivial, trivial⟩
theorem rAt_val (w : World) (b n : Nat) (v : Value) (L : List Nat) (h : RdAt w b n v L) (k : Int) (hk : I64 k) : Calls Try.prog 31 #[.pointer (some ⟨b, 0, none⟩), .int .i64 k] w fun e w' => e = .returned (.tuple #[.int .i64 (atV n L k).1, .int .i64 (atV n L k).2.1, .int .i64 (atV n L k).2.2]) ∧ w' = w := by
  unfold atV
  by_cases h1 : k < 0 ∨ (n : Int) ≤ k
  · rw [if_pos h1]
    exact rAt_far w b n v L h k h1 hk.2
  · rw [if_neg h1]
    obtain ⟨m, rfl⟩ := Int.eq_ofNat_of_zero_le (show 0 ≤ k by omega)
    refine (rAt_ok w b n v L h m (by omega)).mono ?_
    rintro e w' ⟨c, rfl, hc, rfl⟩
    have : L.getD (m / 512) 0 = c := by rw [List.getD_eq_getElem?_getD, hc]; rfl
    simp only [Int.toNat_natCast, this]
    exact ⟨trivial, trivial⟩

/-- What Extend answers, and what is there behind it. -/
def extC (n : Nat) (N : Int) (l : List (Int × Int)) : Int := if N < 0 then 1 else if 32768 < (n : Int) + N then 60 else if okL l ((bf (n + N.toNat) - bf n : Nat) : Int) then 0 else 1
def extN (n : Nat) (N : Int) (l : List (Int × Int)) : Nat := if extC n N l = 0 then n + N.toNat else n
def extL (n : Nat) (L : List Nat) (N : Int) (l : List (Int × Int)) : List Nat := if extC n N l = 0 then L ++ bksI l else L
theorem Extend_gen (w : World) (b n : Nat) (v u : Value) (L : List Nat) (l : List (Int × Int)) (h : NdAt w b n v L) (N : Int) (hN : I64 N) (hu : Rn w u l) (hl : l.length ≤ 1125899906842624) :
    Calls Try.prog 19 #[.pointer (some ⟨b, 0, none⟩), .int .i64 N, u] w fun e w' => ∃ v', e = .returned (.int .i64 (extC n N l)) ∧ NdAt w' b (extN n N l) v' (extL n L N l) ∧ (v' = v ∨ ROwn w' w.heap.size v' (canon (extL n L N l))) ∧ w.grownBy w' (some b) := by
  by_cases h1 : N < 0
  · have e1 : extC n N l = 1 := by unfold extC; rw [if_pos h1]
    have e2 : extN n N l = n := by unfold extN; rw [if_neg (by rw [e1]; decide)]
    have e3 : extL n L N l = L := by unfold extL; rw [if_neg (by rw [e1]; decide)]
    rw [e1, e2, e3]
    have H := hide h
    clear h hu e1 e2 e3
    go_enter Try.func19, Try.ntmps19
    go_wp2_with fail
    refine (Need_neg w b n v L (unhide H) N h1).mono ?_
    rintro e w1 ⟨rfl, rfl⟩
    go_wp2
    go_ret
    exact ⟨v, rfl, unhide H, .inl rfl, World.grownBy.refl _ _⟩
  · by_cases h2 : 32768 < (n : Int) + N
    · have e1 : extC n N l = 60 := by unfold extC; rw [if_neg h1, if_pos h2]
      have e2 : extN n N l = n := by unfold extN; rw [if_neg (by rw [e1]; decide)]
      have e3 : extL n L N l = L := by unfold extL; rw [if_neg (by rw [e1]; decide)]
      rw [e1, e2, e3]
      have H := hide h
      clear h hu e1 e2 e3
      go_enter Try.func19, Try.ntmps19
      go_wp2_with fail
      refine (Need_far w b n v L (unhide H) N h2 (by omega) hN.2).mono ?_
      rintro e w1 ⟨rfl, rfl⟩
      go_wp2
      go_ret
      exact ⟨v, rfl, unhide H, .inl rfl, World.grownBy.refl _ _⟩
    · obtain ⟨m, rfl⟩ := Int.eq_ofNat_of_zero_le (show 0 ≤ N by omega)
      by_cases h3 : okL l ((bf (n + m) - bf n : Nat) : Int)
      · have e1 : extC n (m : Int) l = 0 := by unfold extC; rw [if_neg h1, if_neg h2, Int.toNat_natCast, if_pos h3]
        have e2 : extN n (m : Int) l = n + m := by unfold extN; rw [if_pos e1, Int.toNat_natCast]
        have e3 : extL n L (m : Int) l = L ++ bksI l := by unfold extL; rw [if_pos e1]
        rw [e1, e2, e3]
        obtain ⟨Y, hY, hY2, hYt⟩ := of_okL h3
        subst hY
        rw [bksI_toI]
        refine (Extend_ok w b n m v u L Y h (by omega) hu hY2 hYt).mono ?_
        rintro e w' ⟨rfl, v', k1, k2, k3⟩
        exact ⟨v', rfl, k1, .inr k2, k3⟩
      · have e1 : extC n (m : Int) l = 1 := by unfold extC; rw [if_neg h1, if_neg h2, Int.toNat_natCast, if_neg h3]
        have e2 : extN n (m : Int) l = n := by unfold extN; rw [if_neg (by rw [e1]; decide)]
        have e3 : extL n L (m : Int) l = L := by unfold extL; rw [if_neg (by rw [e1]; decide)]
        rw [e1, e2, e3]
        refine (Extend_bad w b n m v u L l h (by omega) hu hl h3).mono ?_
        rintro e w' ⟨rfl, k1⟩
        exact ⟨v, rfl, h.grown k1, .inl rfl, k1.but _⟩
theorem rExtend_gen (w : World) (b n : Nat) (v u : Value) (L : List Nat) (l : List (Int × Int)) (h : RdAt w b n v L) (N : Int) (hN : I64 N) (hu : Rn w u l) (hl : l.length ≤ 1125899906842624) :
    Calls Try.prog 29 #[.pointer (some ⟨b, 0, none⟩), .int .i64 N, u] w fun e w' => ∃ v', e = .returned (.int .i64 (extC n N l)) ∧ RdAt w' b (extN n N l) v' (extL n L N l) ∧ w.grownBy w' (some b) := by
  by_cases h1 : N < 0
  · have e1 : extC n N l = 1 := by unfold extC; rw [if_pos h1]
    have e2 : extN n N l = n := by unfold extN; rw [if_neg (by rw [e1]; decide)]
    have e3 : extL n L N l = L := by unfold extL; rw [if_neg (by rw [e1]; decide)]
    rw [e1, e2, e3]
    refine (rExtend_neg w b N u h1).mono ?_
    rintro e w' ⟨rfl, rfl⟩
    exact ⟨v, rfl, h, World.grownBy.refl _ _⟩
  · by_cases h2 : 32768 < (n : Int) + N
    · have e1 : extC n N l = 60 := by unfold extC; rw [if_neg h1, if_pos h2]
      have e2 : extN n N l = n := by unfold extN; rw [if_neg (by rw [e1]; decide)]
      have e3 : extL n L N l = L := by unfold extL; rw [if_neg (by rw [e1]; decide)]
      rw [e1, e2, e3]
      refine (rExtend_far w b n v u L h N h2 (by omega) hN.2).mono ?_
      rintro e w' ⟨rfl, rfl⟩
      exact ⟨v, rfl, h, World.grownBy.refl _ _⟩
    · obtain ⟨m, rfl⟩ := Int.eq_ofNat_of_zero_le (show 0 ≤ N by omega)
      refine (rExtend_any w b n m v u L l h (by omega) hu hl).mono ?_
      rintro e w' (⟨h3, rfl, k1⟩ | ⟨h3, rfl, v', k1, k2⟩)
      · have e1 : extC n (m : Int) l = 1 := by unfold extC; rw [if_neg h1, if_neg h2, Int.toNat_natCast, if_neg h3]
        have e2 : extN n (m : Int) l = n := by unfold extN; rw [if_neg (by rw [e1]; decide)]
        have e3 : extL n L (m : Int) l = L := by unfold extL; rw [if_neg (by rw [e1]; decide)]
        rw [e1, e2, e3]
        exact ⟨v, rfl, h.grown k1, k1.but _⟩
      · have e1 : extC n (m : Int) l = 0 := by unfold extC; rw [if_neg h1, if_neg h2, Int.toNat_natCast, if_pos h3]
        have e2 : extN n (m : Int) l = n + m := by unfold extN; rw [if_pos e1, Int.toNat_natCast]
        have e3 : extL n L (m : Int) l = L ++ bksI l := by unfold extL; rw [if_pos e1]
        rw [e1, e2, e3]
        exact ⟨v', rfl, k1, k2⟩

/-- What Cut answers. -/
def cutC (n : Nat) (k : Int) : Int := if k < 0 ∨ (n : Int) < k then 60 else 0
def cutN (n : Nat) (k : Int) : Nat := if cutC n k = 0 then k.toNat else n
def cutL (n : Nat) (L : List Nat) (k : Int) : List Nat := if cutC n k = 0 then L.take (bf k.toNat) else L
def cutG (n : Nat) (L : List Nat) (k : Int) : List (Nat × Nat) := if cutC n k = 0 then canon (L.drop (bf k.toNat)) else []
theorem cutG_fit {n : Nat} {L : List Nat} {k : Int} (h : low L) : ∀ x ∈ cutG n L k, x.1 ≤ 65536 ∧ x.2 ≤ 65536 := by
  intro x hx
  unfold cutG at hx
  split at hx
  · have := low_canon (low_drop h (bf k.toNat)) x hx
    omega
  · cases hx
theorem Cut_gen (w : World) (b n : Nat) (v : Value) (L : List Nat) (h : NdAt w b n v L) (k : Int) : Calls Try.prog 24 #[.pointer (some ⟨b, 0, none⟩), .int .i64 k] w fun e w' => ∃ a c, e = .returned (.tuple #[c, .int .i64 (cutC n k)]) ∧ NdAt w' b (cutN n k) a (cutL n L k) ∧ ROwn w' w.heap.size c (cutG n L k) ∧ (∀ q, c.ownBlock = some q → a.ownBlock ≠ some q) ∧ w.grownBy w' (some b) := by
  by_cases h1 : k < 0 ∨ (n : Int) < k
  · have e1 : cutC n k = 60 := by unfold cutC; rw [if_pos h1]
    have e2 : cutN n k = n := by unfold cutN; rw [if_neg (by rw [e1]; decide)]
    have e3 : cutL n L k = L := by unfold cutL; rw [if_neg (by rw [e1]; decide)]
    have e4 : cutG n L k = [] := by unfold cutG; rw [if_neg (by rw [e1]; decide)]
    rw [e1, e2, e3, e4]
    refine (Cut_far w b n v L h k h1).mono ?_
    rintro e w' ⟨rfl, rfl⟩
    exact ⟨v, _, rfl, h, ROwn.nil _ _, (fun q hq => by cases hq), World.grownBy.refl _ _⟩
  · obtain ⟨m, rfl⟩ := Int.eq_ofNat_of_zero_le (show 0 ≤ k by omega)
    have e1 : cutC n (m : Int) = 0 := by unfold cutC; rw [if_neg h1]
    have e2 : cutN n (m : Int) = m := by unfold cutN; rw [if_pos e1, Int.toNat_natCast]
    have e3 : cutL n L (m : Int) = L.take (bf m) := by unfold cutL; rw [if_pos e1, Int.toNat_natCast]
    have e4 : cutG n L (m : Int) = canon (L.drop (bf m)) := by unfold cutG; rw [if_pos e1, Int.toNat_natCast]
    rw [e1, e2, e3, e4]
    exact Cut_ok w b n v L h m (by omega)
theorem rCut_gen (w : World) (b n : Nat) (v : Value) (L : List Nat) (h : RdAt w b n v L) (k : Int) : Calls Try.prog 30 #[.pointer (some ⟨b, 0, none⟩), .int .i64 k] w fun e w' => ∃ a c, e = .returned (.tuple #[c, .int .i64 (cutC n k)]) ∧ RdAt w' b (cutN n k) a (cutL n L k) ∧ ROwn w' w.heap.size c (cutG n L k) ∧ w.grownBy w' (some b) := by
  by_cases h1 : k < 0 ∨ (n : Int) < k
  · have e1 : cutC n k = 60 := by unfold cutC; rw [if_pos h1]
    have e2 : cutN n k = n := by unfold cutN; rw [if_neg (by rw [e1]; decide)]
    have e3 : cutL n L k = L := by unfold cutL; rw [if_neg (by rw [e1]; decide)]
    have e4 : cutG n L k = [] := by unfold cutG; rw [if_neg (by rw [e1]; decide)]
    rw [e1, e2, e3, e4]
    refine (rCut_far w b n v L h k h1).mono ?_
    rintro e w' ⟨rfl, rfl⟩
    exact ⟨v, _, rfl, h, ROwn.nil _ _, World.grownBy.refl _ _⟩
  · obtain ⟨m, rfl⟩ := Int.eq_ofNat_of_zero_le (show 0 ≤ k by omega)
    have e1 : cutC n (m : Int) = 0 := by unfold cutC; rw [if_neg h1]
    have e2 : cutN n (m : Int) = m := by unfold cutN; rw [if_pos e1, Int.toNat_natCast]
    have e3 : cutL n L (m : Int) = L.take (bf m) := by unfold cutL; rw [if_pos e1, Int.toNat_natCast]
    have e4 : cutG n L (m : Int) = canon (L.drop (bf m)) := by unfold cutG; rw [if_pos e1, Int.toNat_natCast]
    rw [e1, e2, e3, e4]
    exact rCut_ok w b n v L h m (by omega)

/-- Nothing old has turned but two blocks. -/
structure Fr2 (w w' : World) (b c : Nat) : Prop where
  os : w'.os = w.os
  tape : w'.tape = w.tape
  output : w'.output = w.output
  size : w.heap.size ≤ w'.heap.size
  block : ∀ k, k < w.heap.size → k ≠ b → k ≠ c → w'.heap[k]? = w.heap[k]?
theorem Fr2.of (w w' : World) (b c : Nat) (h : w.grownBy w' none) : Fr2 w w' b c := ⟨h.os, h.tape, h.output, h.size, fun k hk _ _ => h.block k hk (by simp)⟩
theorem Fr2.left {w w' w'' : World} {b c : Nat} (h : Fr2 w w' b c) (g : w'.grownBy w'' (some b)) : Fr2 w w'' b c := ⟨g.os.trans h.os, g.tape.trans h.tape, g.output.trans h.output, Nat.le_trans h.size g.size, fun k hk h1 h2 => (g.block k (Nat.lt_of_lt_of_le hk h.size) (by simpa using h1)).trans (h.block k hk h1 h2)⟩
theorem Fr2.right {w w' w'' : World} {b c : Nat} (h : Fr2 w w' b c) (g : w'.grownBy w'' (some c)) : Fr2 w w'' b c := ⟨g.os.trans h.os, g.tape.trans h.tape, g.output.trans h.output, Nat.le_trans h.size g.size, fun k hk h1 h2 => (g.block k (Nat.lt_of_lt_of_le hk h.size) (by simpa using h2)).trans (h.block k hk h1 h2)⟩
theorem Fr2.none {w w' w'' : World} {b c : Nat} (h : Fr2 w w' b c) (g : w'.grownBy w'' none) : Fr2 w w'' b c := h.left (g.but _)
theorem Fr2.new {w w' w'' : World} {b c z : Nat} (h : Fr2 w w' b c) (hz : w.heap.size ≤ z) (g : w'.grownBy w'' (some z)) : Fr2 w w'' b c := ⟨g.os.trans h.os, g.tape.trans h.tape, g.output.trans h.output, Nat.le_trans h.size g.size, fun k hk h1 h2 => (g.block k (Nat.lt_of_lt_of_le hk h.size) (by simp; omega)).trans (h.block k hk h1 h2)⟩
def DoPost (w : World) (b c : Nat) (e : Ending) (w' : World) : Prop := e = .returned (.bool true) ∧ (∃ n v u L, NdAt w' b n v L ∧ RdAt w' c n u L) ∧ Fr2 w w' b c
end Go.Proofs.Ytikoegmpbjeadaa
