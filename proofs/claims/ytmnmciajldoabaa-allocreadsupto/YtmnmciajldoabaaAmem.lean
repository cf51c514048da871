/-
  DERIVED. The map in memory: a number and two rows of 512 bools in one block.
-/
import Derived.Test.YtmnmciajldoabaaBase
import Derived.Test.YtmnmciajldoabaaAmath
import Derived.Deep.MidRow
import Derived.Maps.AppendAt
import Derived.Maps.Range
import Derived.Maps.RangeWalk
namespace Go.Proofs.Ytmnmciajldoabaa
open Go.RowKit

def bs (U : Nat → Bool) : List Value := (List.range 512).map fun n => Value.bool (U n)
theorem bs_len (U : Nat → Bool) : (bs U).length = 512 := by simp [bs]
theorem bs_at (U : Nat → Bool) {n : Nat} (h : n < 512) : (bs U)[n]? = some (Value.bool (U n)) := by simp [bs, h]
theorem bs_one (U : Nat → Bool) : ∀ v ∈ bs U, v.oneCell' = true := by
  intro v hv
  obtain ⟨n, _, rfl⟩ := List.mem_map.1 hv
  rfl

/-- The cells of a map. -/
def mcells (B : Nat) (U V : Nat → Bool) : Array Value := (Value.int .i64 (B : Int) :: (bs U ++ bs V)).toArray
theorem mcells_size (B : Nat) (U V : Nat → Bool) : (mcells B U V).size = 1025 := by simp [mcells, bs_len]
theorem mcells_zero (B : Nat) (U V : Nat → Bool) : (mcells B U V)[0]? = some (Value.int .i64 (B : Int)) := by simp [mcells]
theorem mcells_used (B : Nat) (U V : Nat → Bool) {n : Nat} (h : n < 512) : (mcells B U V)[1 + n]? = some (Value.bool (U n)) := by
  have e : 1 + n = n + 1 := by omega
  rw [mcells, List.getElem?_toArray, e, List.getElem?_cons_succ, List.getElem?_append_left (by rw [bs_len]; exact h), bs_at U h]
theorem mcells_was (B : Nat) (U V : Nat → Bool) {n : Nat} (h : n < 512) : (mcells B U V)[513 + n]? = some (Value.bool (V n)) := by
  have e : 513 + n = (512 + n) + 1 := by omega
  rw [mcells, List.getElem?_toArray, e, List.getElem?_cons_succ, List.getElem?_append_right (by rw [bs_len]; omega), bs_len, show 512 + n - 512 = n by omega, bs_at V h]

structure MapAt (w : World) (b B : Nat) (U V : Nat → Bool) : Prop where
  blk : w.heap[b]? = some (.cells (mcells B U V) 52 (0, 0))
  le : B ≤ 512

theorem MapAt.lt {w : World} {b B : Nat} {U V : Nat → Bool} (h : MapAt w b B U V) : b < w.heap.size := lt_of_block h.blk
theorem MapAt.frozen {w : World} {b B : Nat} {U V : Nat → Bool} (h : MapAt w b B U V) (i : Nat) : w.frozen? ⟨b, i, none⟩ = false := by simp [World.frozen?, h.blk]
theorem MapAt.num {w : World} {b B : Nat} {U V : Nat → Bool} (h : MapAt w b B U V) : w.cell? ⟨b, 0, none⟩ = some (.int .i64 (B : Int)) := by
  rw [cell_of_row _ _ _ _ _ _ h.blk, mcells_zero]
theorem MapAt.used {w : World} {b B : Nat} {U V : Nat → Bool} (h : MapAt w b B U V) {n : Nat} (hn : n < 512) : w.cell? ⟨b, 1 + n, none⟩ = some (.bool (U n)) := by
  rw [cell_of_row _ _ _ _ _ _ h.blk, mcells_used _ _ _ hn]
theorem MapAt.was {w : World} {b B : Nat} {U V : Nat → Bool} (h : MapAt w b B U V) {n : Nat} (hn : n < 512) : w.cell? ⟨b, 513 + n, none⟩ = some (.bool (V n)) := by
  rw [cell_of_row _ _ _ _ _ _ h.blk, mcells_was _ _ _ hn]
theorem MapAt.rangeU {w : World} {b B : Nat} {U V : Nat → Bool} (h : MapAt w b B U V) : w.rangeAt b 1 (bs U) := fun j v hv => by
  have hj : j < 512 := by have := (List.getElem?_eq_some_iff.1 hv).1; rwa [bs_len] at this
  rw [bs_at U hj] at hv
  rw [h.used hj, hv]
theorem MapAt.rangeV {w : World} {b B : Nat} {U V : Nat → Bool} (h : MapAt w b B U V) : w.rangeAt b 513 (bs V) := fun j v hv => by
  have hj : j < 512 := by have := (List.getElem?_eq_some_iff.1 hv).1; rwa [bs_len] at this
  rw [bs_at V hj] at hv
  rw [h.was hj, hv]
theorem MapAt.thereU {w : World} {b B : Nat} {U V : Nat → Bool} (h : MapAt w b B U V) : w.there b 1 512 := fun j hj => ⟨by rw [h.used hj]; rfl, h.frozen _⟩
theorem MapAt.thereV {w : World} {b B : Nat} {U V : Nat → Bool} (h : MapAt w b B U V) : w.there b 513 512 := fun j hj => ⟨by rw [h.was hj]; rfl, h.frozen _⟩
theorem MapAt.of {w w' : World} {b B : Nat} {U V : Nat → Bool} (h : MapAt w b B U V) (he : w'.heap[b]? = w.heap[b]?) : MapAt w' b B U V := ⟨he.trans h.blk, h.le⟩
theorem MapAt.grown {w w' : World} {b B : Nat} {U V : Nat → Bool} {row : Option Nat} (h : MapAt w b B U V) (hg : w.grownBy w' row) (hne : some b ≠ row) : MapAt w' b B U V := h.of (hg.block b h.lt hne)
theorem MapAt.alloc {w : World} {b B : Nat} {U V : Nat → Bool} (h : MapAt w b B U V) (o : Obj) : MapAt (w.alloc o) b B U V := h.of (Below.heap_alloc w o b h.lt)
theorem MapAt.below {N : Nat} {w w' : World} {b B : Nat} {U V : Nat → Bool} (h : MapAt w b B U V) (hb : Below N w w') (hN : b < N) : MapAt w' b B U V := h.of (hb.block b hN)

/-- Cells laid into a block. -/
theorem heap_setCells (b : Nat) (t : TypeId) : ∀ (vs : List Value) (o : Nat) (w : World) (C : Array Value), w.heap[b]? = some (.cells C t (0, 0)) → o + vs.length ≤ C.size →
    ∃ C', (w.setCells b o vs).heap[b]? = some (.cells C' t (0, 0)) ∧ C'.size = C.size ∧ ∀ j, C'[j]? = if o ≤ j ∧ j < o + vs.length then vs[j - o]? else C[j]?
  | [], o, w, C, h, _ => ⟨C, h, rfl, fun j => by rw [if_neg (by simp; try omega)]⟩
  | v :: r, o, w, C, h, hl => by
    simp only [List.length_cons] at hl
    have h1 := heap_setCell_same w b o C t v h
    obtain ⟨C', h2, h3, h4⟩ := heap_setCells b t r (o + 1) (w.setCell ⟨b, o, none⟩ v) _ h1 (by simp; omega)
    refine ⟨C', h2, by rw [h3]; simp, fun j => ?_⟩
    rw [h4 j]
    simp only [List.length_cons]
    by_cases e1 : j = o
    · subst e1
      rw [if_neg (by omega), if_pos (by omega), Nat.sub_self, Array.getElem?_setIfInBounds_self]
      have : j < C.size := by omega
      simp [this]
    · by_cases e2 : o + 1 ≤ j ∧ j < o + 1 + r.length
      · rw [if_pos e2, if_pos (by omega), show j - o = (j - (o + 1)) + 1 by omega, List.getElem?_cons_succ]
      · rw [if_neg e2, if_neg (by omega), Array.getElem?_setIfInBounds_ne (by omega)]
theorem heap_setCells_other (b : Nat) : ∀ (vs : List Value) (o : Nat) (w : World) (q : Nat), q ≠ b → (w.setCells b o vs).heap[q]? = w.heap[q]?
  | [], _, _, _, _ => rfl
  | v :: r, o, w, q, h => by
    rw [World.setCells, heap_setCells_other b r (o + 1) _ q h]
    exact Below.heap_setCell w ⟨b, o, none⟩ v q h
theorem setCells_grown (b : Nat) : ∀ (vs : List Value) (o : Nat) (w : World), w.grownBy (w.setCells b o vs) (some b)
  | [], _, w => World.grownBy.refl w _
  | v :: r, o, w => by
    rw [World.setCells]
    refine World.grownBy.trans (b := w.setCell ⟨b, o, none⟩ v) ⟨rfl, rfl, rfl, by simp, fun k _ hk => Below.heap_setCell w ⟨b, o, none⟩ v k (fun e => hk (by rw [e]))⟩ (setCells_grown b r (o + 1) _)

theorem mcells_ext {B : Nat} {U V : Nat → Bool} {C : Array Value} (hs : C.size = 1025) (h0 : C[0]? = some (Value.int .i64 (B : Int))) (h1 : ∀ n, n < 512 → C[1 + n]? = some (Value.bool (U n))) (h2 : ∀ n, n < 512 → C[513 + n]? = some (Value.bool (V n))) : C = mcells B U V := by
  apply Array.ext_getElem?
  intro i
  by_cases e0 : i = 0
  · subst e0; rw [h0, mcells_zero]
  · by_cases e1 : i < 513
    · obtain ⟨n, rfl⟩ : ∃ n, i = 1 + n := ⟨i - 1, by omega⟩
      rw [h1 n (by omega), mcells_used _ _ _ (by omega)]
    · by_cases e2 : i < 1025
      · obtain ⟨n, rfl⟩ : ∃ n, i = 513 + n := ⟨i - 513, by omega⟩
        rw [h2 n (by omega), mcells_was _ _ _ (by omega)]
      · rw [Array.getElem?_eq_none (by omega), Array.getElem?_eq_none (by rw [mcells_size]; omega)]

theorem MapAt.setU {w : World} {b B : Nat} {U V : Nat → Bool} (h : MapAt w b B U V) (U' : Nat → Bool) : MapAt (w.setCells b 1 (bs U')) b B U' V := by
  obtain ⟨C', h2, h3, h4⟩ := heap_setCells b 52 (bs U') 1 w _ h.blk (by rw [bs_len, mcells_size]; omega)
  have e : C' = mcells B U' V := by
    refine mcells_ext (by rw [h3, mcells_size]) ?_ ?_ ?_
    · rw [h4, if_neg (by omega), mcells_zero]
    · intro n hn
      rw [h4, bs_len, if_pos (by omega), show 1 + n - 1 = n by omega, bs_at _ hn]
    · intro n hn
      rw [h4, bs_len, if_neg (by omega), mcells_was _ _ _ hn]
  exact ⟨by rw [h2, e], h.le⟩
theorem MapAt.setV {w : World} {b B : Nat} {U V : Nat → Bool} (h : MapAt w b B U V) (V' : Nat → Bool) : MapAt (w.setCells b 513 (bs V')) b B U V' := by
  obtain ⟨C', h2, h3, h4⟩ := heap_setCells b 52 (bs V') 513 w _ h.blk (by rw [bs_len, mcells_size]; omega)
  have e : C' = mcells B U V' := by
    refine mcells_ext (by rw [h3, mcells_size]) ?_ ?_ ?_
    · rw [h4, if_neg (by omega), mcells_zero]
    · intro n hn
      rw [h4, bs_len, if_neg (by omega), mcells_used _ _ _ hn]
    · intro n hn
      rw [h4, bs_len, if_pos (by omega), show 513 + n - 513 = n by omega, bs_at _ hn]
  exact ⟨by rw [h2, e], h.le⟩
theorem MapAt.set {w : World} {b B : Nat} {U V : Nat → Bool} (h : MapAt w b B U V) (k : Nat) (hk : k < 512) (x : Bool) : MapAt (w.setCell ⟨b, 1 + k, none⟩ (.bool x)) b B (fun j => if j = k then x else U j) V := by
  refine ⟨?_, h.le⟩
  rw [heap_setCell_same w b (1 + k) _ _ _ h.blk]
  congr 2
  refine mcells_ext (by simp [mcells_size]) ?_ ?_ ?_
  · rw [Array.getElem?_setIfInBounds_ne (by omega), mcells_zero]
  · intro n hn
    by_cases e : n = k
    · subst e
      rw [Array.getElem?_setIfInBounds_self]
      simp [mcells_size]
      omega
    · rw [Array.getElem?_setIfInBounds_ne (by omega), mcells_used _ _ _ hn, if_neg e]
  · intro n hn
    rw [Array.getElem?_setIfInBounds_ne (by omega), mcells_was _ _ _ hn]
theorem setCell_grown (w : World) (b k : Nat) (v : Value) : w.grownBy (w.setCell ⟨b, k, none⟩ v) (some b) := ⟨rfl, rfl, rfl, by simp, fun q _ hq => Below.heap_setCell w ⟨b, k, none⟩ v q (fun e => hq (by rw [e]))⟩

theorem grown_of_below {w w' : World} (h : Below w.heap.size w w') : w.grownBy w' none := ⟨h.os, h.tape, h.output, h.size, fun k hk _ => h.block k hk⟩
theorem below_of_grown {w w' : World} (h : w.grownBy w' none) : Below w.heap.size w w' := ⟨h.os, h.tape, h.output, h.size, fun k hk => h.block k hk (by simp)⟩

theorem infoMap : (Try.prog.info? 52).map (·.size) = some 1025 := by kernel_rfl
theorem info512 : (Try.prog.info? 50).map (·.size) = some 512 := by kernel_rfl
theorem zeroMap : (Try.prog.info? 52).map (fun i => (i.zero, i.size)) = some (some (.agg (mcells 0 (fun _ => false) (fun _ => false))), 1025) := by kernel_rfl
end Go.Proofs.Ytmnmciajldoabaa
