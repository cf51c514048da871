/-
  DERIVED. A slice of one block, built.
-/
import Derived.Test.YtbgaomfoiooegaaDmem
namespace Go.Proofs.Ytbgaomfoiooegaa
open Go.RowKit Go.Maps
set_option linter.unusedVariables false

theorem infoBlk : ∃ i, Try.prog.info? 72 = some i ∧ i.zero = some (.agg (noughts 512)) ∧ i.size = 512 ∧ i.bytes = 512 := by
  obtain ⟨i, hi, hh⟩ := Option.map_eq_some_iff.1 infoBlock
  simp only [Prod.mk.injEq] at hh
  exact ⟨i, hi, hh.1, hh.2.1, hh.2.2⟩

/-- A slice of one block, out of that block. -/
def mkOne (parts : Array (Nat × Value)) : Sem Value := Instr.buildSlice 55 1 parts
theorem mkOne_eq (parts : Array (Nat × Value)) : Instr.buildSlice 55 1 parts = mkOne parts := rfl
theorem fill_whole (cs : List Value) (z : Array Value) (hz : z.size = cs.length) : ∀ (a b : List Value), cs = a ++ b → ((b.zipIdx a.length).foldl (fun (r : Array Value) (p : Value × Nat) => r.setIfInBounds p.2 p.1) (a.toArray ++ z.extract a.length z.size)) = cs.toArray
  | a, [], h => by
    rw [List.append_nil] at h
    subst h
    simp [← hz]
  | a, x :: b, h => by
    rw [List.zipIdx_cons, List.foldl_cons]
    have hlen : a.length < z.size := by rw [hz, h]; simp
    have e : ((a.toArray ++ z.extract a.length z.size).setIfInBounds a.length x) = ((a ++ [x]).toArray ++ z.extract (a ++ [x]).length z.size) := by
      apply Array.ext
      · simp; omega
      · intro i h1 h2
        have h3 : i < (a.toArray ++ z.extract a.length z.size).size := by simpa using h1
        simp only [Array.size_setIfInBounds, Array.size_append, List.size_toArray, Array.size_extract] at h1
        rw [Array.getElem_setIfInBounds h3]
        by_cases hi : a.length = i
        · subst hi
          simp
        · rw [if_neg hi]
          by_cases hi2 : i < a.length
          · rw [Array.getElem_append_left (by simpa using hi2), Array.getElem_append_left (by simp; omega)]
            simp [List.getElem_append_left hi2]
          · rw [Array.getElem_append_right (by simpa using hi2), Array.getElem_append_right (by simp; omega)]
            simp only [Array.getElem_extract, List.size_toArray, List.length_append, List.length_singleton]
            congr 1
            omega
    rw [e]
    have := fill_whole cs z hz (a ++ [x]) b (by rw [h]; simp)
    rw [List.length_append, List.length_singleton] at this
    rw [List.length_append, List.length_singleton]
    exact this
theorem fill_one (cs : List Value) (hc : cs.length = 512) (z : Array Value) (hzs : z.size = cs.length) : Instr.fill (fun i => some (i * 512, 512)) z [(0, Value.agg cs.toArray)] = some cs.toArray := by
  have hf := fill_whole cs z hzs [] cs rfl
  have e1 : ¬ (((Value.agg cs.toArray).cells.size ≠ 512 || 0 * 512 + (Value.agg cs.toArray).cells.size > z.size) = true) := by
    show ¬ ((cs.toArray.size ≠ 512 || 0 * 512 + cs.toArray.size > z.size) = true)
    rw [List.size_toArray, hzs, hc]; decide
  unfold Instr.fill
  dsimp only
  rw [if_neg e1]
  unfold Instr.fill
  refine congrArg some (Eq.trans ?_ hf)
  show Array.foldl (fun (r : Array Value) (x : Value × Nat) => r.setIfInBounds (0 * 512 + x.snd) x.fst) z cs.toArray.zipIdx = _
  have e4 : ∀ j, 0 * 512 + j = j := fun j => by rw [Nat.zero_mul, Nat.zero_add]
  simp only [e4]
  have e2 : (#[] ++ z.extract ([] : List Value).length z.size : Array Value) = z := by simp
  rw [e2, ← Array.foldl_toList]
  have e3 : cs.toArray.zipIdx.toList = cs.zipIdx := by simp
  rw [e3]
  rfl
theorem run_zeroBlk (w : World) : (zeroValue 72).run Try.prog w = .ok (.agg (noughts 512)) w := by kernel_rfl
theorem run_sizeBlk (w : World) : (sizeOf 72).run Try.prog w = .ok 512 w := by
  obtain ⟨i, hi, hz, hs, hb⟩ := infoBlk
  simp [sizeOf, typeInfo, hi, hs]
theorem run_mkOne (cs : List Value) (hc : cs.length = 512) (w : World) : (mkOne #[(0, .agg cs.toArray)]).run Try.prog w = .ok (.slice (some ⟨w.heap.size, 0, none⟩) 1 1) (w.alloc (.cells cs.toArray 72)) := by
  have hfl := fun z hz => fill_one cs hc z hz
  have hzs : ((Array.range (1 * 512)).map ((noughts 512)[· % (noughts 512).size]!)).size = cs.length := by rw [Array.size_map, Array.size_range, hc]
  have h0 : ¬ (1 * 512 > 2 ^ 24) := by decide
  have h1 : ¬ (1 * 512 = 0) := by decide
  unfold mkOne Instr.buildSlice
  rw [Sem.run_bind, run_underlying Try.underlying55, Result.andThen_ok]
  dsimp only
  rw [Sem.run_bind, run_sizeBlk, Result.andThen_ok, if_neg h0, if_neg h1, Sem.run_bind, run_zeroBlk, Result.andThen_ok, Sem.run_bind, Sem.run_pure, Result.andThen_ok]
  show Sem.run Try.prog (match Instr.fill (fun i => some (i * 512, 512)) ((Array.range (1 * 512)).map ((noughts 512)[· % (noughts 512).size]!)) [(0, Value.agg cs.toArray)] with | some cells => _ | _ => _) w = _
  rw [hfl _ hzs]
  simp [newRow]
end Go.Proofs.Ytbgaomfoiooegaa
