/-
  DERIVED. Names: the streams' names, rising: the library's maps.Keys, slices.Sorted, slices.Sort by the shelf's contracts.
-/
import Derived.Test.YtgpijeaehkabdaaXnil
import Derived.Test.YtgpijeaehkabdaaLays
namespace Go.Proofs.Ytgpijeaehkabdaa
open Go.RowKit Go.Maps Go.Sort Go.Shelf
set_option linter.unusedVariables false

/-- slices.Sort's two contracts here, at the fence that asks nothing. -/
theorem Try.sortsA (m : Nat) : AnyZ.SortsIn Try.prog Try.sortedA_ren Fence.wide m :=
  ⟨fun blk off cap ss W hH hblk hsz => callsIn_wide.2 (AnyM.slices_Sort_string Try.sortA blk off cap ss W hH hblk hsz),
   fun p cap W => callsIn_wide.2 (AnyM.slices_Sort_string_none Try.sortA p cap W)⟩

theorem keys_go (q : Option Nat) (W : World) : CallsIn Fence.wide 5 Try.prog 31 #[.map q] W fun e w' => e = .returned (.func (.func 40) #[] #[.pointer (some ⟨W.heap.size, 0, none⟩)]) ∧ w' = W.alloc (.cells #[.map q] 65) := AnyZ.keys_in Try.keysA Fence.wide 5 trivial rfl q W

set_option maxHeartbeats 1000000 in
theorem sorted_nil (w : World) :
    CallsIn Fence.wide 5 Try.prog 30 #[.func (.func 40) #[] #[.pointer (some ⟨w.heap.size, 0, none⟩)]] (w.alloc (.cells #[.map none] 65)) fun e w' => e = .returned (.slice none 0 0) ∧ Below w.heap.size w w' := by
  have hseq : SeqGives Fence.wide 2 Try.prog 40 #[.pointer (some ⟨w.heap.size, 0, none⟩)] encStr (fun ss : List (List UInt8) => ss = []) 0 (w.alloc (.cells #[.map none] 65)) :=
    AnyZ.keys_gives_nil (ρ := Try.keysA_ren) { Try.keysA with } Fence.wide _ trivial rfl w.heap.size _ (by simp) (by simp)
  have cS := AnyZ.sorted_in Try.sortedA Fence.wide 5 trivial trivial trivial trivial rfl (by omega) (Try.sortsA _) (enters_of Try.func39 (by kernel_rfl) rfl) 40 #[.pointer (some ⟨w.heap.size, 0, none⟩)] trivial (enters_of Try.func40 (by kernel_rfl) rfl) _ 0 (Nat.zero_le _) (by omega) _ hseq
  change CallsIn _ _ Try.prog 30 _ _ _ at cS
  refine cS.mono ?_
  rintro e w' ⟨v, ss, rfl, hS, hrow, hnil, hb⟩
  rw [hnil.2 hS]
  exact ⟨rfl, ((Below.refl _ w).alloc (Nat.le_refl _) _).trans (hb.mono (by simp))⟩

set_option maxHeartbeats 1000000 in
theorem Names_nil (w : World) : Calls Try.prog 15 #[.pointer none] w fun e w' => e = .returned (.slice none 0 0) ∧ Below w.heap.size w w' := by
  refine (callsIn_wide (n := 6)).1 ?_
  have cN : CallsIn Fence.wide 5 Try.prog 23 #[.pointer none] w fun e w' => e = .returned (.agg (stV nilS none none)) ∧ w' = w.alloc (.cells (stV nilS none none) 68) := callsIn_wide.2 (now_nil w)
  have CN := hide cN
  clear cN
  have hfK : Fence.wide.fn 31 := trivial
  have hfS : Fence.wide.fn 30 := trivial
  have hfN : Fence.wide.fn 23 := trivial
  have f1 := field1 none 0 0 none none
  have HB : Hid (∀ w1, w1 = w.alloc (.cells (stV nilS none none) 68) → Below w.heap.size w w1) := hide (fun w1 e => by rw [e]; exact (Below.refl _ _).alloc (Nat.le_refl _) _)
  refine callsIn_of_wp Try.func15 rfl trivial ?_ rfl
  simp only [Try.ntmps15, List.size_toArray, List.length_cons, List.length_nil, Nat.reduceAdd, Nat.reduceSub, Array.replicate_succ, Array.replicate_zero, List.push_toArray, List.append_toArray, List.nil_append, List.cons_append]
  gi_wp2_with (first
    | (gi_at_call 23; refine (unhide CN).mono ?_; rintro e w1 ⟨rfl, hw1⟩; have B1 := hide (unhide HB w1 hw1); clear hw1)
    | (gi_at_call 31; refine (keys_go _ _).mono ?_; rintro e w' ⟨rfl, rfl⟩)
    | (gi_at_call 30; refine (sorted_nil _).mono ?_; rintro e w2 ⟨rfl, hb⟩))
  go_ret
  exact ⟨rfl, (unhide B1).trans (hb.mono (unhide B1).size)⟩
end Go.Proofs.Ytgpijeaehkabdaa
