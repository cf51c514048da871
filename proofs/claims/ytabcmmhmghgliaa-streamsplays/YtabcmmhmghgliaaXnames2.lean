/-
  DERIVED. Names: the streams' names, rising: the library's maps.Keys, slices.Sorted, slices.Sort by the shelf's contracts.
-/
import Derived.Test.YtabcmmhmghgliaaXnil
import Derived.Test.YtabcmmhmghgliaaLays
namespace Go.Proofs.Ytabcmmhmghgliaa
open Go.RowKit Go.Maps Go.Sort Go.Shelf
set_option linter.unusedVariables false

/-- slices.Sort's two contracts here, at the fence that asks nothing. -/
theorem Try.sortsA (m : Nat) : AnyZ.SortsIn Try.prog Try.sortedA_ren Fence.wide m :=
  ⟨fun blk off cap ss W hH hblk hsz => callsIn_wide.2 (AnyM.slices_Sort_string Try.sortA blk off cap ss W hH hblk hsz),
   fun p cap W => callsIn_wide.2 (AnyM.slices_Sort_string_none Try.sortA p cap W)⟩

theorem keys_go (q : Option Nat) (W : World) : CallsIn Fence.wide 5 Try.prog 46 #[.map q] W fun e w' => e = .returned (.func (.func 53) #[] #[.pointer (some ⟨W.heap.size, 0, none⟩)]) ∧ w' = W.alloc (.cells #[.map q] 65) := AnyZ.keys_in Try.keysA Fence.wide 5 trivial rfl q W

set_option maxHeartbeats 1000000 in
theorem sorted_nil (w : World) :
    CallsIn Fence.wide 5 Try.prog 45 #[.func (.func 53) #[] #[.pointer (some ⟨w.heap.size, 0, none⟩)]] (w.alloc (.cells #[.map none] 65)) fun e w' => e = .returned (.slice none 0 0) ∧ Below w.heap.size w w' := by
  have hseq : SeqGives Fence.wide 2 Try.prog 53 #[.pointer (some ⟨w.heap.size, 0, none⟩)] encStr (fun ss : List (List UInt8) => ss = []) 0 (w.alloc (.cells #[.map none] 65)) :=
    AnyZ.keys_gives_nil (ρ := Try.keysA_ren) { Try.keysA with } Fence.wide _ trivial rfl w.heap.size _ (by simp) (by simp)
  have cS := AnyZ.sorted_in Try.sortedA Fence.wide 5 trivial trivial trivial trivial rfl (by omega) (Try.sortsA _) (enters_of Try.func52 (by kernel_rfl) rfl) 53 #[.pointer (some ⟨w.heap.size, 0, none⟩)] trivial (enters_of Try.func53 (by kernel_rfl) rfl) _ 0 (Nat.zero_le _) (by omega) _ hseq
  change CallsIn _ _ Try.prog 45 _ _ _ at cS
  refine cS.mono ?_
  rintro e w' ⟨v, ss, rfl, hS, hrow, hnil, hb⟩
  rw [hnil.2 hS]
  exact ⟨rfl, ((Below.refl _ w).alloc (Nat.le_refl _) _).trans (hb.mono (by simp))⟩

set_option maxHeartbeats 1000000 in
theorem Names_nil (w : World) : Calls Try.prog 28 #[.pointer none] w fun e w' => e = .returned (.slice none 0 0) ∧ Below w.heap.size w w' := by
  refine (callsIn_wide (n := 6)).1 ?_
  have cN : CallsIn Fence.wide 5 Try.prog 25 #[.pointer none] w fun e w' => e = .returned (.agg (stV nilS none none)) ∧ w' = w.alloc (.cells (stV nilS none none) 68) := callsIn_wide.2 (now_nil w)
  have CN := hide cN
  clear cN
  have hfK : Fence.wide.fn 46 := trivial
  have hfS : Fence.wide.fn 45 := trivial
  have hfN : Fence.wide.fn 25 := trivial
  have f1 := field1 none 0 0 none none
  have HB : Hid (∀ w1, w1 = w.alloc (.cells (stV nilS none none) 68) → Below w.heap.size w w1) := hide (fun w1 e => by rw [e]; exact (Below.refl _ _).alloc (Nat.le_refl _) _)
  refine callsIn_of_wp Try.func28 rfl trivial ?_ rfl
  simp only [Try.ntmps28, List.size_toArray, List.length_cons, List.length_nil, Nat.reduceAdd, Nat.reduceSub, Array.replicate_succ, Array.replicate_zero, List.push_toArray, List.append_toArray, List.nil_append, List.cons_append]
  gi_wp2_with (first
    | (gi_at_call 25; refine (unhide CN).mono ?_; rintro e w1 ⟨rfl, hw1⟩; have B1 := hide (unhide HB w1 hw1); clear hw1)
    | (gi_at_call 46; refine (keys_go _ _).mono ?_; rintro e w' ⟨rfl, rfl⟩)
    | (gi_at_call 45; refine (sorted_nil _).mono ?_; rintro e w2 ⟨rfl, hb⟩))
  go_ret
  exact ⟨rfl, (unhide B1).trans (hb.mono (unhide B1).size)⟩
end Go.Proofs.Ytabcmmhmghgliaa

namespace Go.Proofs.Ytabcmmhmghgliaa
open Go.RowKit Go.Maps Go.Sort Go.Shelf
set_option linter.unusedVariables false

set_option maxHeartbeats 1000000 in
theorem sorted_own (mb nn : Nat) (D0 : DataW Value) (w : World) (hown : w.ownsMap Try.prog 9 rawE mb nn D0) (hmax : Maps.size D0 ≤ maxLen) (hbytes : Maps.size D0 * 16 ≤ 140737488355328) :
    CallsIn Fence.wide 5 Try.prog 45 #[.func (.func 53) #[] #[.pointer (some ⟨w.heap.size, 0, none⟩)]] (w.alloc (.cells #[.map (some mb)] 65)) fun e w' => ∃ (v : Value) (ss : List (List UInt8)), e = .returned v ∧ ss.Perm (strKeys D0) ∧ w'.ownsRow 0 9 1 v ss.length ((ss.mergeSort (fun x y => decide (x ≤ y))).map encStr) ∧ (v = .slice none 0 0 ↔ ss = []) ∧ (∀ q, v.ownBlock = some q → w.heap.size ≤ q) ∧ Below w.heap.size w w' := by
  have hbl := hown.lt
  have hseq : SeqGives Fence.wide 2 Try.prog 53 #[.pointer (some ⟨w.heap.size, 0, none⟩)] encStr (fun ss : List (List UInt8) => ss.Perm (strKeys D0)) (Maps.size D0) (w.alloc (.cells #[.map (some mb)] 65)) :=
    AnyZ.keys_gives (ρ := Try.keysA_ren) { Try.keysA with } Fence.wide _ trivial rfl (by omega) w.heap.size mb nn D0 (R := rawE) _ (by simp) (by simp) (by
      obtain ⟨es, clock, hb, Ft, hs, hD⟩ := hown
      exact ⟨es, clock, (Below.heap_alloc _ _ mb hbl).trans hb, Ft, hs, hD⟩)
  have cS := AnyZ.sorted_in Try.sortedA Fence.wide 5 trivial trivial trivial trivial rfl (by omega) (Try.sortsA _) (enters_of Try.func52 (by kernel_rfl) rfl) 53 #[.pointer (some ⟨w.heap.size, 0, none⟩)] trivial (enters_of Try.func53 (by kernel_rfl) rfl) _ _ hmax hbytes _ hseq
  change CallsIn _ _ Try.prog 45 _ _ _ at cS
  refine cS.mono ?_
  rintro e w' ⟨v, ss, rfl, hS, hrow, hnil, hb⟩
  have hz : w.heap.size ≤ (w.alloc (.cells #[.map (some mb)] 65)).heap.size := by simp
  refine ⟨v, ss, rfl, hS, ?_, hnil, fun q hq => Nat.le_trans hz (hrow.lt q hq).1, ((Below.refl _ w).alloc (Nat.le_refl _) _).trans (hb.mono hz)⟩
  obtain ⟨h1, h2⟩ := hrow
  refine ⟨h1, ?_⟩
  rcases h2 with h2 | ⟨g, cap, cur, e, _, r⟩
  · exact .inl h2
  · exact .inr ⟨g, cap, cur, e, Nat.zero_le _, r⟩

theorem strKeys_mem {I : Ix} {w : World} {mp N : Nat} {D : DataW Value} (hown : w.ownsMap Try.prog 9 rawE mp N D) (h : ∀ kl, Maps.has D kl = true ↔ ∃ s, plc I.all s ≠ [] ∧ kl = lit s) (s : List UInt8) : s ∈ strKeys D ↔ plc I.all s ≠ [] := by
  obtain ⟨es, rfl, hko⟩ := hown.keysOf
  show s ∈ es.map (fun p => strOf p.1) ↔ _
  constructor
  · intro hs
    obtain ⟨p, hp, rfl⟩ := List.mem_map.1 hs
    obtain ⟨v, hv⟩ := hko p hp
    obtain ⟨y, _, hy, hl⟩ := Maps.keyOf_str Try.underlying9 hv
    obtain ⟨s', h1, h2⟩ := (h p.1).1 (by simp only [Maps.has, List.any_eq_true]; exact ⟨p, hp, by rw [hy]; simp [Lit.sameKey]⟩)
    rw [h2]
    exact h1
  · intro hs
    have := (h (lit s)).2 ⟨s, hs, rfl⟩
    simp only [Maps.has, List.any_eq_true] at this
    obtain ⟨p, hp, he⟩ := this
    refine List.mem_map.2 ⟨p, hp, ?_⟩
    obtain ⟨v, hv⟩ := hko p hp
    obtain ⟨y, _, hy, hl⟩ := Maps.keyOf_str Try.underlying9 hv
    rw [hy] at he ⊢
    simpa [Lit.sameKey, lit, strOf] using he

set_option maxHeartbeats 1000000 in
theorem Names_own {w : World} {F : Nat → Prop} {x N : Nat} {I : Ix} (h : IxAt w F x N I) (hN : N ≤ 100000) :
    Calls Try.prog 28 #[.pointer (some ⟨x, 0, none⟩)] w fun e w' => ∃ (v : Value) (ss : List (List UInt8)), e = .returned v ∧ (∀ s, s ∈ ss ↔ plc I.all s ≠ []) ∧ (∀ s ∈ ss, s.length ≤ maxLen) ∧ w'.ownsRow 0 9 1 v ss.length ((ss.mergeSort (fun x y => decide (x ≤ y))).map encStr) ∧ (v = .slice none 0 0 ↔ ss = []) ∧ (∀ q, v.ownBlock = some q → w.heap.size ≤ q) ∧ Below w.heap.size w w' := by
  obtain ⟨st, hx, _, mp, mk, xs, av, pf, D1, D2, hi⟩ := h
  have hz : Maps.size D1 ≤ 100000 := Nat.le_trans hi.mpo.size_le hN
  obtain ⟨a, n, hav⟩ := hi.avs
  subst hav
  refine (callsIn_wide (n := 6)).1 ?_
  have cN : CallsIn Fence.wide 5 Try.prog 25 #[.pointer (some ⟨x, 0, none⟩)] w fun e w' => e = .returned (.agg (stV (.slice a xs.length n) (some mp) (some mk))) ∧ w' = w.alloc (.cells (stV (.slice a xs.length n) (some mp) (some mk)) 68) := callsIn_wide.2 (now_go hx hi.stc ⟨a, _, n, rfl⟩)
  have CN := hide cN
  have hfK : Fence.wide.fn 46 := trivial
  have hfS : Fence.wide.fn 45 := trivial
  have hfN : Fence.wide.fn 25 := trivial
  have f1 := field1 a xs.length n (some mp) (some mk)
  have HB : Hid (∀ w1, w1 = w.alloc (.cells (stV (.slice a xs.length n) (some mp) (some mk)) 68) → Below w.heap.size w w1 ∧ CallsIn Fence.wide 5 Try.prog 45 #[.func (.func 53) #[] #[.pointer (some ⟨w1.heap.size, 0, none⟩)]] (w1.alloc (.cells #[.map (some mp)] 65)) fun e w' => ∃ (v : Value) (ss : List (List UInt8)), e = .returned v ∧ ss.Perm (strKeys D1) ∧ w'.ownsRow 0 9 1 v ss.length ((ss.mergeSort (fun x y => decide (x ≤ y))).map encStr) ∧ (v = .slice none 0 0 ↔ ss = []) ∧ (∀ q, v.ownBlock = some q → w1.heap.size ≤ q) ∧ Below w1.heap.size w1 w') := hide (fun w1 e => by
    have hb : Below w.heap.size w w1 := by rw [e]; exact (Below.refl _ _).alloc (Nat.le_refl _) _
    exact ⟨hb, sorted_own mp N D1 w1 (ownsMap_frame hi.mpo (hb.block mp hi.mpo.lt)) (by unfold maxLen; omega) (by omega)⟩)
  have HMP : Hid (∀ kl, Maps.has D1 kl = true ↔ ∃ s, plc I.all s ≠ [] ∧ kl = lit s) := hide hi.mph
  have HKS : Hid (∀ s, s ∈ strKeys D1 ↔ plc I.all s ≠ []) := hide (strKeys_mem hi.mpo hi.mph)
  have HKL : Hid (∀ s ∈ strKeys D1, s.length ≤ maxLen) := hide (strKeys_le hi.mpo Try.underlying9)
  clear cN hi hx hz HMP
  refine callsIn_of_wp Try.func28 rfl trivial ?_ rfl
  simp only [Try.ntmps28, List.size_toArray, List.length_cons, List.length_nil, Nat.reduceAdd, Nat.reduceSub, Array.replicate_succ, Array.replicate_zero, List.push_toArray, List.append_toArray, List.nil_append, List.cons_append]
  gi_wp2_with (first
    | (gi_at_call 25; refine (unhide CN).mono ?_; rintro e w1 ⟨rfl, hw1⟩; have B1 := hide (unhide HB w1 hw1); clear hw1)
    | (gi_at_call 46; refine (keys_go _ _).mono ?_; rintro e w' ⟨rfl, rfl⟩)
    | (gi_at_call 45; refine (unhide B1).2.mono ?_; rintro e w2 ⟨v, ss, rfl, hS, hrow, hnil, hq, hb⟩))
  go_ret
  refine ⟨v, ss, rfl, fun s => ?_, fun s hs => unhide HKL s (hS.mem_iff.1 hs), hrow, hnil, fun q hq' => Nat.le_trans (unhide B1).1.size (hq q hq'), (unhide B1).1.trans (hb.mono (unhide B1).1.size)⟩
  rw [hS.mem_iff]
  exact unhide HKS s
end Go.Proofs.Ytabcmmhmghgliaa
