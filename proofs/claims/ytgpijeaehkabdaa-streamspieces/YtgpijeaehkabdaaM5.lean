/-
  DERIVED. The numbers of this dump for the library's slices.Sorted(maps.Keys(m)), written out by the guide's own tool.
-/
import Derived.Shelf.SlIter.Nil
import Derived.Shelf.SortM.Plain
import Derived.Shelf.SortM.SortNone
import Derived.Ground.GgzProg
import Derived.Ground.SlgmProg
import Derived.Test.YtgpijeaehkabdaaProg
import Derived.Test.YtgpijeaehkabdaaM3
import Derived.Test.YtgpijeaehkabdaaM4
namespace Go.Proofs.Ytgpijeaehkabdaa
open Go.Shelf
def Try.keysA_ren : Go.Shelf.Ren := ⟨fun | 7 => 31 | 10 => 40 | n => n, fun | 23 => 65 | 26 => 9 | 3 => 79 | 28 => 77 | 0 => 0 | 27 => 76 | 33 => 90 | 4 => 4 | n => n, fun | n => n⟩
theorem Try.keysA : Go.Proofs.SlLaysZ.n7 Try.prog Try.keysA_ren := {
  mixed := by kernel_rfl
  f7 := ⟨Try.f31.name, by decide, Try.func31.trans (congrArg some (by kernel_rfl))⟩
  f10 := ⟨Try.f40.name, by decide, Try.func40.trans (congrArg some (by kernel_rfl))⟩
  t0 := Try.underlying0
  a0 := Try.isAgg0
  z0 := Try.sizeOf0
  v0 := Try.zeroValue0
  t4 := Try.underlying4
  a4 := Try.isAgg4
  z4 := Try.sizeOf4
  v4 := Try.zeroValue4
  t23 := Try.underlying65
  a23 := Try.isAgg65
  z23 := Try.sizeOf65
  v23 := Try.zeroValue65
  t26 := Try.underlying9
  a26 := Try.isAgg9
  z26 := Try.sizeOf9
  v26 := Try.zeroValue9
  t27 := Try.underlying76
  a27 := Try.isAgg76
  z27 := Try.sizeOf76
  v27 := Try.zeroValue76
  t28 := Try.underlying77
  a28 := Try.isAgg77
  z28 := Try.sizeOf77
  v28 := Try.zeroValue77
  t33 := Try.underlying90
  a33 := Try.isAgg90
  z33 := Try.sizeOf90
  v33 := Try.zeroValue90 }
def Try.sortedA_ren : Go.Shelf.Ren := ⟨fun | 6 => 30 | 8 => 38 | 9 => 39 | 11 => 43 | 13 => 45 | 12 => 44 | 23 => 57 | 24 => 58 | 14 => 48 | 15 => 49 | 16 => 50 | 17 => 51 | 18 => 52 | 19 => 53 | 20 => 54 | 21 => 55 | 22 => 56 | 25 => 62 | 26 => 63 | 27 => 64 | 28 => 65 | 29 => 66 | 30 => 67 | 31 => 68 | n => n, fun | 26 => 9 | 28 => 77 | 24 => 46 | 0 => 0 | 3 => 3 | 37 => 98 | 48 => 110 | 50 => 112 | 4 => 4 | 40 => 103 | 39 => 102 | 45 => 107 | 5 => 5 | 9 => 9 | 51 => 115 | 55 => 119 | 57 => 121 | 58 => 122 | 33 => 90 | n => n, fun | n => n⟩
theorem Try.sortedA : Go.Proofs.SlLaysZ.n6 Try.prog Try.sortedA_ren := {
  mixed := by kernel_rfl
  f6 := ⟨Try.f30.name, by decide, Try.func30.trans (congrArg some (by kernel_rfl))⟩
  f8 := ⟨Try.f38.name, by decide, Try.func38.trans (congrArg some (by kernel_rfl))⟩
  f11 := ⟨Try.f43.name, by decide, Try.func43.trans (congrArg some (by kernel_rfl))⟩
  t0 := Try.underlying0
  a0 := Try.isAgg0
  z0 := Try.sizeOf0
  v0 := Try.zeroValue0
  t24 := Try.underlying46
  a24 := Try.isAgg46
  z24 := Try.sizeOf46
  v24 := Try.zeroValue46
  t26 := Try.underlying9
  a26 := Try.isAgg9
  z26 := Try.sizeOf9
  v26 := Try.zeroValue9
  t28 := Try.underlying77
  a28 := Try.isAgg77
  z28 := Try.sizeOf77
  v28 := Try.zeroValue77
  i26 := by kernel_rfl }
def Try.sortA_ren : Go.Shelf.Ren := ⟨fun | 6 => 39 | 8 => 45 | 9 => 44 | 19 => 57 | 20 => 58 | 21 => 48 | 22 => 49 | 23 => 50 | 24 => 51 | 25 => 52 | 26 => 53 | 27 => 54 | 28 => 55 | 29 => 56 | 36 => 62 | 31 => 63 | 32 => 64 | 37 => 65 | 38 => 66 | 39 => 67 | 41 => 68 | n => n, fun | 27 => 46 | 29 => 9 | 3 => 3 | 32 => 98 | 26 => 46 | 0 => 0 | 44 => 110 | 46 => 112 | 4 => 4 | 36 => 103 | 35 => 102 | 41 => 107 | 5 => 5 | 9 => 9 | 53 => 115 | 57 => 119 | 63 => 121 | 64 => 122 | n => n, fun | n => n⟩
theorem Try.sortA : Go.Proofs.SlLaysM.n6 Try.prog Try.sortA_ren := {
  mixed := by kernel_rfl
  f6 := ⟨Try.f39.name, by decide, Try.func39.trans (congrArg some (by kernel_rfl))⟩
  f8 := Try.func45.trans (congrArg some (by kernel_rfl))
  f9 := ⟨Try.f44.name, by decide, Try.func44.trans (congrArg some (by kernel_rfl))⟩
  f19 := Try.func57.trans (congrArg some (by kernel_rfl))
  f20 := Try.func58.trans (congrArg some (by kernel_rfl))
  f21 := ⟨Try.f48.name, by decide, Try.func48.trans (congrArg some (by kernel_rfl))⟩
  f22 := ⟨Try.f49.name, by decide, Try.func49.trans (congrArg some (by kernel_rfl))⟩
  f23 := ⟨Try.f50.name, by decide, Try.func50.trans (congrArg some (by kernel_rfl))⟩
  f24 := ⟨Try.f51.name, by decide, Try.func51.trans (congrArg some (by kernel_rfl))⟩
  f25 := ⟨Try.f52.name, by decide, Try.func52.trans (congrArg some (by kernel_rfl))⟩
  f26 := ⟨Try.f53.name, by decide, Try.func53.trans (congrArg some (by kernel_rfl))⟩
  f27 := ⟨Try.f54.name, by decide, Try.func54.trans (congrArg some (by kernel_rfl))⟩
  f28 := ⟨Try.f55.name, by decide, Try.func55.trans (congrArg some (by kernel_rfl))⟩
  f29 := ⟨Try.f56.name, by decide, Try.func56.trans (congrArg some (by kernel_rfl))⟩
  f31 := Try.func63.trans (congrArg some (by kernel_rfl))
  f32 := Try.func64.trans (congrArg some (by kernel_rfl))
  f36 := ⟨Try.f62.name, by decide, Try.func62.trans (congrArg some (by kernel_rfl))⟩
  f37 := ⟨Try.f65.name, by decide, Try.func65.trans (congrArg some (by kernel_rfl))⟩
  f38 := ⟨Try.f66.name, by decide, Try.func66.trans (congrArg some (by kernel_rfl))⟩
  f39 := ⟨Try.f67.name, by decide, Try.func67.trans (congrArg some (by kernel_rfl))⟩
  f41 := ⟨Try.f68.name, by decide, Try.func68.trans (congrArg some (by kernel_rfl))⟩
  t0 := Try.underlying0
  a0 := Try.isAgg0
  z0 := Try.sizeOf0
  v0 := Try.zeroValue0
  t3 := Try.underlying3
  a3 := Try.isAgg3
  z3 := Try.sizeOf3
  v3 := Try.zeroValue3
  t4 := Try.underlying4
  a4 := Try.isAgg4
  z4 := Try.sizeOf4
  v4 := Try.zeroValue4
  t5 := Try.underlying5
  a5 := Try.isAgg5
  z5 := Try.sizeOf5
  v5 := Try.zeroValue5
  t9 := Try.underlying9
  a9 := Try.isAgg9
  z9 := Try.sizeOf9
  v9 := Try.zeroValue9
  t26 := Try.underlying46
  a26 := Try.isAgg46
  z26 := Try.sizeOf46
  v26 := Try.zeroValue46
  t27 := Try.underlying46
  a27 := Try.isAgg46
  z27 := Try.sizeOf46
  v27 := Try.zeroValue46
  t29 := Try.underlying9
  a29 := Try.isAgg9
  z29 := Try.sizeOf9
  v29 := Try.zeroValue9
  t32 := Try.underlying98
  a32 := Try.isAgg98
  z32 := Try.sizeOf98
  v32 := Try.zeroValue98
  t35 := Try.underlying102
  a35 := Try.isAgg102
  z35 := Try.sizeOf102
  v35 := Try.zeroValue102
  t36 := Try.underlying103
  a36 := Try.isAgg103
  z36 := Try.sizeOf103
  v36 := Try.zeroValue103
  t41 := Try.underlying107
  a41 := Try.isAgg107
  z41 := Try.sizeOf107
  v41 := Try.zeroValue107
  t44 := Try.underlying110
  a44 := Try.isAgg110
  z44 := Try.sizeOf110
  v44 := Try.zeroValue110
  t46 := Try.underlying112
  a46 := Try.isAgg112
  z46 := Try.sizeOf112
  v46 := Try.zeroValue112
  t53 := Try.underlying115
  a53 := Try.isAgg115
  z53 := Try.sizeOf115
  v53 := Try.zeroValue115
  t57 := Try.underlying119
  a57 := Try.isAgg119
  z57 := Try.sizeOf119
  v57 := Try.zeroValue119
  t63 := Try.underlying121
  a63 := Try.isAgg121
  z63 := Try.sizeOf121
  v63 := Try.zeroValue121
  t64 := Try.underlying122
  a64 := Try.isAgg122
  z64 := Try.sizeOf122
  v64 := Try.zeroValue122 }
end Go.Proofs.Ytgpijeaehkabdaa

/-
  DERIVED. Names: the streams' names, rising: the library's maps.Keys, slices.Sorted, slices.Sort by the shelf's contracts.
-/
namespace Go.Proofs.Ytgpijeaehkabdaa
open Go.RowKit Go.Maps Go.Sort Go.Shelf
set_option linter.unusedVariables false

/-- slices.Sort's two contracts here, at the fence that asks nothing. -/
theorem Try.sortsA (m : Nat) : AnyZ.SortsIn Try.prog Try.sortedA_ren Fence.wide m :=
  ⟨fun blk off cap ss W hH hblk hsz => callsIn_wide.2 (AnyM.slices_Sort_string Try.sortA blk off cap ss W hH hblk hsz),
   fun p cap W => callsIn_wide.2 (AnyM.slices_Sort_string_none Try.sortA p cap W)⟩

theorem keys_go (q : Option Nat) (W : World) : CallsIn Fence.wide 5 Try.prog 31 #[.map q] W fun e w' => e = .returned (.func (.func 40) #[] #[.pointer (some ⟨W.heap.size, 0, none⟩)]) ∧ w' = W.alloc (.cells #[.map q] 65) := AnyZ.keys_in Try.keysA Fence.wide 5 trivial rfl q W

set_option maxHeartbeats 1000000 in
theorem sorted_nil (w : World) :
    CallsIn Fence.wide 5 Try.prog 30 #[.func (.func 40) #[] #[.pointer (some ⟨w.heap.size, 0, none⟩)]] (w.alloc (.cells #[.map none] 65)) fun e w' => e = .returned (.slice none 0 0) ∧ Below w.heap.size w w' := by
  have hseq : SeqGives Fence.wide 2 Try.prog 40 #[.pointer (some ⟨w.heap.size, 0, none⟩)] encStr (fun ss : List (List UInt8) => ss = []) 0 (w.alloc (.cells #[.map none] 65)) :=
    AnyZ.keys_gives_nil (ρ := Try.keysA_ren) { Try.keysA with } Fence.wide _ trivial rfl w.heap.size _ (by simp) (by simp)
  have cS := AnyZ.sorted_in Try.sortedA Fence.wide 5 trivial trivial trivial trivial rfl (by omega) (Try.sortsA _) (enters_of Try.func39 (by kernel_rfl) rfl) 40 #[.pointer (some ⟨w.heap.size, 0, none⟩)] trivial (enters_of Try.func40 (by kernel_rfl) rfl) _ 0 (Nat.zero_le _) (by omega) _ hseq
  change CallsIn _ _ Try.prog 30 _ _ _ at cS
  refine cS.mono ?_
  rintro e w' ⟨v, ss, rfl, hS, hrow, hnil, hb⟩
  rw [hnil.2 hS]
  exact ⟨rfl, ((Below.refl _ w).alloc (Nat.le_refl _) _).trans (hb.mono (by simp))⟩

set_option maxHeartbeats 1000000 in
theorem Names_nil (w : World) : Calls Try.prog 15 #[.pointer none] w fun e w' => e = .returned (.slice none 0 0) ∧ Below w.heap.size w w' := by
  refine (callsIn_wide (n := 6)).1 ?_
  have cN : CallsIn Fence.wide 5 Try.prog 23 #[.pointer none] w fun e w' => e = .returned (.agg (stV nilS none none)) ∧ w' = w.alloc (.cells (stV nilS none none) 68) := callsIn_wide.2 (now_nil w)
  have CN := hide cN
  clear cN
  have hfK : Fence.wide.fn 31 := trivial
  have hfS : Fence.wide.fn 30 := trivial
  have hfN : Fence.wide.fn 23 := trivial
  have f1 := field1 none 0 0 none none
  have HB : Hid (∀ w1, w1 = w.alloc (.cells (stV nilS none none) 68) → Below w.heap.size w w1) := hide (fun w1 e => by rw [e]; exact (Below.refl _ _).alloc (Nat.le_refl _) _)
  refine callsIn_of_wp Try.func15 rfl trivial ?_ rfl
  simp only [Try.ntmps15, List.size_toArray, List.length_cons, List.length_nil, Nat.reduceAdd, Nat.reduceSub, Array.replicate_succ, Array.replicate_zero, List.push_toArray, List.append_toArray, List.nil_append, List.cons_append]
  gi_wp2_with (first
    | (gi_at_call 23; refine (unhide CN).mono ?_; rintro e w1 ⟨rfl, hw1⟩; have B1 := hide (unhide HB w1 hw1); clear hw1)
    | (gi_at_call 31; refine (keys_go _ _).mono ?_; rintro e w' ⟨rfl, rfl⟩)
    | (gi_at_call 30; refine (sorted_nil _).mono ?_; rintro e w2 ⟨rfl, hb⟩))
  go_ret
  exact ⟨rfl, (unhide B1).trans (hb.mono (unhide B1).size)⟩
end Go.Proofs.Ytgpijeaehkabdaa

/-
  DERIVED. Names of an index: its streams' names, rising, by the shelf's contracts.
-/
namespace Go.Proofs.Ytgpijeaehkabdaa
open Go.RowKit Go.Maps Go.Sort Go.Shelf
set_option linter.unusedVariables false

set_option maxHeartbeats 1000000 in
theorem sorted_own (mb nn : Nat) (D0 : DataW Value) (w : World) (hown : w.ownsMap Try.prog 9 rawE mb nn D0) (hmax : Maps.size D0 ≤ maxLen) (hbytes : Maps.size D0 * 16 ≤ 140737488355328) :
    CallsIn Fence.wide 5 Try.prog 30 #[.func (.func 40) #[] #[.pointer (some ⟨w.heap.size, 0, none⟩)]] (w.alloc (.cells #[.map (some mb)] 65)) fun e w' => ∃ (v : Value) (ss : List (List UInt8)), e = .returned v ∧ ss.Perm (strKeys D0) ∧ w'.ownsRow 0 9 1 v ss.length ((ss.mergeSort (fun x y => decide (x ≤ y))).map encStr) ∧ (v = .slice none 0 0 ↔ ss = []) ∧ (∀ q, v.ownBlock = some q → w.heap.size ≤ q) ∧ Below w.heap.size w w' := by
  have hbl := hown.lt
  have hseq : SeqGives Fence.wide 2 Try.prog 40 #[.pointer (some ⟨w.heap.size, 0, none⟩)] encStr (fun ss : List (List UInt8) => ss.Perm (strKeys D0)) (Maps.size D0) (w.alloc (.cells #[.map (some mb)] 65)) :=
    AnyZ.keys_gives (ρ := Try.keysA_ren) { Try.keysA with } Fence.wide _ trivial rfl (by omega) w.heap.size mb nn D0 (R := rawE) _ (by simp) (by simp) (by
      obtain ⟨es, clock, hb, Ft, hs, hD⟩ := hown
      exact ⟨es, clock, (Below.heap_alloc _ _ mb hbl).trans hb, Ft, hs, hD⟩)
  have cS := AnyZ.sorted_in Try.sortedA Fence.wide 5 trivial trivial trivial trivial rfl (by omega) (Try.sortsA _) (enters_of Try.func39 (by kernel_rfl) rfl) 40 #[.pointer (some ⟨w.heap.size, 0, none⟩)] trivial (enters_of Try.func40 (by kernel_rfl) rfl) _ _ hmax hbytes _ hseq
  change CallsIn _ _ Try.prog 30 _ _ _ at cS
  refine cS.mono ?_
  rintro e w' ⟨v, ss, rfl, hS, hrow, hnil, hb⟩
  have hz : w.heap.size ≤ (w.alloc (.cells #[.map (some mb)] 65)).heap.size := by simp
  refine ⟨v, ss, rfl, hS, ?_, hnil, fun q hq => Nat.le_trans hz (hrow.lt q hq).1, ((Below.refl _ w).alloc (Nat.le_refl _) _).trans (hb.mono hz)⟩
  obtain ⟨h1, h2⟩ := hrow
  refine ⟨h1, ?_⟩
  rcases h2 with h2 | ⟨g, cap, cur, e, _, r⟩
  · exact .inl h2
  · exact .inr ⟨g, cap, cur, e, Nat.zero_le _, r⟩

theorem strKeys_mem {I : Ix} {w : World} {mp N : Nat} {D : DataW Value} (hown : w.ownsMap Try.prog 9 rawE mp N D) (h : ∀ kl, Maps.has D kl = true ↔ ∃ s, plc I.all s ≠ [] ∧ kl = lit s) (s : List UInt8) : s ∈ strKeys D ↔ plc I.all s ≠ [] := by
  obtain ⟨es, rfl, hko⟩ := hown.keysOf
  show s ∈ es.map (fun p => strOf p.1) ↔ _
  constructor
  · intro hs
    obtain ⟨p, hp, rfl⟩ := List.mem_map.1 hs
    obtain ⟨v, hv⟩ := hko p hp
    obtain ⟨y, _, hy, hl⟩ := Maps.keyOf_str Try.underlying9 hv
    obtain ⟨s', h1, h2⟩ := (h p.1).1 (by simp only [Maps.has, List.any_eq_true]; exact ⟨p, hp, by rw [hy]; simp [Lit.sameKey]⟩)
    rw [h2]
    exact h1
  · intro hs
    have := (h (lit s)).2 ⟨s, hs, rfl⟩
    simp only [Maps.has, List.any_eq_true] at this
    obtain ⟨p, hp, he⟩ := this
    refine List.mem_map.2 ⟨p, hp, ?_⟩
    obtain ⟨v, hv⟩ := hko p hp
    obtain ⟨y, _, hy, hl⟩ := Maps.keyOf_str Try.underlying9 hv
    rw [hy] at he ⊢
    simpa [Lit.sameKey, lit, strOf] using he

set_option maxHeartbeats 1000000 in
theorem Names_own {w : World} {F : Nat → Prop} {x N : Nat} {I : Ix} (h : IxAt w F x N I) (hN : N ≤ 100000) :
    Calls Try.prog 15 #[.pointer (some ⟨x, 0, none⟩)] w fun e w' => ∃ (v : Value) (ss : List (List UInt8)), e = .returned v ∧ (∀ s, s ∈ ss ↔ plc I.all s ≠ []) ∧ (∀ s ∈ ss, s.length ≤ maxLen) ∧ w'.ownsRow 0 9 1 v ss.length ((ss.mergeSort (fun x y => decide (x ≤ y))).map encStr) ∧ (v = .slice none 0 0 ↔ ss = []) ∧ (∀ q, v.ownBlock = some q → w.heap.size ≤ q) ∧ Below w.heap.size w w' := by
  obtain ⟨st, hx, _, mp, mk, xs, av, pf, D1, D2, hi⟩ := h
  have hz : Maps.size D1 ≤ 100000 := Nat.le_trans hi.mpo.size_le hN
  obtain ⟨a, n, hav⟩ := hi.avs
  subst hav
  refine (callsIn_wide (n := 6)).1 ?_
  have cN : CallsIn Fence.wide 5 Try.prog 23 #[.pointer (some ⟨x, 0, none⟩)] w fun e w' => e = .returned (.agg (stV (.slice a xs.length n) (some mp) (some mk))) ∧ w' = w.alloc (.cells (stV (.slice a xs.length n) (some mp) (some mk)) 68) := callsIn_wide.2 (now_go hx hi.stc ⟨a, _, n, rfl⟩)
  have CN := hide cN
  have hfK : Fence.wide.fn 31 := trivial
  have hfS : Fence.wide.fn 30 := trivial
  have hfN : Fence.wide.fn 23 := trivial
  have f1 := field1 a xs.length n (some mp) (some mk)
  have HB : Hid (∀ w1, w1 = w.alloc (.cells (stV (.slice a xs.length n) (some mp) (some mk)) 68) → Below w.heap.size w w1 ∧ CallsIn Fence.wide 5 Try.prog 30 #[.func (.func 40) #[] #[.pointer (some ⟨w1.heap.size, 0, none⟩)]] (w1.alloc (.cells #[.map (some mp)] 65)) fun e w' => ∃ (v : Value) (ss : List (List UInt8)), e = .returned v ∧ ss.Perm (strKeys D1) ∧ w'.ownsRow 0 9 1 v ss.length ((ss.mergeSort (fun x y => decide (x ≤ y))).map encStr) ∧ (v = .slice none 0 0 ↔ ss = []) ∧ (∀ q, v.ownBlock = some q → w1.heap.size ≤ q) ∧ Below w1.heap.size w1 w') := hide (fun w1 e => by
    have hb : Below w.heap.size w w1 := by rw [e]; exact (Below.refl _ _).alloc (Nat.le_refl _) _
    exact ⟨hb, sorted_own mp N D1 w1 (ownsMap_frame hi.mpo (hb.block mp hi.mpo.lt)) (by unfold maxLen; omega) (by omega)⟩)
  have HMP : Hid (∀ kl, Maps.has D1 kl = true ↔ ∃ s, plc I.all s ≠ [] ∧ kl = lit s) := hide hi.mph
  have HKS : Hid (∀ s, s ∈ strKeys D1 ↔ plc I.all s ≠ []) := hide (strKeys_mem hi.mpo hi.mph)
  have HKL : Hid (∀ s ∈ strKeys D1, s.length ≤ maxLen) := hide (strKeys_le hi.mpo Try.underlying9)
  clear cN hi hx hz HMP
  refine callsIn_of_wp Try.func15 rfl trivial ?_ rfl
  simp only [Try.ntmps15, List.size_toArray, List.length_cons, List.length_nil, Nat.reduceAdd, Nat.reduceSub, Array.replicate_succ, Array.replicate_zero, List.push_toArray, List.append_toArray, List.nil_append, List.cons_append]
  gi_wp2_with (first
    | (gi_at_call 23; refine (unhide CN).mono ?_; rintro e w1 ⟨rfl, hw1⟩; have B1 := hide (unhide HB w1 hw1); clear hw1)
    | (gi_at_call 31; refine (keys_go _ _).mono ?_; rintro e w' ⟨rfl, rfl⟩)
    | (gi_at_call 30; refine (unhide B1).2.mono ?_; rintro e w2 ⟨v, ss, rfl, hS, hrow, hnil, hq, hb⟩))
  go_ret
  refine ⟨v, ss, rfl, fun s => ?_, fun s hs => unhide HKL s (hS.mem_iff.1 hs), hrow, hnil, fun q hq' => Nat.le_trans (unhide B1).1.size (hq q hq'), (unhide B1).1.trans (hb.mono (unhide B1).1.size)⟩
  rw [hS.mem_iff]
  exact unhide HKS s
end Go.Proofs.Ytgpijeaehkabdaa

/-
  DERIVED. A row of entries of one's own, and append(a, l...) to it.
-/
namespace Go.Proofs.Ytgpijeaehkabdaa
open Go.RowKit Go.Maps
set_option linter.unusedVariables false

def zc (z : Eno) : List Value := [natV z.pos, sv z.e.s, natV z.e.num, sv z.e.e.type, .int .i64 z.e.e.ver, .slice (some ⟨z.fb, 0, none⟩) z.e.e.fields.length z.e.e.fields.length]
def zcells (zs : List Eno) : List Value := zs.flatMap zc
theorem zcells_len : ∀ zs : List Eno, (zcells zs).length = zs.length * 6
  | [] => rfl
  | z :: r => by
    show (zc z ++ zcells r).length = _
    rw [List.length_append, zcells_len r]
    show 6 + r.length * 6 = (r.length + 1) * 6
    omega
theorem zcells_app (a b : List Eno) : zcells (a ++ b) = zcells a ++ zcells b := by unfold zcells; rw [List.flatMap_append]
theorem zcells_at : ∀ (zs : List Eno) (i j : Nat) (h : i < zs.length), j < 6 → (zcells zs)[i * 6 + j]? = (zc zs[i])[j]?
  | [], _, _, h, _ => by simp at h
  | z :: r, 0, j, h, hj => by
    show (zc z ++ zcells r)[0 * 6 + j]? = _
    rw [List.getElem?_append_left (by show 0 * 6 + j < 6; omega)]
    simp
  | z :: r, i + 1, j, h, hj => by
    show (zc z ++ zcells r)[(i + 1) * 6 + j]? = _
    rw [List.getElem?_append_right (by show 6 ≤ _; omega), show (zc z).length = 6 from rfl, show (i + 1) * 6 + j - 6 = i * 6 + j by omega, zcells_at r i j (by simpa using h) hj]
    rfl
theorem zcells_one (zs : List Eno) : ∀ u ∈ zcells zs, u.oneCell' = true := by
  intro u hu
  unfold zcells at hu
  obtain ⟨z, _, hz⟩ := List.mem_flatMap.1 hu
  simp only [zc, List.mem_cons, List.not_mem_nil, or_false] at hz
  rcases hz with rfl | rfl | rfl | rfl | rfl | rfl <;> rfl
theorem EnBlk.cells {w : World} {q n : Nat} {zs : List Eno} (h : EnBlk w q n zs) : ∀ j u, (zcells zs)[j]? = some u → w.cell? ((⟨q, 0, none⟩ : Addr).add j) = some u := by
  intro j u hu
  obtain ⟨⟨cs, h1, h2, h3, h4⟩, _⟩ := h
  have hj : j < zs.length * 6 := by
    rw [← zcells_len]
    rcases Nat.lt_or_ge j (zcells zs).length with h' | h'
    · exact h'
    · rw [List.getElem?_eq_none h'] at hu; cases hu
  have hadd : (⟨q, 0, none⟩ : Addr).add j = ⟨q, j, none⟩ := by unfold Addr.add; split <;> simp_all
  rw [hadd, cell_of_row w q j cs _ _ h1]
  have hi : j / 6 < zs.length := by omega
  have e : j = j / 6 * 6 + j % 6 := by omega
  rw [e, zcells_at zs (j / 6) (j % 6) hi (by omega)] at hu
  rw [e]
  obtain ⟨a0, a1, a2, a3, a4, a5⟩ := h4 (j / 6) hi
  have hm : j % 6 < 6 := by omega
  generalize j % 6 = m at hu hm
  match m, hm with
  | 0, _ => rw [Nat.add_zero, a0]; exact hu
  | 1, _ => rw [a1]; exact hu
  | 2, _ => rw [a2]; exact hu
  | 3, _ => rw [a3]; exact hu
  | 4, _ => rw [a4]; exact hu
  | 5, _ => rw [a5]; exact hu

/-- A slice of entries of one's own. -/
structure EnOwn (w : World) (v : Value) (zs : List Eno) : Prop where
  row : w.ownsRow 0 45 6 v zs.length (zcells zs)
  fds : ∀ z ∈ zs, FdBlk w z.fb z.e.e.fields.length z.e.e.fields ∧ z.e.e.fields.length ≤ 16
theorem EnOwn.nil (w : World) : EnOwn w (.slice none 0 0) [] := ⟨World.ownsRow_nil _ _ _ _, fun z hz => by simp at hz⟩
theorem EnOwn.frame {w w' : World} {v : Value} {zs : List Eno} (h : EnOwn w v zs) (hk : ∀ q, q < w.heap.size → (v.ownBlock = some q ∨ ∃ z ∈ zs, q = z.fb) → w'.heap[q]? = w.heap[q]?) : EnOwn w' v zs :=
  ⟨ownsRow_frame h.row fun q hq hl => hk q hl (.inl hq), fun z hz => ⟨(h.fds z hz).1.same (hk _ (h.fds z hz).1.lt (.inr ⟨z, hz, rfl⟩)), (h.fds z hz).2⟩⟩
theorem EnOwn.grown {w w' : World} {v : Value} {zs : List Eno} (h : EnOwn w v zs) (hb : Below w.heap.size w w') : EnOwn w' v zs := h.frame fun q hl _ => hb.block q hl
theorem EnOwn.enl {w : World} {v : Value} {zs : List Eno} (h : EnOwn w v zs) : EnL w v (zs.map fun z => (z.pos, z.e)) := by
  have hlen : (zs.map fun z => (z.pos, z.e)).length = zs.length := List.length_map ..
  rcases h.row.2 with ⟨e, h0⟩ | ⟨g, cap, cur, e, _, hg, h1, h2, _⟩
  · exact ⟨none, 0, by rw [e, hlen, h0], by rw [hlen]; omega, by omega, fun hz => absurd (hlen.trans h0) hz⟩
  · refine ⟨_, cap, by rw [e, hlen], by rw [hlen]; exact h1, by unfold maxLen at h2; omega, fun _ => ⟨g, 0, rfl, lt_of_block hg, fun i hi => ?_⟩⟩
    have hi' : i < zs.length := by rw [hlen] at hi; exact hi
    have he : (zs.map fun z => (z.pos, z.e))[i] = (zs[i].pos, zs[i].e) := by simp
    rw [Nat.zero_add, he]
    have hr := h.row
    rw [e] at hr
    have c : ∀ j, j < 6 → w.cell? ⟨g, i * 6 + j, none⟩ = (zc zs[i])[j]? := fun j hj => by rw [hr.cellAt (i * 6 + j) (by omega), zcells_at zs i j hi' hj]
    obtain ⟨q1, q2⟩ := h.fds zs[i] (List.getElem_mem hi')
    exact ⟨c 0 (by omega), c 1 (by omega), c 2 (by omega), c 3 (by omega), c 4 (by omega), _, _, _, c 5 (by omega), q1.fdl rfl (by omega)⟩

theorem wpList_append_ents {w : World} {ops : Array Oper} {rest : List Oper} {o : Oper} {a : Act} {Q : Exit → Act → World → Prop} (hgd : o.guard = none) (s x : Operand)
    (ho : o.op = .call { callee := .builtin .append, args := #[s, x], argTypes := #[37, 37] })
    (v : Value) (zs : List Eno) (hs : a.eval s = v) (hown : EnOwn w v zs) (q n : Nat) (zs' : List Eno) (hx : a.eval x = .slice (some ⟨q, 0, none⟩) n n) (hy : EnBlk w q n zs') (hn : zs'.length = n) (hlen : zs.length + n ≤ 1000000)
    (h : ∀ v' w', EnOwn w' v' (zs ++ zs') → w.grownBy w' v.ownBlock → (v'.ownBlock = v.ownBlock ∨ v'.ownBlock = some w.heap.size) → wpList Try.prog ops Q rest (a.put o.dst v') w') : wpList Try.prog ops Q (o :: rest) a w := by
  obtain ⟨i0, hi, hz0, hz1, hz2⟩ := info_parts infoEntry3
  subst hn
  refine wpList_append_own_at w hgd s x 37 ho 0 45 i0 _ 6 80 Try.underlying37 hi hz0 hz1 hz2 rfl (by decide) v zs.length (zcells zs) hs hown.row ⟨q, 0, none⟩ zs'.length zs'.length (zcells zs') hx (zcells_len zs') hy.cells (zcells_one zs') (by unfold maxLen; omega) (by omega) (Nat.zero_le _) ?_
  intro v' w' h1 h2 _ hat
  refine h v' w' ⟨by rw [List.length_append, zcells_app]; exact h1, fun z hz => ?_⟩ h2 hat
  have hfar : ∀ z' : Eno, FdBlk w z'.fb z'.e.e.fields.length z'.e.e.fields → w'.heap[z'.fb]? = w.heap[z'.fb]? := fun z' hf => h2.block _ hf.lt fun e => by
    obtain ⟨cur, hc⟩ := ownsRow_mark hown.row e.symm
    exact hf.kind hc (by decide) rfl
  rcases List.mem_append.1 hz with h' | h'
  · exact ⟨(hown.fds z h').1.same (hfar z (hown.fds z h').1), (hown.fds z h').2⟩
  · exact ⟨(hy.2 z h').1.same (hfar z (hy.2 z h').1), (hy.2 z h').2⟩

/-- Two rows of entries that grow beside each other. -/
structure PcSt (w3 W : World) (va vb : Value) (A B : List Eno) : Prop where
  oa : EnOwn W va A
  ob : EnOwn W vb B
  na : ∀ g, va.ownBlock = some g → w3.heap.size ≤ g ∧ vb.ownBlock ≠ some g
  nb : ∀ g, vb.ownBlock = some g → w3.heap.size ≤ g
  bel : Below w3.heap.size w3 W
theorem PcSt.grown {w3 W W' : World} {va vb : Value} {A B : List Eno} (h : PcSt w3 W va vb A B) (hb : Below W.heap.size W W') : PcSt w3 W' va vb A B :=
  ⟨h.oa.grown hb, h.ob.grown hb, h.na, h.nb, h.bel.trans (hb.mono h.bel.size)⟩
theorem EnOwn.other {W W' : World} {v u : Value} {A B : List Eno} (ho : EnOwn W u B) (hv : EnOwn W v A) (hg : W.grownBy W' v.ownBlock) (hne : ∀ g, v.ownBlock = some g → u.ownBlock ≠ some g) : EnOwn W' u B :=
  ho.frame fun q hl hq => hg.block q hl fun e => by
    rcases hq with hq | ⟨z, hz, rfl⟩
    · exact hne q e.symm hq
    · obtain ⟨cur, hc⟩ := ownsRow_mark hv.row e.symm
      exact (ho.fds z hz).1.kind hc (by decide) rfl
theorem PcSt.addA {w3 W W' : World} {va vb v' : Value} {A B Z : List Eno} (h : PcSt w3 W va vb A B) (h1 : EnOwn W' v' (A ++ Z)) (hg : W.grownBy W' va.ownBlock) (hat : v'.ownBlock = va.ownBlock ∨ v'.ownBlock = some W.heap.size) : PcSt w3 W' v' vb (A ++ Z) B := by
  refine ⟨h1, h.ob.other h.oa hg (fun g hg' => (h.na g hg').2), fun g hg' => ?_, h.nb, h.bel.trans ⟨hg.os, hg.tape, hg.output, hg.size, fun k hk => hg.block k (Nat.lt_of_lt_of_le hk h.bel.size) fun e => by have := (h.na k e.symm).1; omega⟩⟩
  rcases hat with hat | hat
  · exact h.na g (hat ▸ hg')
  · rw [hat] at hg'
    cases hg'
    exact ⟨h.bel.size, fun e => by have := (h.ob.row.lt _ e).2; omega⟩
theorem PcSt.addB {w3 W W' : World} {va vb v' : Value} {A B Z : List Eno} (h : PcSt w3 W va vb A B) (h1 : EnOwn W' v' (B ++ Z)) (hg : W.grownBy W' vb.ownBlock) (hat : v'.ownBlock = vb.ownBlock ∨ v'.ownBlock = some W.heap.size) : PcSt w3 W' va v' A (B ++ Z) := by
  refine ⟨h.oa.other h.ob hg (fun g hg' e => (h.na g e).2 hg'), h1, fun g hg' => ⟨(h.na g hg').1, fun e => ?_⟩, fun g hg' => ?_, h.bel.trans ⟨hg.os, hg.tape, hg.output, hg.size, fun k hk => hg.block k (Nat.lt_of_lt_of_le hk h.bel.size) fun e => by have := h.nb k e.symm; omega⟩⟩
  · rcases hat with hat | hat
    · exact (h.na g hg').2 (hat ▸ e)
    · rw [hat] at e
      cases e
      have := (h.oa.row.lt _ hg').2
      omega
  · rcases hat with hat | hat
    · exact h.nb g (hat ▸ hg')
    · rw [hat] at hg'
      cases hg'
      exact h.bel.size
theorem EnOwn.form {w : World} {v : Value} {zs : List Eno} (h : EnOwn w v zs) : ∃ a c, v = .slice a zs.length c := by
  rcases h.row.2 with ⟨e, h0⟩ | ⟨g, cap, cur, e, _⟩
  · exact ⟨none, 0, by rw [e, h0]⟩
  · exact ⟨_, _, e⟩
end Go.Proofs.Ytgpijeaehkabdaa
