/-
  DERIVED. Pending: the blocks with writes, rising: the library's maps.Keys, slices.Sorted, slices.Sort by the shelf's contracts.
-/
import Derived.Test.YtnmmdefkmjlkaaaM2
import Derived.Maps.RangeWalk
import Derived.LoopN
import Derived.Test.YtnmmdefkmjlkaaaRows
import Derived.OpenShut
import Derived.ShutString
import Derived.SizedLaws
namespace Go.Proofs.Ytnmmdefkmjlkaaa
open Go.RowKit Go.Maps Go.Sort Go.Shelf
set_option linter.unusedVariables false

/-- slices.Sort's two contracts here, at the fence that asks nothing. -/
theorem Try.sortsA (m : Nat) : AnyZI.SortsIn Try.prog Try.sortedA_ren Fence.wide m :=
  ⟨fun blk off cap ss W hH hblk hsz => callsIn_wide.2 (AnyM.slices_Sort_int Try.sortA blk off cap ss W hH hblk hsz),
   fun p cap W => callsIn_wide.2 (AnyM.slices_Sort_int_none Try.sortA p cap W)⟩

set_option maxHeartbeats 1000000 in
theorem Pending_map {H : Type} (b mb nn : Nat) (D0 : DataW H) (R : Value → Option (DataW H × List MemPlace)) (w : World) (hc : w.cell? ⟨b, 1, none⟩ = some (.map (some mb))) (hown : w.ownsMap Try.prog 3 R mb nn D0) (hmax : Maps.size D0 ≤ maxLen) (hbytes : Maps.size D0 * 8 ≤ 140737488355328) :
    Calls Try.prog 21 #[.pointer (some ⟨b, 0, none⟩)] w fun e w' => ∃ (v : Value) (ss : List Int), e = .returned v ∧ ss.Perm (intKeys D0) ∧
      w'.ownsRow w.heap.size 3 1 v ss.length ((ss.mergeSort (fun x y => decide (x ≤ y))).map encZ) ∧ (v = .slice none 0 0 ↔ ss = []) ∧ Below w.heap.size w w' := by
  refine (callsIn_wide (n := 6)).1 ?_
  have hbl := hown.lt
  have hseq : SeqGives Fence.wide 2 Try.prog 43 #[.pointer (some ⟨w.heap.size, 0, none⟩)] encZ (fun ss => ss.Perm (intKeys D0)) (Maps.size D0) (w.alloc (.cells #[.map (some mb)] 44)) :=
    AnyZI.keys_gives (ρ := Try.keysA_ren) { Try.keysA with } Fence.wide _ trivial rfl (by omega) w.heap.size mb nn D0 _ (by simp) (by simp) (by
      obtain ⟨es, clock, hb, Ft, hs, hD⟩ := hown
      exact ⟨es, clock, (Below.heap_alloc _ _ mb hbl).trans hb, Ft, hs, hD⟩)
  have cK : ∀ q W, CallsIn Fence.wide 5 Try.prog 31 #[.map q] W fun e w' => e = .returned (.func (.func 43) #[] #[.pointer (some ⟨W.heap.size, 0, none⟩)]) ∧ w' = W.alloc (.cells #[.map q] 44) := fun q W => AnyZI.keys_in Try.keysA Fence.wide 5 trivial rfl q W
  have cS := AnyZI.sorted_in Try.sortedA Fence.wide 5 trivial trivial trivial trivial rfl (by omega) (Try.sortsA _) (enters_of Try.func42 (by kernel_rfl) rfl) 43 #[.pointer (some ⟨w.heap.size, 0, none⟩)] trivial (enters_of Try.func43 (by kernel_rfl) rfl) _ _ hmax hbytes _ hseq
  change CallsIn _ _ Try.prog 30 _ _ _ at cS
  have hfK : Fence.wide.fn 31 := trivial
  have hfS : Fence.wide.fn 30 := trivial
  refine callsIn_of_wp Try.func21 rfl trivial ?_ rfl
  simp only [Try.ntmps21, List.size_toArray, List.length_cons, List.length_nil, Nat.reduceAdd, Nat.reduceSub, Array.replicate_succ, Array.replicate_zero, List.push_toArray, List.append_toArray, List.nil_append, List.cons_append]
  gi_wp2_with (first
    | (gi_at_call 31; refine (cK _ _).mono ?_; rintro e w' ⟨rfl, rfl⟩)
    | (gi_at_call 30; refine cS.mono ?_; rintro e w' ⟨v, ss, rfl, hS, hrow, hnil, hb⟩))
  go_ret
  exact ⟨v, ss, rfl, hS, ownsRow_base_a hrow (by simp), hnil, ((Below.refl _ w).alloc (Nat.le_refl _) _).trans (hb.mono (by simp))⟩
end Go.Proofs.Ytnmmdefkmjlkaaa

/-
  DERIVED. A block stored into a row of blocks; a map cleared; which blocks have writes.
-/
namespace Go.Proofs.Ytnmmdefkmjlkaaa
open Go.RowKit Go.Maps Go.Sort Go.Shelf
open Go.ChangeMaps (setBlock)
set_option linter.unusedVariables false

theorem grown_setCells (g : Nat) : ∀ (vs : List Value) (o : Nat) (w : World), w.grownBy (w.setCells g o vs) (some g)
  | [], o, w => ⟨rfl, rfl, rfl, Nat.le_refl _, fun _ _ _ => rfl⟩
  | v :: r, o, w => by
    have h : w.grownBy (w.setCell ⟨g, o, none⟩ v) (some g) := ⟨rfl, rfl, rfl, by simp [World.setCell], fun k _ hk => heap_setCell_other _ _ _ _ (fun e => hk (by rw [e]))⟩
    exact h.trans (grown_setCells g r (o + 1) _)

theorem heap_setCells_row (g : Nat) (t : TypeId) : ∀ (vs : List Value) (o : Nat) (w : World) (cur : Array Value), w.heap[g]? = some (.cells cur t (0, 0)) → o + vs.length ≤ cur.size →
    (w.setCells g o vs).heap[g]? = some (.cells (cur.toList.take o ++ vs ++ cur.toList.drop (o + vs.length)).toArray t (0, 0))
  | [], o, w, cur, h, hl => by
    rw [World.setCells, h]
    simp
  | v :: r, o, w, cur, h, hl => by
    rw [List.length_cons] at hl
    have h1 := heap_setCell_same w g o cur t v h
    have h2 := heap_setCells_row g t r (o + 1) _ _ h1 (by rw [Array.size_setIfInBounds]; omega)
    rw [World.setCells, h2, Array.toList_setIfInBounds]
    have hlt : o < cur.toList.length := by rw [Array.length_toList]; omega
    have e1 : (cur.toList.set o v).take (o + 1) = cur.toList.take o ++ [v] := by
      rw [List.take_succ_eq_append_getElem (by rw [List.length_set]; exact hlt), List.getElem_set_self, List.take_set_of_le (Nat.le_refl _)]
    have e2 : (cur.toList.set o v).drop (o + 1 + r.length) = cur.toList.drop (o + (v :: r).length) := by
      rw [List.drop_set_of_lt (by omega), List.length_cons]
      congr 1
      omega
    rw [e1, e2, List.append_assoc, List.append_assoc, List.append_assoc]
    rfl

set_option maxRecDepth 20000 in
theorem Blks.set {w : World} {g c n : Nat} {bs : List (List UInt8)} (h : Blks w (.slice (some ⟨g, 0, none⟩) n c) bs) (hw : Wide bs) (k : Nat) (hk : k < bs.length) (L : List UInt8) (hL : L.length = 512) :
    Blks (w.setCells g (k * 512) (L.map bv)) (.slice (some ⟨g, 0, none⟩) n c) (bs.set k L) := by
  obtain ⟨h1, h2⟩ := h
  rcases h2 with ⟨h2, _⟩ | ⟨g', cap, cur, hv, hb, hg, hn, hm, hs, ht⟩
  · cases h2
  · cases hv
    have hl : (L.map bv).length = 512 := by rw [List.length_map]; exact hL
    have hset := cellsOf_set hw k hk L hL
    have hlen := cellsOf_len hw
    have hlen2 := cellsOf_len (hw.set hL k)
    rw [List.length_set] at hlen2
    have hk2 : k * 512 + 512 ≤ bs.length * 512 := by omega
    have q1 : k * 512 ≤ (cellsOf bs).length := Nat.le_trans (Nat.mul_le_mul_right 512 (Nat.le_of_lt hk)) (Nat.le_of_eq hlen.symm)
    have q2 : k * 512 + 512 ≤ (cellsOf bs).length := Nat.le_trans hk2 (Nat.le_of_eq hlen.symm)
    have hr := heap_setCells_row g 60 (L.map bv) (k * 512) w cur hg (by omega)
    have hcut : cur.toList = cellsOf bs ++ cur.toList.drop (bs.length * 512) := by rw [← ht, List.take_append_drop]
    have e : cur.toList.take (k * 512) ++ L.map bv ++ cur.toList.drop (k * 512 + (L.map bv).length) = cellsOf (bs.set k L) ++ cur.toList.drop (bs.length * 512) := by
      rw [hset, hl]
      conv => lhs; rw [hcut]
      rw [List.take_append_of_le_length q1, List.drop_append_of_le_length q2]
      simp only [List.append_assoc]
    rw [e] at hr
    refine ⟨by rw [List.length_set]; exact hlen2, .inr ⟨g, c, _, by rw [List.length_set], hb, hr, by rw [List.length_set]; exact hn, hm, ?_, ?_⟩⟩
    · have e3 : (cur.toList.drop (bs.length * 512)).length = cur.size - bs.length * 512 := by rw [List.length_drop, Array.length_toList]
      rw [List.size_toArray, List.length_append]
      omega
    · rw [List.length_set, ← hlen2]
      exact List.take_left

theorem Blks.there {w : World} {g c n : Nat} {bs : List (List UInt8)} (h : Blks w (.slice (some ⟨g, 0, none⟩) n c) bs) (hw : Wide bs) (k : Nat) (hk : k < bs.length) : w.there g (k * 512) 512 := by
  intro j hj
  have hr := Blks.range hw h k hk j
  obtain ⟨cur, hc⟩ := Blks.mark h rfl
  have hl : (bs[k].map bv).length = 512 := by rw [List.length_map]; exact hw _ (List.getElem_mem hk)
  refine ⟨?_, frozen_of_row w g _ cur 60 hc⟩
  rw [hr _ (List.getElem?_eq_getElem (by rw [hl]; exact hj))]
  rfl

/-- A map cleared. -/
theorem clear_own {w : World} {m N : Nat} {D : DataW Value} (h : w.ownsMap Try.prog 3 rawE m N D) (ty : TypeId) : ∃ w', (Builtin.clear_ #[44] ty #[.map (some m)]).run Try.prog w = .ok (.tuple #[]) w' ∧ w'.ownsMap Try.prog 3 rawE m 0 (.map []) ∧ w.grownBy w' (some m) := by
  obtain ⟨es, clock, hb, F, hs, rfl⟩ := h
  refine ⟨setBlock w m (.map #[] clock), ?_, ⟨#[], clock, ChangeMaps.heap_setBlock_same hb _, ⟨by simp, MapKept.stamped_empty _, by simp⟩, Nat.le_refl _, rfl⟩, ⟨rfl, rfl, rfl, by simp [setBlock], fun i _ hi => ChangeMaps.heap_setBlock_other hb _ (fun e => hi (by rw [e]))⟩⟩
  simp [Builtin.clear_, run_underlying Try.underlying44, MapKept.run_getObj_map hb, MapKept.run_setObj_map _ hb, Result.andThen, setBlock]

theorem PendAt.cleared {w w' : World} {F : Nat → Prop} {m g n N : Nat} {pend : Nat → List (List UInt8)} {vf : Nat → Value} {D : DataW Value} (h : PendAt w F m g n N pend vf D) (hc : w'.ownsMap Try.prog 3 rawE m 0 (.map [])) :
    PendAt w' F m g n N (fun _ => []) (fun _ => nilS) (.map []) :=
  { own := hc.mono (Nat.zero_le _), at_ := fun _ _ => rfl, has := fun kl => ⟨fun h => (by cases h), fun ⟨k, _, h, _⟩ => absurd rfl h⟩, rows := fun _ => World.ownsRow_nil _ _ _ _, len := fun _ => Nat.zero_le _, foot := fun _ _ h => (by cases h), apart := fun _ _ _ h => (by cases h), wide := fun _ L hL => (by cases hL), out := fun _ _ => rfl }

/-- The blocks with writes, rising. -/
def pk (n : Nat) (pend : Nat → List (List UInt8)) : List Nat := (List.range n).filter fun k => !(pend k).isEmpty
theorem mem_pk {n : Nat} {pend : Nat → List (List UInt8)} {k : Nat} : k ∈ pk n pend ↔ k < n ∧ pend k ≠ [] := by
  simp [pk]
theorem pk_rising (n : Nat) (pend : Nat → List (List UInt8)) : (pk n pend).Pairwise (· < ·) := List.Pairwise.filter _ List.pairwise_lt_range
theorem pk_len (n : Nat) (pend : Nat → List (List UInt8)) : (pk n pend).length ≤ n := by
  have := List.length_filter_le (fun k => !(pend k).isEmpty) (List.range n)
  rw [List.length_range] at this
  exact this

theorem PendAt.keys {w : World} {F : Nat → Prop} {m g n N : Nat} {pend : Nat → List (List UInt8)} {vf : Nat → Value} {D : DataW Value} (h : PendAt w F m g n N pend vf D) (ss : List Int) (hs : ss.Perm (intKeys D)) :
    ss.mergeSort (fun x y => decide (x ≤ y)) = (pk n pend).map Int.ofNat ∧ ss.length = (pk n pend).length := by
  obtain ⟨es, rfl, hp, hk⟩ := h.own.entries keyedInt
  have hk2 : ∀ p ∈ es, ∃ x, p.1 = Lit.int .i64 x := fun p hpe => by
    obtain ⟨k, _, _, e⟩ := (h.has p.1).1 (by rw [has_eq, List.any_eq_true]; exact ⟨p, hpe, WideAt.sameKey_self (hk p hpe)⟩)
    exact ⟨_, e⟩
  have hnd : ((pk n pend).map Int.ofNat).Nodup := List.pairwise_map.2 ((pk_rising n pend).imp fun {a b} hab e => by have : (a : Int) = b := e; omega)
  have hperm : ((pk n pend).map Int.ofNat).Perm (intKeys (.map es)) := perm_intKeys hp hk2 hnd fun x => by
    rw [h.has, List.mem_map]
    constructor
    · rintro ⟨k, hk, rfl⟩
      exact ⟨k, (mem_pk.1 hk).1, (mem_pk.1 hk).2, rfl⟩
    · rintro ⟨k, h1, h2, e⟩
      exact ⟨k, mem_pk.2 ⟨h1, h2⟩, by injection e with _ e; exact e.symm⟩
  have hp3 := hs.trans hperm.symm
  refine ⟨?_, by rw [hp3.length_eq, List.length_map]⟩
  have e := mergeSort_of_perm_i hp3
  rw [show ss.mergeSort (fun x y => decide (x ≤ y)) = ss.mergeSort leI from rfl, e]
  refine List.mergeSort_of_pairwise (List.pairwise_map.2 ((pk_rising n pend).imp fun {a b} hab => ?_))
  simp only [leI, decide_eq_true_eq, Int.ofNat_eq_natCast]
  omega

/-- Pending. -/
theorem Pending_dev {w : World} {b : Nat} {F : Nat → Prop} {N : Nat} {S : St} (h : Dev w b F N S) (hN : N < 1000000) :
    Calls Try.prog 21 #[.pointer (some ⟨b, 0, none⟩)] w fun e w' => ∃ v, e = .returned v ∧ w'.ownsRow w.heap.size 3 1 v (pk S.safe.length S.pend).length ((pk S.safe.length S.pend).map fun k => Value.int .i64 (k : Nat)) ∧ Below w.heap.size w w' := by
  obtain ⟨g, c, m, vf, D, h⟩ := h
  have hz := h.pend.own.size_le
  refine (Pending_map b m N D rawE w h.dev.c1 h.pend.own (by unfold maxLen; omega) (by omega)).mono ?_
  rintro e w' ⟨v, ss, rfl, hs, hrow, hnil, hb⟩
  obtain ⟨e1, e2⟩ := h.pend.keys ss hs
  rw [e1, e2] at hrow
  refine ⟨v, rfl, ?_, hb⟩
  rw [List.map_map] at hrow
  exact hrow
end Go.Proofs.Ytnmmdefkmjlkaaa

/-
  DERIVED. Write and Flush where they stop.
-/
namespace Go.Proofs.Ytnmmdefkmjlkaaa
open Go.RowKit
set_option linter.unusedVariables false

section
variable {w : World} {b : Nat} {fl pm : Value} {fused : Bool} {fuse : Int} {down : Bool} {ops : Int} {a : Option Addr} {n c : Nat}

theorem Write_closed (k : Int) (v : Value) (h : DevAt w b (.slice a n c) pm fused fuse down ops) (hE : openE n down k ≠ 0) :
    Calls Try.prog 27 #[.pointer (some ⟨b, 0, none⟩), .int .i64 k, v] w fun e w' => e = .returned (.int .i64 (openE n down k)) ∧ w = w' := by
  have HD := hide h
  clear h
  have hne : (openE n down k != 0) = true := by rw [bne_iff_ne]; exact hE
  go_enter Try.func27, Try.ntmps27
  go_wp2_with (go_at_call 32; refine (open_dev k (unhide HD)).mono ?_; rintro e w' ⟨rfl, rfl⟩)
  go_ret
  exact ⟨rfl, rfl⟩

theorem Write_sized (k : Int) (a' : Option Addr) (n' c' : Nat) (h : DevAt w b (.slice a n c) pm fused fuse down ops) (hE : openE n down k = 0) (hn : n' ≠ 512) :
    Calls Try.prog 27 #[.pointer (some ⟨b, 0, none⟩), .int .i64 k, .slice a' n' c'] w fun e w' => e = .returned (.int .i64 21) ∧ w = w' := by
  have HD := hide h
  clear h
  have hne : ((n' : Int) != 512) = true := by rw [bne_iff_ne]; omega
  go_enter Try.func27, Try.ntmps27
  go_wp2_with (go_at_call 32; refine (open_dev k (unhide HD)).mono ?_; rintro e w' ⟨rfl, rfl⟩; rw [hE])
  go_ret
  exact ⟨rfl, rfl⟩

theorem Write_burnt (k : Int) (a' : Option Addr) (c' : Nat) (h : DevAt w b (.slice a n c) pm fused fuse down ops) (hE : openE n down k = 0) (hB : burnE fused fuse ≠ 0) (f1 : 0 ≤ fuse) (f2 : fuse < 9223372036854775808) (o1 : 0 ≤ ops) (o2 : ops < 9223372036854775807) :
    Calls Try.prog 27 #[.pointer (some ⟨b, 0, none⟩), .int .i64 k, .slice a' 512 c'] w fun e w' => e = .returned (.int .i64 (burnE fused fuse)) ∧ DevAt w' b (.slice a n c) pm fused (burnF fused fuse) (burnD fused fuse down) (burnO fused fuse ops) ∧ Only b w w' := by
  have HD := hide h
  clear h
  have hne : (burnE fused fuse != 0) = true := by rw [bne_iff_ne]; exact hB
  go_enter Try.func27, Try.ntmps27
  go_wp2_with (first | (go_at_call 32; refine (open_dev k (unhide HD)).mono ?_; rintro e w' ⟨rfl, rfl⟩; rw [hE]) | fail)
  refine (burn_dev (unhide HD) f1 f2 o1 o2).mono ?_
  rintro e w1 ⟨rfl, d1, o1⟩
  have H1 := hide (And.intro d1 o1)
  clear d1 o1
  go_wp2
  go_ret
  exact ⟨rfl, unhide H1⟩

theorem Flush_down (h : DevAt w b fl pm fused fuse true ops) :
    Calls Try.prog 28 #[.pointer (some ⟨b, 0, none⟩)] w fun e w' => e = .returned (.int .i64 2) ∧ w = w' := by
  have HD := hide h
  clear h
  go_enter Try.func28, Try.ntmps28
  go_wp2_with (go_at_call 20; refine (up_dev (unhide HD)).mono ?_; rintro e w' ⟨rfl, rfl⟩)
  go_ret
  exact ⟨rfl, rfl⟩

theorem Flush_burnt (h : DevAt w b fl pm fused fuse false ops) (hB : burnE fused fuse ≠ 0) (f1 : 0 ≤ fuse) (f2 : fuse < 9223372036854775808) (o1 : 0 ≤ ops) (o2 : ops < 9223372036854775807) :
    Calls Try.prog 28 #[.pointer (some ⟨b, 0, none⟩)] w fun e w' => e = .returned (.int .i64 (burnE fused fuse)) ∧ DevAt w' b fl pm fused (burnF fused fuse) (burnD fused fuse false) (burnO fused fuse ops) ∧ Only b w w' := by
  have HD := hide h
  clear h
  have hne : (burnE fused fuse != 0) = true := by rw [bne_iff_ne]; exact hB
  go_enter Try.func28, Try.ntmps28
  go_wp2_with (first | (go_at_call 20; refine (up_dev (unhide HD)).mono ?_; rintro e w' ⟨rfl, rfl⟩) | fail)
  refine (burn_dev (unhide HD) f1 f2 o1 o2).mono ?_
  rintro e w1 ⟨rfl, d1, o1⟩
  have H1 := hide (And.intro d1 o1)
  clear d1 o1
  go_wp2
  go_ret
  exact ⟨rfl, unhide H1⟩
end
end Go.Proofs.Ytnmmdefkmjlkaaa

/-
  DERIVED. newest, kept, Read, Write, Flush where it stops, Fuse: over a device in memory.
-/
namespace Go.Proofs.Ytnmmdefkmjlkaaa
open Go.RowKit Go.Maps
set_option linter.unusedVariables false

theorem Blks.form {w : World} {v : Value} {bs : List (List UInt8)} (h : Blks w v bs) : ∃ ao cap, v = .slice ao bs.length cap ∧ (bs ≠ [] → ∃ q, ao = some ⟨q, 0, none⟩) := by
  rcases h.2 with ⟨rfl, h0⟩ | ⟨q, cap, cur, rfl, _⟩
  · exact ⟨none, 0, by rw [h0], fun hne => absurd (List.eq_nil_of_length_eq_zero h0) hne⟩
  · exact ⟨_, cap, rfl, fun _ => ⟨q, rfl⟩⟩

theorem PendAt.lookA {w : World} {F : Nat → Prop} {m g n N : Nat} {pend : Nat → List (List UInt8)} {vf : Nat → Value} {D : DataW Value} (h : PendAt w F m g n N pend vf D) (k : Nat) (hk : k < n) (hn : n ≤ 512) (o : Obj) :
    (Instr.lookup 44 (.map (some m)) (.int .i64 k) false).run Try.prog (w.alloc o) = .ok (vf k) (w.alloc o) := look_of (h.own.alloc o) k (by omega) (h.at_ k hk)

/-- A block as it was written last. -/
def St.newest (S : St) (k : Nat) : List UInt8 := ((S.pend k).getLast?).getD ((S.safe)[k]?.getD [])
theorem St.newest_len {w : World} {b : Nat} {F : Nat → Prop} {N : Nat} {S : St} {g c m : Nat} {vf : Nat → Value} {D : DataW Value} (h : DevIn w b F N S g c m vf D) (k : Nat) (hk : k < S.safe.length) : (S.newest k).length = 512 := by
  unfold St.newest
  by_cases e : S.pend k = []
  · rw [e, List.getLast?_nil, Option.getD_none, List.getElem?_eq_getElem hk, Option.getD_some]
    exact h.wide _ (List.getElem_mem hk)
  · rw [List.getLast?_eq_some_getLast e, Option.getD_some]
    exact h.pend.wide k _ (List.getLast_mem e)

theorem newest_dev {w : World} {b : Nat} {F : Nat → Prop} {N : Nat} {S : St} {g c m : Nat} {vf : Nat → Value} {D : DataW Value} (h : DevIn w b F N S g c m vf D) (k : Nat) (hk : k < S.safe.length) (hN : N < 2000000) :
    Calls Try.prog 34 #[.pointer (some ⟨b, 0, none⟩), .int .i64 k] w fun e w' => e = .returned (.agg ((S.newest k).map bv).toArray) ∧ Below w.heap.size w w' := by
  have hl5 : ((S.newest k).map bv).length = 512 := by rw [List.length_map]; exact St.newest_len h k hk
  obtain ⟨ao, cap, hv, hne⟩ := Blks.form (h.pend.rows k)
  by_cases e : S.pend k = []
  · refine newest_old w k ao cap _ h.dev hk (fun o => ?_) ?_ hl5 (bv_one _)
    · rw [h.pend.lookA k hk h.n2 o, hv, e]; rfl
    · have he : S.newest k = S.safe[k] := by unfold St.newest; rw [e, List.getLast?_nil, Option.getD_none, List.getElem?_eq_getElem hk, Option.getD_some]
      rw [he]
      exact Blks.range h.wide h.safe k hk
  · obtain ⟨q, rfl⟩ := hne e
    have hpos : 0 < (S.pend k).length := List.length_pos_iff.2 e
    obtain ⟨j, hj⟩ : ∃ j, (S.pend k).length = j + 1 := ⟨(S.pend k).length - 1, by omega⟩
    have hr := h.pend.rows k
    rw [hv] at hr
    have hjl := h.pend.len k
    refine newest_new (g := 0) (n := 0) (c := 0) w k q j cap _ h.dev (by omega) (fun o => ?_) ?_ hl5 (bv_one _)
    · rw [h.pend.lookA k hk h.n2 o, hv, hj]
    · have he : S.newest k = (S.pend k)[j]'(by omega) := by
        unfold St.newest
        rw [List.getLast?_eq_some_getLast e, Option.getD_some, List.getLast_eq_getElem]
        simp [hj]
      rw [he]
      exact Blks.range (h.pend.wide k) hr j (by omega)

/-- What a crash keeps of a block. -/
def St.keptB (S : St) (k : Nat) (p : Int) : List UInt8 := if pickR p (S.pend k).length = 0 then (S.safe)[k]?.getD [] else ((S.pend k)[pickR p (S.pend k).length - 1]?).getD []
theorem pickR_lt (p : Int) (L : Nat) : pickR p L < L + 1 := Nat.mod_lt _ (by omega)
theorem St.keptB_len {w : World} {b : Nat} {F : Nat → Prop} {N : Nat} {S : St} {g c m : Nat} {vf : Nat → Value} {D : DataW Value} (h : DevIn w b F N S g c m vf D) (k : Nat) (hk : k < S.safe.length) (p : Int) : (S.keptB k p).length = 512 := by
  unfold St.keptB
  have hlt := pickR_lt p (S.pend k).length
  split
  · rw [List.getElem?_eq_getElem hk, Option.getD_some]
    exact h.wide _ (List.getElem_mem hk)
  · rw [List.getElem?_eq_getElem (by omega), Option.getD_some]
    exact h.pend.wide k _ (List.getElem_mem _)

theorem kept_dev {w : World} {b : Nat} {F : Nat → Prop} {N : Nat} {S : St} {g c m : Nat} {vf : Nat → Value} {D : DataW Value} (h : DevIn w b F N S g c m vf D) (k : Nat) (hk : k < S.safe.length) (p : Int) (p1 : -9223372036854775808 ≤ p) (p2 : p < 9223372036854775808) (hN : N < 2000000) :
    Calls Try.prog 22 #[.pointer (some ⟨b, 0, none⟩), .int .i64 k, .int .i64 p] w fun e w' => e = .returned (.agg ((S.keptB k p).map bv).toArray) ∧ Below w.heap.size w w' := by
  have hl5 : ((S.keptB k p).map bv).length = 512 := by rw [List.length_map]; exact St.keptB_len h k hk p
  obtain ⟨ao, cap, hv, hne⟩ := Blks.form (h.pend.rows k)
  have hlt := pickR_lt p (S.pend k).length
  have hjl := h.pend.len k
  by_cases e : pickR p (S.pend k).length = 0
  · refine kept_old w k p ao (S.pend k).length cap _ h.dev hk p1 p2 (by omega) (fun o => ?_) e ?_ hl5 (bv_one _)
    · rw [h.pend.lookA k hk h.n2 o, hv]
    · have he : S.keptB k p = S.safe[k] := by unfold St.keptB; rw [if_pos e, List.getElem?_eq_getElem hk, Option.getD_some]
      rw [he]
      exact Blks.range h.wide h.safe k hk
  · have e2 : S.pend k ≠ [] := fun e2 => by rw [e2] at hlt e; simp at hlt; exact e (by simpa using hlt)
    obtain ⟨q, rfl⟩ := hne e2
    obtain ⟨j, hj⟩ : ∃ j, pickR p (S.pend k).length = j + 1 := ⟨pickR p (S.pend k).length - 1, by omega⟩
    have hr := h.pend.rows k
    rw [hv] at hr
    refine kept_new w k p q (S.pend k).length cap j _ h.dev p1 p2 (by omega) (fun o => ?_) hj ?_ hl5 (bv_one _)
    · rw [h.pend.lookA k hk h.n2 o, hv]
    · have he : S.keptB k p = (S.pend k)[j]'(by omega) := by
        unfold St.keptB
        rw [if_neg e, hj, Nat.add_sub_cancel, List.getElem?_eq_getElem (by omega), Option.getD_some]
      rw [he]
      exact Blks.range (h.pend.wide k) hr j (by omega)

/-- Where a block can be reached. -/
theorem St.open_ok (S : St) (k : Nat) (hk : k < S.safe.length) (hd : S.down = false) : openE S.safe.length S.down k = 0 := by
  unfold openE; rw [hd, if_neg (by simp), if_pos (by omega)]

theorem Read_dev {w : World} {b : Nat} {F : Nat → Prop} {N : Nat} {S : St} (h : Dev w b F N S) (k : Nat) (hk : k < S.safe.length) (hd : S.down = false) (hB : burnE S.fused S.fuse = 0) (hN : N < 1000000) :
    Calls Try.prog 24 #[.pointer (some ⟨b, 0, none⟩), .int .i64 k] w fun e w' => ∃ q, e = .returned (.tuple #[.slice (some ⟨q, 0, none⟩) 512 512, .int .i64 0]) ∧ w.heap.size ≤ q ∧ w'.heap[q]? = some (.cells ((S.newest k).map bv).toArray 60 (0, 0)) ∧ Dev w' b F (N + 1) S.burn ∧ Kept F w w' := by
  obtain ⟨g, c, m, vf, D, h⟩ := h
  have hl5 : ((S.newest k).map bv).length = 512 := by rw [List.length_map]; exact St.newest_len h k hk
  refine (Read_ok k ((S.newest k).map bv) h.dev (S.open_ok k hk hd) hB h.f1 h.f2 h.o1 (by have := h.o2; omega) hl5 (bv_one _) (fun w1 o1 d1 => ?_)).mono ?_
  · exact newest_dev (h.burn o1 d1) k hk (by omega)
  · rintro e w' ⟨w1, q, rfl, o1, d1, b1, hq, hg⟩
    exact ⟨q, rfl, by rw [o1.size] at hq; exact hq, hg, ⟨g, c, m, vf, D, (h.burn o1 d1).frame fun j _ hj => b1.block j hj⟩, (Kept.of_only o1 h.fb).trans (Kept.of_below b1)⟩

theorem Read_dev_burnt {w : World} {b : Nat} {F : Nat → Prop} {N : Nat} {S : St} (h : Dev w b F N S) (k : Nat) (hk : k < S.safe.length) (hd : S.down = false) (hB : burnE S.fused S.fuse ≠ 0) (hN : N < 1000000) :
    Calls Try.prog 24 #[.pointer (some ⟨b, 0, none⟩), .int .i64 k] w fun e w' => e = .returned (.tuple #[.slice none 0 0, .int .i64 2]) ∧ Dev w' b F (N + 1) S.burn ∧ Kept F w w' := by
  obtain ⟨g, c, m, vf, D, h⟩ := h
  have h2 : burnE S.fused S.fuse = 2 := by unfold burnE at hB ⊢; split at hB <;> simp_all
  refine (Read_burnt k h.dev (S.open_ok k hk hd) hB h.f1 h.f2 h.o1 (by have := h.o2; omega)).mono ?_
  rintro e w' ⟨rfl, d1, o1⟩
  exact ⟨by rw [h2], ⟨g, c, m, vf, D, h.burn o1 d1⟩, Kept.of_only o1 h.fb⟩

theorem Read_dev_shut {w : World} {b : Nat} {F : Nat → Prop} {N : Nat} {S : St} (h : Dev w b F N S) (k : Int) (hE : openE S.safe.length S.down k ≠ 0) :
    Calls Try.prog 24 #[.pointer (some ⟨b, 0, none⟩), .int .i64 k] w fun e w' => e = .returned (.tuple #[.slice none 0 0, .int .i64 (openE S.safe.length S.down k)]) ∧ w = w' := by
  obtain ⟨g, c, m, vf, D, h⟩ := h
  exact Read_closed k h.dev hE

theorem Write_dev {w : World} {b : Nat} {F : Nat → Prop} {N : Nat} {S : St} (h : Dev w b F N S) (k : Nat) (L : List UInt8) (v : Value) (hk : k < S.safe.length) (hd : S.down = false) (hB : burnE S.fused S.fuse = 0)
    (hv : Sl w v L) (hL : L.length = 512) (hN : N < 1000000) (hF : ∀ j, w.heap.size ≤ j → F j) :
    Calls Try.prog 27 #[.pointer (some ⟨b, 0, none⟩), .int .i64 k, v] w fun e w' => e = .returned (.int .i64 0) ∧ Dev w' b F (N + 2) (S.burn.wrote k L) ∧ Kept F w w' := by
  obtain ⟨g, c, m, vf, D, h⟩ := h
  exact Write_in k L v h hk hd hB hv hL hN hF

theorem Write_dev_burnt {w : World} {b : Nat} {F : Nat → Prop} {N : Nat} {S : St} (h : Dev w b F N S) (k : Nat) (a' : Option Addr) (c' : Nat) (hk : k < S.safe.length) (hd : S.down = false) (hB : burnE S.fused S.fuse ≠ 0) (hN : N < 1000000) :
    Calls Try.prog 27 #[.pointer (some ⟨b, 0, none⟩), .int .i64 k, .slice a' 512 c'] w fun e w' => e = .returned (.int .i64 2) ∧ Dev w' b F (N + 1) S.burn ∧ Kept F w w' := by
  obtain ⟨g, c, m, vf, D, h⟩ := h
  have h2 : burnE S.fused S.fuse = 2 := by unfold burnE at hB ⊢; split at hB <;> simp_all
  refine (Write_burnt k a' c' h.dev (S.open_ok k hk hd) hB h.f1 h.f2 h.o1 (by have := h.o2; omega)).mono ?_
  rintro e w' ⟨rfl, d1, o1⟩
  exact ⟨by rw [h2], ⟨g, c, m, vf, D, h.burn o1 d1⟩, Kept.of_only o1 h.fb⟩

theorem Flush_dev_burnt {w : World} {b : Nat} {F : Nat → Prop} {N : Nat} {S : St} (h : Dev w b F N S) (hd : S.down = false) (hB : burnE S.fused S.fuse ≠ 0) (hN : N < 1000000) :
    Calls Try.prog 28 #[.pointer (some ⟨b, 0, none⟩)] w fun e w' => e = .returned (.int .i64 2) ∧ Dev w' b F (N + 1) S.burn ∧ Kept F w w' := by
  obtain ⟨g, c, m, vf, D, h⟩ := h
  have h2 : burnE S.fused S.fuse = 2 := by unfold burnE at hB ⊢; split at hB <;> simp_all
  have h3 := h.dev
  rw [hd] at h3
  refine (Flush_burnt h3 hB h.f1 h.f2 h.o1 (by have := h.o2; omega)).mono ?_
  rintro e w' ⟨rfl, d1, o1⟩
  exact ⟨by rw [h2], ⟨g, c, m, vf, D, h.burn o1 (by rw [hd]; exact d1)⟩, Kept.of_only o1 h.fb⟩

/-- A device with a fuse. -/
def St.fuseK (S : St) (k : Int) : St := if S.down then S else { S with fused := decide (0 ≤ k), fuse := max k 0 }
theorem Fuse_devS {w : World} {b : Nat} {F : Nat → Prop} {N : Nat} {S : St} (h : Dev w b F N S) (k : Int) (k1 : -9223372036854775808 ≤ k) (k2 : k < 9223372036854775808) :
    Calls Try.prog 10 #[.pointer (some ⟨b, 0, none⟩), .int .i64 k] w fun e w' => e = .returned (.int .i64 (if S.down then 2 else 0)) ∧ Dev w' b F N (S.fuseK k) ∧ Kept F w w' := by
  obtain ⟨g, c, m, vf, D, h⟩ := h
  refine (Fuse_dev k h.dev k1 k2).mono ?_
  rintro e w' ⟨rfl, d1, o1⟩
  refine ⟨rfl, ⟨g, c, m, vf, D, ?_⟩, Kept.of_only o1 h.fb⟩
  unfold St.fuseK
  cases hd : S.down
  · simp only [hd, Bool.false_eq_true, if_false] at d1 ⊢
    exact h.turn o1 (Nat.le_refl _) d1 rfl rfl (by show 0 ≤ max k 0; omega) (by show max k 0 < _; omega) h.o1 h.o2
  · simp only [hd, if_true] at d1 ⊢
    exact h.turn o1 (Nat.le_refl _) (by rw [hd]; exact d1) rfl rfl h.f1 h.f2 h.o1 h.o2
end Go.Proofs.Ytnmmdefkmjlkaaa

/-
  DERIVED. The walk of read: where the device refuses at once.
-/
namespace Go.Proofs.Ytnmmdefkmjlkaaa
open Go.RowKit
set_option linter.unusedVariables false

abbrev two0 : Array Value := #[.bool false, .int .u32 0, .int .i64 0, .slice none 0 0, .bool false, .int .u32 0, .int .i64 0, .slice none 0 0]
theorem sizeTwo : (Try.prog.info? 50).map (·.size) = some 8 := by kernel_rfl
theorem one_two0 : two0.all (·.oneCell') = true := by simp [two0, Value.oneCell']

/-- A row that is answered, and a value beside it. -/
theorem results_row_tmp {fn : Func} {p u : Tmp} {ty : TypeId} (h : fn.results = #[.cell p ty, .tmp u]) (tmps : Array Value) (w : World) (g : Nat) (cs : Array Value) (y : Value)
    (hp : tmps.getD p undef = .pointer (some ⟨g, 0, none⟩)) (hy : tmps.getD u undef = y) (hl : (loadVar ty ⟨g, 0, none⟩).run Try.prog w = .ok (.agg cs) w) :
    (results fn tmps).run Try.prog w = .ok (.tuple #[.agg cs, y]) w := by
  have hp' : tmps[p]?.getD undef = .pointer (some ⟨g, 0, none⟩) := by simpa using hp
  have hy' : tmps[u]?.getD undef = y := by simpa using hy
  simp [results, h, hp', hy', asAddr, hl]

set_option maxHeartbeats 2000000 in
theorem read_shut {w : World} {b : Nat} {F : Nat → Prop} {N : Nat} {S : St} (h : Dev w b F N S) (k : Nat) (hk : k + 1 < S.safe.length) (hs : S.safe.length ≤ 512) (hd : S.down = false) (hB : burnE S.fused S.fuse ≠ 0) (hN : N < 1000000) (hF : ∀ k, F k → k < w.heap.size) :
    Calls Try.prog 14 #[.pointer (some ⟨b, 0, none⟩), .int .i64 k] w fun e w' => e = .returned (.tuple #[.agg two0, .int .i64 2]) ∧ Dev w' b F (N + 1) S.burn ∧ Kept F w w' := by
  have HD := hide h
  clear h
  obtain ⟨W, hW⟩ : ∃ W, W = (w.alloc (.cells two0 50)).alloc (.cells two0 50) := ⟨_, rfl⟩
  have HW : Hid (Below w.heap.size w W) := hide (by rw [hW]; exact ((Below.refl _ _).alloc (Nat.le_refl _) _).alloc (by simp) _)
  have HZ : Hid (W.heap[w.heap.size]? = some (.cells two0 50 (0, 0))) := hide (by rw [hW, Below.heap_alloc _ _ _ (by simp)]; exact heap_alloc_self _ _)
  have sW : W.heap.size = w.heap.size + 2 := by rw [hW]; simp
  go_enter Try.func14, Try.ntmps14
  go_wp2_with fail
  rw [← hW]
  clear hW
  refine wp_loop_rounds 1 ?_
  rw [rounds_succ]
  go_wp2_with fail
  refine (Read_dev_burnt ((unhide HD).grown (unhide HW)) k (by omega) hd hB hN).mono ?_
  rintro e w1 ⟨rfl, d1, k1⟩
  have HZ1 : Hid (w1.heap[w.heap.size]? = some (.cells two0 50 (0, 0))) := hide ((k1.block _ (by omega) (fun h => by have := hF _ h; omega)).trans (unhide HZ))
  have H1 := hide (And.intro d1 k1)
  clear d1 k1
  go_wp2_with (refine wpList_store_row rfl 50 (.tmp 4) (.tmp 23) rfl w.heap.size two0 rfl rfl 50 two0 (unhide HZ1) sizeTwo rfl one_two0 ?_)
  (try simp only [Exit.inBlock, Exit.then])
  refine bodyPost_ret (v := .tuple #[.agg two0, .int .i64 2]) (results_row_tmp rfl _ _ w.heap.size two0 _ rfl rfl (run_loadVar_row _ w.heap.size 50 50 two0 (0, 0) _ (setRow_heap _ _ _ _ _ _ (unhide HZ1)) Try.underlying50 rfl sizeTwo)) rfl ⟨rfl, ?_, ?_⟩
  · exact (unhide H1).1.frame fun j hj _ => setRow_other _ _ _ _ (by have := hF _ hj; omega)
  · have hB1 := unhide HW
    have hK1 := (unhide H1).2
    refine ⟨hK1.os.trans hB1.os, hK1.tape.trans hB1.tape, hK1.output.trans hB1.output, ?_, fun j hj hn => ?_⟩
    · have := hK1.size
      simp [World.setRow]
      omega
    · rw [setRow_other _ _ _ _ (by omega), hK1.block j (by omega) hn, hB1.block j hj]
end Go.Proofs.Ytnmmdefkmjlkaaa

/-
  DERIVED. The walk of read: where both blocks are read.
-/
namespace Go.Proofs.Ytnmmdefkmjlkaaa
open Go.RowKit
set_option linter.unusedVariables false

theorem Sl.ofRow {w : World} {q : Nat} {L : List UInt8} {t : TypeId} {fz : Nat × Nat} (hL : L.length = 512) (h : w.heap[q]? = some (.cells (L.map bv).toArray t fz)) : Sl w (.slice (some ⟨q, 0, none⟩) 512 512) L :=
  ⟨_, 512, by rw [hL], by omega, by simp [maxLen], fun _ => ⟨q, 0, rfl, lt_of_block h, fun i hi => by simp [World.cell?, h, hi]⟩⟩
theorem there_row {w : World} {g : Nat} {cs : Array Value} {t : TypeId} (h : w.heap[g]? = some (.cells cs t (0, 0))) (o n : Nat) (hn : o + n ≤ cs.size) : w.there g o n := fun j hj => by
  have : o + j < cs.size := by omega
  constructor
  · simp [World.cell?, h, this]
  · simp [World.frozen?, h]
theorem one_two (s t : Slot) (x y : Option Addr) (n c m d : Nat) : (twoC s t (.slice x n c) (.slice y m d)).all (·.oneCell') = true := by simp [twoC, Value.oneCell']
theorem one_slotL (s : Slot) (x : Option Addr) (n c : Nat) : (slotC s (.slice x n c)).all (·.oneCell') = true := one_slot _ _ _ _ _ _

theorem Sl.kept {F : Nat → Prop} {w w' : World} {a : Option Addr} {n c : Nat} {l : List UInt8} (h : Sl w (.slice a n c) l) (hk : Kept F w w') (hF : ∀ ad, a = some ad → ¬ F ad.block) : Sl w' (.slice a n c) l := by
  obtain ⟨ao, cap, e, h1, h2, h4⟩ := h
  refine ⟨ao, cap, e, h1, h2, fun hc => ?_⟩
  obtain ⟨b', off', e', h5, h6⟩ := h4 hc
  have ea : a = some ⟨b', off', none⟩ := by rw [← e']; injection e
  refine ⟨b', off', e', Nat.lt_of_lt_of_le h5 hk.size, fun i hi => ?_⟩
  exact (World.cell?_of_block (w := w) (hk.block b' h5 (hF _ ea))).trans (h6 i hi)
theorem kept_cells (w : World) (g o : Nat) (vs : List Value) : Kept (fun k => k = g) w (w.setCells g o vs) := Kept.of_grown (grown_setCells g vs o w) (fun k h => by injection h with h; exact h.symm)

set_option maxHeartbeats 4000000 in
theorem read_ok {w : World} {b : Nat} {F : Nat → Prop} {N : Nat} {S : St} (h : Dev w b F N S) (k : Nat) (hk : k + 1 < S.safe.length) (hs : S.safe.length ≤ 512) (hd : S.down = false) (hB : burnE S.fused S.fuse = 0) (hd2 : S.burn.down = false) (hB2 : burnE S.burn.fused S.burn.fuse = 0) (hN : N < 900000) (hF : ∀ k, F k → k < w.heap.size)
    (hL : (S.newest k).length = 512) (hL2 : (S.burn.newest (k + 1)).length = 512) (hsb : S.burn.safe = S.safe) :
    Calls Try.prog 14 #[.pointer (some ⟨b, 0, none⟩), .int .i64 k] w fun e w' => ∃ a1 n1 c1 a2 n2 c2, e = .returned (.tuple #[.agg (twoC (unl k (S.newest k)) (unl k (S.burn.newest (k + 1))) (.slice a1 n1 c1) (.slice a2 n2 c2)), .int .i64 0]) ∧
      (∀ ad, a1 = some ad → w.heap.size ≤ ad.block) ∧ (∀ ad, a2 = some ad → w.heap.size ≤ ad.block) ∧ Sl w' (.slice a1 n1 c1) (unl k (S.newest k)).data ∧ Sl w' (.slice a2 n2 c2) (unl k (S.burn.newest (k + 1))).data ∧ Dev w' b F (N + 1 + 1) S.burn.burn ∧ Kept F w w' := by
  have HD := hide h
  clear h
  obtain ⟨s1, hs1⟩ : ∃ s, unl k (S.newest k) = s := ⟨_, rfl⟩
  obtain ⟨s2, hs2⟩ : ∃ s, unl k (S.burn.newest (k + 1)) = s := ⟨_, rfl⟩
  obtain ⟨W, hW⟩ : ∃ W, W = (w.alloc (.cells two0 50)).alloc (.cells two0 50) := ⟨_, rfl⟩
  have HW : Hid (Below w.heap.size w W) := hide (by rw [hW]; exact ((Below.refl _ _).alloc (Nat.le_refl _) _).alloc (by simp) _)
  have HZ : Hid (W.heap[w.heap.size]? = some (.cells two0 50 (0, 0))) := hide (by rw [hW, Below.heap_alloc _ _ _ (by simp)]; exact heap_alloc_self _ _)
  have HY : Hid (W.heap[w.heap.size + 1]? = some (.cells two0 50 (0, 0))) := hide (by rw [hW]; have := heap_alloc_self (w.alloc (.cells two0 50)) (.cells two0 50); simpa using this)
  have sW : W.heap.size = w.heap.size + 2 := by rw [hW]; simp
  rw [hs1, hs2]
  go_enter Try.func14, Try.ntmps14
  go_wp2_with fail
  rw [← hW]
  clear hW
  refine wp_loop_rounds 3 ?_
  rw [rounds_succ]
  go_wp2_with fail
  refine (Read_dev ((unhide HD).grown (unhide HW)) k (by omega) hd hB (by omega)).mono ?_
  rintro e w1 ⟨q, rfl, hq, hq1, d1, k1⟩
  have z1 : w1.heap.size ≥ W.heap.size := k1.size
  have lq := lt_of_block hq1
  have HZ1 : Hid (w1.heap[w.heap.size]? = some (.cells two0 50 (0, 0))) := hide ((k1.block _ (by omega) (fun h => by have := hF _ h; omega)).trans (unhide HZ))
  have HY1 : Hid (w1.heap[w.heap.size + 1]? = some (.cells two0 50 (0, 0))) := hide ((k1.block _ (by omega) (fun h => by have := hF _ h; omega)).trans (unhide HY))
  have H1 := hide (And.intro d1 k1)
  have HS1 := hide (Sl.ofRow hL hq1)
  clear d1 k1 hq1 HZ HY
  go_wp2_with fail
  refine (unlay_any _ (S.newest k) k w1 (unhide HS1) (by omega) (by omega)).mono ?_
  rintro e w2 ⟨a1, n1, c1, rfl, fr1, sl1, b2⟩
  rw [hs1] at sl1 ⊢
  have z2 := b2.size
  have HZ2 : Hid (w2.heap[w.heap.size]? = some (.cells two0 50 (0, 0))) := hide ((b2.block _ (by omega)).trans (unhide HZ1))
  have HY2 : Hid (w2.heap[w.heap.size + 1]? = some (.cells two0 50 (0, 0))) := hide ((b2.block _ (by omega)).trans (unhide HY1))
  have H2 := hide (And.intro fr1 (And.intro sl1 b2))
  clear fr1 sl1 b2 HZ1 HY1 HS1
  have HT2 := hide (there_row (unhide HY2) 0 4 (by decide))
  go_wp2_with (first | (refine wpList_store_mid rfl 49 (.tmp 29) (.tmp 28) rfl (w.heap.size + 1) 0 (slotC s1 (.slice a1 n1 c1)) rfl rfl (unhide HT2) sizeSlot (one_slotL _ _ _ _) ?_) | fail)
  obtain ⟨w3, hw3⟩ : ∃ w3, w3 = w2.setCells (w.heap.size + 1) 0 (slotC s1 (.slice a1 n1 c1)).toList := ⟨_, rfl⟩
  rw [← hw3]
  have K3 : Kept (fun j => j = w.heap.size + 1) w2 w3 := by rw [hw3]; exact kept_cells _ _ _ _
  have HY3 : Hid (w3.heap[w.heap.size + 1]? = some (.cells (twoC s1 noSlot (.slice a1 n1 c1) (.slice none 0 0)) 50 (0, 0))) := hide (by rw [hw3]; exact heap_setCells_row _ _ _ 0 _ _ (unhide HY2) (by show 0 + 4 ≤ 8; omega))
  have HZ3 : Hid (w3.heap[w.heap.size]? = some (.cells two0 50 (0, 0))) := hide ((K3.block _ (by omega) (by omega)).trans (unhide HZ2))
  have HL3 : Hid (Sl w3 (.slice a1 n1 c1) s1.data) := hide ((unhide H2).2.1.kept K3 (fun ad h => by have := (unhide H2).1 ad h; omega))
  have HD3 : Hid (Dev w3 b F (N + 1) S.burn) := hide (((unhide H1).1.grown (unhide H2).2.2).frame fun j hj hl => K3.block j hl (by have := hF _ hj; omega))
  have HK3 : Hid (Kept F w w3) := hide (by
    refine ⟨K3.os.trans ((unhide H2).2.2.os.trans ((unhide H1).2.os.trans (unhide HW).os)), K3.tape.trans ((unhide H2).2.2.tape.trans ((unhide H1).2.tape.trans (unhide HW).tape)), K3.output.trans ((unhide H2).2.2.output.trans ((unhide H1).2.output.trans (unhide HW).output)), ?_, fun j hj hn => ?_⟩
    · have := K3.size; omega
    · rw [K3.block j (by omega) (by omega), (unhide H2).2.2.block j (by omega), (unhide H1).2.block j (by omega) hn, (unhide HW).block j hj])
  have z3 := K3.size
  have HR1 : Hid (∀ ad, a1 = some ad → w.heap.size + 2 ≤ ad.block) := hide (fun ad h => by have := (unhide H2).1 ad h; omega)
  clear hw3 K3 HY2 HZ2 H2 H1 HW HT2
  rw [rounds_succ]
  go_wp2_with fail
  have RD := Read_dev (unhide HD3) (k + 1) (by rw [hsb]; omega) hd2 hB2 (by omega)
  rw [show ((k + 1 : Nat) : Int) = (k : Int) + 1 by omega] at RD
  refine RD.mono ?_
  clear RD
  rintro e w4 ⟨q4, rfl, hq4, hq41, d4, k4⟩
  have z4 := k4.size
  have HZ4 : Hid (w4.heap[w.heap.size]? = some (.cells two0 50 (0, 0))) := hide ((k4.block _ (by omega) (fun h => by have := hF _ h; omega)).trans (unhide HZ3))
  have HY4 : Hid (w4.heap[w.heap.size + 1]? = some (.cells (twoC s1 noSlot (.slice a1 n1 c1) (.slice none 0 0)) 50 (0, 0))) := hide ((k4.block _ (by omega) (fun h => by have := hF _ h; omega)).trans (unhide HY3))
  have HL4 : Hid (Sl w4 (.slice a1 n1 c1) s1.data) := hide ((unhide HL3).kept k4 (fun ad h hf => by have := (unhide HR1) ad h; have := hF _ hf; omega))
  have HK4 := hide ((unhide HK3).trans k4)
  have HD4 := hide d4
  have HS4 := hide (Sl.ofRow hL2 hq41)
  clear d4 k4 hq41 HZ3 HY3 HL3 HK3 HD3
  go_wp2_with fail
  refine (unlay_any _ (S.burn.newest (k + 1)) k w4 (unhide HS4) (by omega) (by omega)).mono ?_
  rintro e w5 ⟨a2, n2, c2, rfl, fr2, sl2, b5⟩
  rw [hs2] at sl2 ⊢
  have z5 := b5.size
  have HZ5 : Hid (w5.heap[w.heap.size]? = some (.cells two0 50 (0, 0))) := hide ((b5.block _ (by omega)).trans (unhide HZ4))
  have HY5 : Hid (w5.heap[w.heap.size + 1]? = some (.cells (twoC s1 noSlot (.slice a1 n1 c1) (.slice none 0 0)) 50 (0, 0))) := hide ((b5.block _ (by omega)).trans (unhide HY4))
  have H5 := hide (And.intro fr2 (And.intro sl2 b5))
  clear fr2 sl2 b5 HZ4 HY4 HS4
  have HT5 := hide (there_row (unhide HY5) 4 4 (by show 4 + 4 ≤ 8; omega))
  go_wp2_with (first | (refine wpList_store_mid rfl 49 (.tmp 29) (.tmp 28) rfl (w.heap.size + 1) 4 (slotC s2 (.slice a2 n2 c2)) rfl rfl (unhide HT5) sizeSlot (one_slotL _ _ _ _) ?_) | fail)
  obtain ⟨w6, hw6⟩ : ∃ w6, w6 = w5.setCells (w.heap.size + 1) 4 (slotC s2 (.slice a2 n2 c2)).toList := ⟨_, rfl⟩
  rw [← hw6]
  have K6 : Kept (fun j => j = w.heap.size + 1) w5 w6 := by rw [hw6]; exact kept_cells _ _ _ _
  have HY6 : Hid (w6.heap[w.heap.size + 1]? = some (.cells (twoC s1 s2 (.slice a1 n1 c1) (.slice a2 n2 c2)) 50 (0, 0))) := hide (by rw [hw6]; exact heap_setCells_row _ _ _ 4 _ _ (unhide HY5) (by show 4 + 4 ≤ 8; omega))
  have HZ6 : Hid (w6.heap[w.heap.size]? = some (.cells two0 50 (0, 0))) := hide ((K6.block _ (by omega) (by omega)).trans (unhide HZ5))
  have z6 := K6.size
  have H6 := hide K6
  clear hw6 K6 HY5 HZ5 HT5
  rw [rounds_succ]
  go_wp2_with (first | (refine wpList_load_row rfl 50 (.tmp 6) rfl (w.heap.size + 1) rfl 50 (twoC s1 s2 (.slice a1 n1 c1) (.slice a2 n2 c2)) (0, 0) _ (unhide HY6) Try.underlying50 rfl sizeTwo ?_) | (refine wpList_store_row rfl 50 (.tmp 4) (.tmp 31) rfl w.heap.size (twoC s1 s2 (.slice a1 n1 c1) (.slice a2 n2 c2)) rfl rfl 50 two0 (unhide HZ6) sizeTwo rfl (one_two _ _ _ _ _ _ _ _) ?_))
  (try simp only [Exit.inBlock, Exit.then])
  have KR : Kept (fun j => j = w.heap.size) w6 (w6.setRow w.heap.size (twoC s1 s2 (.slice a1 n1 c1) (.slice a2 n2 c2))) := ⟨rfl, rfl, rfl, by simp [World.setRow], fun j _ hn => setRow_other _ _ _ _ hn⟩
  have H5' := unhide H5
  have H6' := unhide H6
  have HD5 := ((unhide HD4).grown H5'.2.2).frame (fun j hj hl => H6'.block j hl (by have := hF _ hj; omega))
  refine bodyPost_ret (v := .tuple #[.agg (twoC s1 s2 (.slice a1 n1 c1) (.slice a2 n2 c2)), .int .i64 0]) (results_row_tmp rfl _ _ w.heap.size _ _ rfl rfl (run_loadVar_row _ w.heap.size 50 50 (twoC s1 s2 (.slice a1 n1 c1) (.slice a2 n2 c2)) (0, 0) _ (setRow_heap _ _ _ _ _ _ (unhide HZ6)) Try.underlying50 rfl sizeTwo)) rfl ⟨a1, n1, c1, a2, n2, c2, rfl, ?_, ?_, ?_, ?_, ?_, ?_⟩
  · exact fun ad h => by have := unhide HR1 ad h; omega
  · exact fun ad h => by have := H5'.1 ad h; omega
  · exact (((unhide HL4).below H5'.2.2 (Nat.le_refl _)).kept H6' (fun ad h => by have := unhide HR1 ad h; omega)).kept KR (fun ad h => by have := unhide HR1 ad h; omega)
  · exact (H5'.2.1.kept H6' (fun ad h => by have := H5'.1 ad h; omega)).kept KR (fun ad h => by have := H5'.1 ad h; omega)
  · exact HD5.frame fun j hj hl => KR.block j hl (by have := hF _ hj; omega)
  · have K4 := unhide HK4
    refine ⟨KR.os.trans (H6'.os.trans (H5'.2.2.os.trans K4.os)), KR.tape.trans (H6'.tape.trans (H5'.2.2.tape.trans K4.tape)), KR.output.trans (H6'.output.trans (H5'.2.2.output.trans K4.output)), ?_, fun j hj hn => ?_⟩
    · have := KR.size; omega
    · rw [KR.block j (by omega) (by omega), H6'.block j (by omega) (by omega), H5'.2.2.block j (by omega), K4.block j hj hn]
end Go.Proofs.Ytnmmdefkmjlkaaa

/-
  DERIVED. The walk of read: where the device stops at the second block.
-/
namespace Go.Proofs.Ytnmmdefkmjlkaaa
open Go.RowKit
set_option linter.unusedVariables false

set_option maxHeartbeats 4000000 in
theorem read_half {w : World} {b : Nat} {F : Nat → Prop} {N : Nat} {S : St} (h : Dev w b F N S) (k : Nat) (hk : k + 1 < S.safe.length) (hs : S.safe.length ≤ 512) (hd : S.down = false) (hB : burnE S.fused S.fuse = 0) (hd2 : S.burn.down = false) (hB2 : burnE S.burn.fused S.burn.fuse ≠ 0) (hN : N < 900000) (hF : ∀ k, F k → k < w.heap.size)
    (hL : (S.newest k).length = 512) (hsb : S.burn.safe = S.safe) :
    Calls Try.prog 14 #[.pointer (some ⟨b, 0, none⟩), .int .i64 k] w fun e w' => e = .returned (.tuple #[.agg two0, .int .i64 2]) ∧ Dev w' b F (N + 1 + 1) S.burn.burn ∧ Kept F w w' := by
  have HD := hide h
  clear h
  obtain ⟨s1, hs1⟩ : ∃ s, unl k (S.newest k) = s := ⟨_, rfl⟩
  obtain ⟨W, hW⟩ : ∃ W, W = (w.alloc (.cells two0 50)).alloc (.cells two0 50) := ⟨_, rfl⟩
  have HW : Hid (Below w.heap.size w W) := hide (by rw [hW]; exact ((Below.refl _ _).alloc (Nat.le_refl _) _).alloc (by simp) _)
  have HZ : Hid (W.heap[w.heap.size]? = some (.cells two0 50 (0, 0))) := hide (by rw [hW, Below.heap_alloc _ _ _ (by simp)]; exact heap_alloc_self _ _)
  have HY : Hid (W.heap[w.heap.size + 1]? = some (.cells two0 50 (0, 0))) := hide (by rw [hW]; have := heap_alloc_self (w.alloc (.cells two0 50)) (.cells two0 50); simpa using this)
  have sW : W.heap.size = w.heap.size + 2 := by rw [hW]; simp
  go_enter Try.func14, Try.ntmps14
  go_wp2_with fail
  rw [← hW]
  clear hW
  refine wp_loop_rounds 2 ?_
  rw [rounds_succ]
  go_wp2_with fail
  refine (Read_dev ((unhide HD).grown (unhide HW)) k (by omega) hd hB (by omega)).mono ?_
  rintro e w1 ⟨q, rfl, hq, hq1, d1, k1⟩
  have z1 : w1.heap.size ≥ W.heap.size := k1.size
  have lq := lt_of_block hq1
  have HZ1 : Hid (w1.heap[w.heap.size]? = some (.cells two0 50 (0, 0))) := hide ((k1.block _ (by omega) (fun h => by have := hF _ h; omega)).trans (unhide HZ))
  have HY1 : Hid (w1.heap[w.heap.size + 1]? = some (.cells two0 50 (0, 0))) := hide ((k1.block _ (by omega) (fun h => by have := hF _ h; omega)).trans (unhide HY))
  have H1 := hide (And.intro d1 k1)
  have HS1 := hide (Sl.ofRow hL hq1)
  clear d1 k1 hq1 HZ HY
  go_wp2_with fail
  refine (unlay_any _ (S.newest k) k w1 (unhide HS1) (by omega) (by omega)).mono ?_
  rintro e w2 ⟨a1, n1, c1, rfl, fr1, sl1, b2⟩
  rw [hs1] at sl1 ⊢
  have z2 := b2.size
  have HZ2 : Hid (w2.heap[w.heap.size]? = some (.cells two0 50 (0, 0))) := hide ((b2.block _ (by omega)).trans (unhide HZ1))
  have HY2 : Hid (w2.heap[w.heap.size + 1]? = some (.cells two0 50 (0, 0))) := hide ((b2.block _ (by omega)).trans (unhide HY1))
  have H2 := hide (And.intro fr1 (And.intro sl1 b2))
  clear fr1 sl1 b2 HZ1 HY1 HS1
  have HT2 := hide (there_row (unhide HY2) 0 4 (by decide))
  go_wp2_with (first | (refine wpList_store_mid rfl 49 (.tmp 29) (.tmp 28) rfl (w.heap.size + 1) 0 (slotC s1 (.slice a1 n1 c1)) rfl rfl (unhide HT2) sizeSlot (one_slotL _ _ _ _) ?_) | fail)
  obtain ⟨w3, hw3⟩ : ∃ w3, w3 = w2.setCells (w.heap.size + 1) 0 (slotC s1 (.slice a1 n1 c1)).toList := ⟨_, rfl⟩
  rw [← hw3]
  have K3 : Kept (fun j => j = w.heap.size + 1) w2 w3 := by rw [hw3]; exact kept_cells _ _ _ _
  have HY3 : Hid (w3.heap[w.heap.size + 1]? = some (.cells (twoC s1 noSlot (.slice a1 n1 c1) (.slice none 0 0)) 50 (0, 0))) := hide (by rw [hw3]; exact heap_setCells_row _ _ _ 0 _ _ (unhide HY2) (by show 0 + 4 ≤ 8; omega))
  have HZ3 : Hid (w3.heap[w.heap.size]? = some (.cells two0 50 (0, 0))) := hide ((K3.block _ (by omega) (by omega)).trans (unhide HZ2))
  have HL3 : Hid (Sl w3 (.slice a1 n1 c1) s1.data) := hide ((unhide H2).2.1.kept K3 (fun ad h => by have := (unhide H2).1 ad h; omega))
  have HD3 : Hid (Dev w3 b F (N + 1) S.burn) := hide (((unhide H1).1.grown (unhide H2).2.2).frame fun j hj hl => K3.block j hl (by have := hF _ hj; omega))
  have HK3 : Hid (Kept F w w3) := hide (by
    refine ⟨K3.os.trans ((unhide H2).2.2.os.trans ((unhide H1).2.os.trans (unhide HW).os)), K3.tape.trans ((unhide H2).2.2.tape.trans ((unhide H1).2.tape.trans (unhide HW).tape)), K3.output.trans ((unhide H2).2.2.output.trans ((unhide H1).2.output.trans (unhide HW).output)), ?_, fun j hj hn => ?_⟩
    · have := K3.size; omega
    · rw [K3.block j (by omega) (by omega), (unhide H2).2.2.block j (by omega), (unhide H1).2.block j (by omega) hn, (unhide HW).block j hj])
  have z3 := K3.size
  have HR1 : Hid (∀ ad, a1 = some ad → w.heap.size + 2 ≤ ad.block) := hide (fun ad h => by have := (unhide H2).1 ad h; omega)
  clear hw3 K3 HY2 HZ2 H2 H1 HW HT2
  rw [rounds_succ]
  go_wp2_with fail
  have RD := Read_dev_burnt (unhide HD3) (k + 1) (by rw [hsb]; omega) hd2 hB2 (by omega)
  rw [show ((k + 1 : Nat) : Int) = (k : Int) + 1 by omega] at RD
  refine RD.mono ?_
  clear RD
  rintro e w4 ⟨rfl, d4, k4⟩
  have z4 := k4.size
  have HZ4 : Hid (w4.heap[w.heap.size]? = some (.cells two0 50 (0, 0))) := hide ((k4.block _ (by omega) (fun h => by have := hF _ h; omega)).trans (unhide HZ3))
  have HK4 := hide ((unhide HK3).trans k4)
  have HD4 := hide d4
  clear d4 k4 HZ3 HY3 HL3 HK3 HD3
  go_wp2_with (refine wpList_store_row rfl 50 (.tmp 4) (.tmp 23) rfl w.heap.size two0 rfl rfl 50 two0 (unhide HZ4) sizeTwo rfl one_two0 ?_)
  (try simp only [Exit.inBlock, Exit.then])
  have KR : Kept (fun j => j = w.heap.size) w4 (w4.setRow w.heap.size two0) := ⟨rfl, rfl, rfl, by simp [World.setRow], fun j _ hn => setRow_other _ _ _ _ hn⟩
  refine bodyPost_ret (v := .tuple #[.agg two0, .int .i64 2]) (results_row_tmp rfl _ _ w.heap.size two0 _ rfl rfl (run_loadVar_row _ w.heap.size 50 50 two0 (0, 0) _ (setRow_heap _ _ _ _ _ _ (unhide HZ4)) Try.underlying50 rfl sizeTwo)) rfl ⟨rfl, ?_, ?_⟩
  · exact (unhide HD4).frame fun j hj hl => KR.block j hl (by have := hF _ hj; omega)
  · have K4 := unhide HK4
    refine ⟨KR.os.trans K4.os, KR.tape.trans K4.tape, KR.output.trans K4.output, ?_, fun j hj hn => ?_⟩
    · have := KR.size; omega
    · rw [KR.block j (by omega) (by omega), K4.block j hj hn]
end Go.Proofs.Ytnmmdefkmjlkaaa

/-
  DERIVED. Crash.
-/
namespace Go.Proofs.Ytnmmdefkmjlkaaa
open Go.RowKit Go.Maps
set_option linter.unusedVariables false

/-- A slice of numbers. -/
def Ints (w : World) (v : Value) (l : List Int) : Prop :=
  ∃ ao cap, v = .slice ao l.length cap ∧ l.length ≤ 9223372036854775807 ∧ (∀ x ∈ l, -9223372036854775808 ≤ x ∧ x < 9223372036854775808) ∧ (l ≠ [] → ∃ pb off, ao = some ⟨pb, off, none⟩ ∧ pb < w.heap.size ∧ ∀ i, (h : i < l.length) → w.cell? ⟨pb, off + i, none⟩ = some (.int .i64 l[i]))

theorem idx_ints (ao : Option Addr) (n cap pb off j : Nat) (h : ao = some ⟨pb, off, none⟩) (hj : j < n) (W : World) : (Instr.indexAt 35 (.slice ao n cap) (.int .i64 (j : Nat))).run Try.prog W = .ok (.pointer (some ⟨pb, off + j, none⟩)) W := by
  subst h
  have hu : Try.prog.underlying 35 = some (.slice (Try.prog.elem 35)) := by kernel_rfl
  rw [run_indexAt_slice (h := hu), if_pos (by omega)]
  have e : Try.prog.elem 35 = 3 := by kernel_rfl
  have e2 : (sizeOf 3).run Try.prog W = .ok 1 W := by kernel_rfl
  rw [e, e2, Result.andThen_ok, Nat.mul_one, Int.toNat_natCast, addr_add]

theorem DevIn.setSafe {w : World} {b : Nat} {F : Nat → Prop} {N : Nat} {S : St} {g c m : Nat} {vf : Nat → Value} {D : DataW Value} (h : DevIn w b F N S g c m vf D) (k : Nat) (hk : k < S.safe.length) (L : List UInt8) (hL : L.length = 512) :
    DevIn (w.setCells g (k * 512) (L.map bv)) b F N { S with safe := S.safe.set k L } g c m vf D := by
  obtain ⟨n1, n2, n3⟩ := h.ne_map
  have hg := grown_setCells g (L.map bv) (k * 512) w
  have hsl : (S.safe.set k L).length = S.safe.length := List.length_set
  exact { dev := by
            show DevAt _ b (.slice _ (S.safe.set k L).length c) _ _ _ _ _
            rw [hsl]
            exact (hg.block b h.dev.lt (fun e => n3 (Option.some.inj e).symm)).trans h.dev
          safe := by
            show Blks _ (.slice _ (S.safe.set k L).length c) (S.safe.set k L)
            rw [hsl]
            exact Blks.set h.safe h.wide k hk L hL
          wide := h.wide.set hL k
          pend := by
            show PendAt _ F m g (S.safe.set k L).length N S.pend vf D
            rw [hsl]
            exact h.pend.frame' (hg.block m h.pend.own.lt (fun e => n2 (Option.some.inj e).symm)) fun j q hq hlt => hg.block q hlt fun e => (h.pend.foot j q hq).2 (Option.some.inj e)
          fb := h.fb, fg := h.fg, fm := h.fm, f1 := h.f1, f2 := h.f2, o1 := h.o1, o2 := h.o2
          n1 := by show 64 ≤ (S.safe.set k L).length; rw [hsl]; exact h.n1
          n2 := by show (S.safe.set k L).length ≤ 512; rw [hsl]; exact h.n2 }

def pickAt (ps : List Int) (i : Nat) : Int := (ps[i]?).getD 0
/-- The blocks with writes. -/
def St.keys (S : St) : List Nat := pk S.safe.length S.pend
/-- What is flushed, so far in a crash. -/
def St.crashTo (S : St) (ps : List Int) : Nat → List (List UInt8)
  | 0 => S.safe
  | i + 1 => (St.crashTo S ps i).set ((S.keys[i]?).getD 0) (St.keptB { S with safe := St.crashTo S ps i } ((S.keys[i]?).getD 0) (pickAt ps i))
theorem St.crashTo_len (S : St) (ps : List Int) : ∀ i, (S.crashTo ps i).length = S.safe.length
  | 0 => rfl
  | i + 1 => by rw [St.crashTo, List.length_set, St.crashTo_len S ps i]
def St.crashAt (S : St) (ps : List Int) (i : Nat) : St := { S with safe := S.crashTo ps i }
/-- A device behind a crash. -/
def St.crash (S : St) (ps : List Int) : St := { safe := S.crashTo ps S.keys.length, pend := fun _ => [], fused := false, fuse := 0, down := false, ops := S.ops }

theorem mem_keys {S : St} {k : Nat} (h : k ∈ S.keys) : k < S.safe.length := (mem_pk.1 h).1

/-- The device behind the clearing, its cells set. -/
theorem DevIn.cleared {w w' : World} {b : Nat} {F : Nat → Prop} {N : Nat} {S : St} {g c m : Nat} {vf : Nat → Value} {D : DataW Value} (h : DevIn w b F N S g c m vf D) (hc : w'.ownsMap Try.prog 3 rawE m 0 (.map [])) (hg : w.grownBy w' (some m)) :
    DevIn w' b F N { S with pend := fun _ => [] } g c m (fun _ => nilS) (.map []) := by
  obtain ⟨n1, n2, n3⟩ := h.ne_map
  obtain ⟨cur, hcur⟩ := Blks.mark h.safe rfl
  exact { h with
    dev := (hg.block b h.dev.lt (fun e => n1 (Option.some.inj e))).trans h.dev
    safe := Blks.frame h.safe fun q hq hlt => by cases hq; exact hg.block g hlt (fun e => n2 (Option.some.inj e))
    pend := h.pend.cleared hc }

theorem Pending_form {w : World} {b : Nat} {F : Nat → Prop} {N : Nat} {S : St} {g c m : Nat} {vf : Nat → Value} {D : DataW Value} (h : DevIn w b F N S g c m vf D) (hN : N < 1000000) :
    Calls Try.prog 21 #[.pointer (some ⟨b, 0, none⟩)] w fun e w' => ∃ ao cap, e = .returned (.slice ao S.keys.length cap) ∧ (∀ i, (hi : i < S.keys.length) → ∃ q, ao = some ⟨q, 0, none⟩ ∧ w.heap.size ≤ q ∧ q < w'.heap.size ∧ w'.cell? ⟨q, 0 + i, none⟩ = some (.int .i64 (S.keys[i] : Nat))) ∧ Below w.heap.size w w' := by
  refine (Pending_dev ⟨g, c, m, vf, D, h⟩ hN).mono ?_
  rintro e w' ⟨v, rfl, hrow, hb⟩
  rcases hrow.2 with ⟨rfl, h0⟩ | ⟨q, cap, cur, rfl, hq, hcur, _⟩
  · exact ⟨none, 0, by show _ = Ending.returned (.slice none (pk S.safe.length S.pend).length 0); rw [h0], fun i hi => by have : i < (pk S.safe.length S.pend).length := hi; omega, hb⟩
  · refine ⟨_, cap, rfl, fun i hi => ⟨q, rfl, hq, lt_of_block hcur, ?_⟩, hb⟩
    have := hrow.cells (g := q) rfl i (.int .i64 (S.keys[i] : Nat)) (by rw [List.getElem?_map]; show Option.map _ (S.keys[i]?) = _; rw [List.getElem?_eq_getElem hi]; rfl)
    rw [addr_add] at this
    exact this

set_option maxRecDepth 100000 in
set_option maxHeartbeats 3200000 in
theorem Crash_in {w : World} {b : Nat} {F : Nat → Prop} {N : Nat} {S : St} {g c m : Nat} {vf : Nat → Value} {D : DataW Value} (h : DevIn w b F N S g c m vf D) (hN : N < 1000000) (ps : List Int) (v : Value) (hv : Ints w v ps) (hvo : ps ≠ [] → ∀ pb, v.ownBlock = some pb → ¬ F pb) :
    Calls Try.prog 11 #[.pointer (some ⟨b, 0, none⟩), v] w fun e w' => e = .returned (.tuple #[]) ∧ Dev w' b F N (S.crash ps) ∧ Kept F w w' := by
  obtain ⟨ap, cp, rfl, hpl, hpr, hpc⟩ := hv
  have HD := hide h
  have HP := hide hpc
  have HR := hide hpr
  have hkl : S.keys.length ≤ 512 := Nat.le_trans (pk_len _ _) h.n2
  have hblt := h.dev.lt
  have hglt : g < w.heap.size := lt_of_block (Blks.mark h.safe rfl).choose_spec
  clear h hpc hpr
  go_enter Try.func11, Try.ntmps11
  go_wp2_with (first | (go_at_call 21; refine (Pending_form (unhide HD) hN).mono ?_; rintro e w2 ⟨ao, cap, rfl, hao, hb2⟩) | fail)
  have HA := hide hao
  have HB := hide hb2
  clear hao hb2
  go_wp2_with fail
  go_loopw [12] (fun i wr => ∃ j : Nat, j ≤ S.keys.length ∧ i = .int .i64 j ∧ DevIn wr b F N (S.crashAt ps j) g c m vf D ∧ w2.grownBy wr (some g)) (fun i _ => S.keys.length - (intOf i).toNat)
  case atStart => exact ⟨0, Nat.zero_le _, rfl, (unhide HD).frame fun j _ hj => (unhide HB).block j hj, ⟨rfl, rfl, rfl, Nat.le_refl _, fun _ _ _ => rfl⟩⟩
  case round =>
    obtain ⟨j, hj, rfl, hdv, hgr⟩ := hrel
    have HV := hide hdv
    have HG := hide hgr
    have hws : w.heap.size ≤ wr.heap.size := Nat.le_trans (unhide HB).size hgr.size
    clear hdv hgr
    by_cases hlt : j < S.keys.length
    · obtain ⟨q, hq, hqw, hq2, hqc⟩ := unhide HA j hlt
      have hix := idx_ints ao S.keys.length cap q 0 j hq hlt
      have hcl : wr.cell? ⟨q, 0 + j, none⟩ = some (.int .i64 (S.keys[j] : Nat)) := ((unhide HG).cell_far ⟨q, 0 + j, none⟩ hq2 (fun e => by have : q = g := Option.some.inj e; omega)).trans hqc
      obtain ⟨k, hk⟩ : ∃ k, k = S.keys[j] := ⟨_, rfl⟩
      have hkn : k < S.safe.length := by rw [hk]; exact mem_keys (List.getElem_mem hlt)
      rw [← hk, Nat.zero_add] at hcl
      simp only [Nat.zero_add] at hix
      have HK := hide hk
      clear hk hq hqc
      have hkn2 : k < (S.crashAt ps j).safe.length := by show k < (S.crashTo ps j).length; rw [St.crashTo_len]; exact hkn
      obtain ⟨p, hp⟩ : ∃ p, p = pickAt ps j := ⟨_, rfl⟩
      have hpb : -9223372036854775808 ≤ p ∧ p < 9223372036854775808 := by
        rw [hp]
        unfold pickAt
        by_cases e : j < ps.length
        · rw [List.getElem?_eq_getElem e, Option.getD_some]; exact unhide HR _ (List.getElem_mem e)
        · rw [List.getElem?_eq_none (by omega)]; decide
      obtain ⟨cs, hcs⟩ : ∃ cs, cs = ((S.crashAt ps j).keptB k p).map bv := ⟨_, rfl⟩
      have hc5 : cs.length = 512 := by rw [hcs, List.length_map]; exact St.keptB_len (unhide HV) k hkn2 p
      have h1c : ∀ v ∈ cs, v.oneCell' = true := by rw [hcs]; exact bv_one _
      have hkept := fun W hW => kept_dev ((unhide HV).frame (w' := W) hW) k hkn2 p hpb.1 hpb.2 (by omega)
      rw [← hcs] at hkept
      have HKP := hide hkept
      have HCS := hide hcs
      have HPP := hide hp
      clear hkept hcs
      have hn : (S.crashAt ps j).safe.length = S.safe.length := St.crashTo_len S ps j
      have c0 := (unhide HV).dev.c0
      rw [hn] at c0
      have th : wr.there g (k * 512) 512 := Blks.there (unhide HV).safe (unhide HV).wide k hkn2
      have HTH := hide th
      clear hn th hkn2
      have hi : (Try.prog.info? 60).map (·.size) = some cs.length := by rw [hc5]; exact sizeBlock
      have hu := Try.underlying60
      have hk0 : (0 : Int) ≤ (k : Int) := Int.natCast_nonneg _
      have hk1 : (k : Int) < (S.safe.length : Int) := by omega
      have hbg : b ≠ g := fun e => (unhide HV).ne_map.2.2 e.symm
      have hbr : b < wr.heap.size := (unhide HV).dev.lt
      have hgr : g < wr.heap.size := lt_of_block (Blks.mark (unhide HV).safe rfl).choose_spec
      have HS3 : Hid (∀ W, Below wr.heap.size wr W → W.cell? ⟨b, 0, none⟩ = some (.slice (some ⟨g, 0, none⟩) S.safe.length c) ∧ W.there g (k * 512) 512) := hide fun W hW => ⟨(hW.cell (p := ⟨b, 0, none⟩) hbr).trans c0, fun i hi => by
        rw [hW.cell (p := ⟨g, k * 512 + i, none⟩) hgr, hW.frozen (p := ⟨g, k * 512 + i, none⟩) hgr]; exact unhide HTH i hi⟩
      have HS4 : Hid (∀ W, Below wr.heap.size wr W → (W.setCells g (k * 512) cs).cell? ⟨b, 0, none⟩ = some (.slice (some ⟨g, 0, none⟩) S.safe.length c) ∧ (W.setCells g (k * 512) cs).there g (k * 512) 512) := hide fun W hW => by
        obtain ⟨q1, q2⟩ := unhide HS3 W hW
        exact ⟨(World.cell?_setCells_out g cs _ W ⟨b, 0, none⟩ (fun e => absurd e hbg)).trans q1, World.there_setCells q2 _ _ _⟩
      have HFIN : Hid (∀ W, Below wr.heap.size wr W → DevIn (W.setCells g (k * 512) cs) b F N (S.crashAt ps (j + 1)) g c m vf D ∧ w2.grownBy (W.setCells g (k * 512) cs) (some g)) := hide fun W hW => by
        have h1 := ((unhide HV).frame (w' := W) fun i _ hi => hW.block i hi).setSafe k (by show k < (S.crashTo ps j).length; rw [St.crashTo_len]; exact hkn) ((S.crashAt ps j).keptB k p) (St.keptB_len (unhide HV) k (by show k < (S.crashTo ps j).length; rw [St.crashTo_len]; exact hkn) p)
        rw [← unhide HCS] at h1
        have e : S.crashAt ps (j + 1) = { S.crashAt ps j with safe := (S.crashAt ps j).safe.set k ((S.crashAt ps j).keptB k p) } := by
          have ek : (S.keys[j]?).getD 0 = k := by rw [List.getElem?_eq_getElem hlt, Option.getD_some, ← unhide HK]
          unfold St.crashAt
          rw [St.crashTo, ek, ← unhide HPP]
        refine ⟨by rw [e]; exact h1, (unhide HG).trans (World.grownBy.trans ?_ (grown_setCells g cs _ W))⟩
        exact ⟨hW.os, hW.tape, hW.output, hW.size, fun i hi _ => hW.block i hi⟩
      by_cases hj2 : j < ps.length
      · obtain ⟨pb, off, hap, hpw, hpcl⟩ := unhide HP (fun e => by rw [e] at hj2; simp at hj2)
        have hix2 := idx_ints ap ps.length cp pb off j hap hj2
        have hpg : pb ≠ g := fun e => hvo (fun e2 => by rw [e2] at hj2; simp at hj2) pb (by rw [hap]; rfl) (e ▸ (unhide HD).fg)
        have hcl2 : wr.cell? ⟨pb, off + j, none⟩ = some (.int .i64 p) := by
          rw [(unhide HG).cell_far ⟨pb, off + j, none⟩ (by have := (unhide HB).size; show pb < w2.heap.size; omega) (fun e => hpg (Option.some.inj e)), (unhide HB).cell (p := ⟨pb, off + j, none⟩) hpw, hpcl j hj2, hp]
          unfold pickAt
          rw [List.getElem?_eq_getElem hj2, Option.getD_some]
        clear hp hpcl hap
        go_wp2_with fail
        go_region_held3 (fun w' => w'.cell? ⟨b, 0, none⟩ = some (.slice (some ⟨g, 0, none⟩) S.safe.length c) ∧ w'.there g (k * 512) 512)
          (first | exact ⟨c0, unhide HTH⟩ | exact unhide HS3 _ hb3 | exact unhide HS4 _ hb3)
          (first | (go_at_call 22; refine (unhide HKP wr.drew (fun _ _ _ => rfl)).mono ?_; rintro e w3 ⟨rfl, hb0⟩; have hb3 : Below wr.heap.size wr w3 := after_drew hb0))
        have HX := hide (unhide HFIN w3 hb3)
        clear hb0 hb3
        go_wp2
        refine ⟨⟨j + 1, by omega, rfl, (unhide HX).1, (unhide HX).2⟩, ?_⟩
        simp [intOf]
        omega
      · obtain rfl : p = 0 := by rw [hp]; unfold pickAt; rw [List.getElem?_eq_none (by omega)]; rfl
        clear hp
        go_wp2_with fail
        go_region_held3 (fun w' => w'.cell? ⟨b, 0, none⟩ = some (.slice (some ⟨g, 0, none⟩) S.safe.length c) ∧ w'.there g (k * 512) 512)
          (first | exact ⟨c0, unhide HTH⟩ | exact unhide HS3 _ hb3 | exact unhide HS4 _ hb3)
          (first | (go_at_call 22; refine (unhide HKP wr.drew (fun _ _ _ => rfl)).mono ?_; rintro e w3 ⟨rfl, hb0⟩; have hb3 : Below wr.heap.size wr w3 := after_drew hb0))
        have HX := hide (unhide HFIN w3 hb3)
        clear hb0 hb3
        go_wp2
        refine ⟨⟨j + 1, by omega, rfl, (unhide HX).1, (unhide HX).2⟩, ?_⟩
        simp [intOf]
        omega
    · obtain rfl : j = S.keys.length := by omega
      obtain ⟨w4, hcl, hcm, hcg⟩ := clear_own (unhide HV).pend.own 0
      have h4 := (unhide HV).cleared hcm hcg
      have c1 := (unhide HV).dev.c1
      have d4 := h4.dev
      have c4 := d4.c4
      have n4 := d4.nf 4
      have H4 := hide (d4.s4 false)
      have c2 := (unhide H4).c2
      have n2 := (unhide H4).nf 2
      have H2 := hide ((unhide H4).s2 false)
      have c3 := (unhide H2).c3
      have n3 := (unhide H2).nf 3
      have HO := hide ((((Only.refl b w4).set 4 (.bool false)).set 2 (.bool false)).set 3 (.int .i64 0))
      have HF : Hid (Dev (((w4.setCell ⟨b, 4, none⟩ (.bool false)).setCell ⟨b, 2, none⟩ (.bool false)).setCell ⟨b, 3, none⟩ (.int .i64 0)) b F N (S.crash ps) ∧ Kept F w (((w4.setCell ⟨b, 4, none⟩ (.bool false)).setCell ⟨b, 2, none⟩ (.bool false)).setCell ⟨b, 3, none⟩ (.int .i64 0))) := hide ⟨⟨g, c, m, _, _, h4.turn (T := S.crash ps) (unhide HO) (Nat.le_refl _) ((unhide H2).s3 0) rfl rfl (by show (0 : Int) ≤ 0; omega) (by show (0 : Int) < 9223372036854775808; omega) h4.o1 h4.o2⟩,
        (((Kept.of_below (unhide HB)).trans (Kept.of_grown (unhide HG) fun i hi => by cases hi; exact (unhide HD).fg)).trans (Kept.of_grown hcg fun i hi => by cases hi; exact (unhide HD).fm)).trans (Kept.of_only (unhide HO) (unhide HD).fb)⟩
      clear h4 d4 hcm hcg
      go_wp2
      go_end0
      exact ⟨rfl, unhide HF⟩

theorem Crash_dev {w : World} {b : Nat} {F : Nat → Prop} {N : Nat} {S : St} (h : Dev w b F N S) (hN : N < 1000000) (ps : List Int) (v : Value) (hv : Ints w v ps) (hvo : ps ≠ [] → ∀ pb, v.ownBlock = some pb → ¬ F pb) :
    Calls Try.prog 11 #[.pointer (some ⟨b, 0, none⟩), v] w fun e w' => e = .returned (.tuple #[]) ∧ Dev w' b F N (S.crash ps) ∧ Kept F w w' := by
  obtain ⟨g, c, m, vf, D, h⟩ := h
  exact Crash_in h hN ps v hv hvo

/-- The device's blocks are there. -/
theorem Dev.cap {w : World} {b : Nat} {F : Nat → Prop} {N : Nat} {S : St} (h : Dev w b F N S) : Dev w b (fun k => F k ∧ k < w.heap.size) N S := by
  obtain ⟨g, c, m, vf, D, h⟩ := h
  have hg : g < w.heap.size := lt_of_block (Blks.mark h.safe rfl).choose_spec
  exact ⟨g, c, m, vf, D, { h with fb := ⟨h.fb, h.dev.lt⟩, fg := ⟨h.fg, hg⟩, fm := ⟨h.fm, h.pend.own.lt⟩, pend := { h.pend with foot := fun k q hq => ⟨⟨(h.pend.foot k q hq).1, lt_of_block (Blks.mark (h.pend.rows k) hq).choose_spec⟩, (h.pend.foot k q hq).2⟩ } }⟩

/-- F, and what is new between two worlds. -/
def ext (F : Nat → Prop) (w w' : World) : Nat → Prop := fun k => F k ∨ (w.heap.size ≤ k ∧ k < w'.heap.size)

theorem Write_ext {w : World} {b : Nat} {F : Nat → Prop} {N : Nat} {S : St} (h : Dev w b F N S) (k : Nat) (L : List UInt8) (v : Value) (hk : k < S.safe.length) (hd : S.down = false) (hB : burnE S.fused S.fuse = 0)
    (hv : Sl w v L) (hL : L.length = 512) (hN : N < 1000000) :
    Calls Try.prog 27 #[.pointer (some ⟨b, 0, none⟩), .int .i64 k, v] w fun e w' => e = .returned (.int .i64 0) ∧ Dev w' b (ext F w w') (N + 2) (S.burn.wrote k L) ∧ Kept F w w' := by
  have h2 : Dev w b (fun k => F k ∨ w.heap.size ≤ k) N S := h.mono (fun k hk => .inl hk) (Nat.le_refl _)
  refine (Write_dev h2 k L v hk hd hB hv hL hN (fun j hj => .inr hj)).mono ?_
  rintro e w' ⟨rfl, hd', hk'⟩
  refine ⟨rfl, hd'.cap.mono (fun j hj => ?_) (Nat.le_refl _), hk'.mono fun j hj hf => ?_⟩
  · rcases hj with ⟨h1 | h1, h2⟩
    · exact .inl h1
    · exact .inr ⟨h1, h2⟩
  · rcases hf with h1 | h1
    · exact h1
    · omega

/-- A new device. -/
def St.new (n : Nat) : St := { safe := List.replicate n (List.replicate 512 0), pend := fun _ => [], fused := false, fuse := 0, down := false, ops := 0 }
theorem cells_new : ∀ n, cellsOf (List.replicate n (List.replicate 512 (0 : UInt8))) = List.replicate (n * 512) (.int .u8 0)
  | 0 => by simp [cellsOf]
  | n + 1 => by
    rw [List.replicate_succ, cellsOf_cons, cells_new n, List.map_replicate]
    have e : (n + 1) * 512 = 512 + n * 512 := by omega
    rw [e, List.replicate_append_replicate.symm]
    rfl
theorem New_dev (n : Nat) (w : World) (h1 : 64 ≤ n) (h2 : n ≤ 512) :
    Calls Try.prog 5 #[.int .i64 n] w fun e w' => e = .returned (.tuple #[.pointer (some ⟨w.heap.size + 2, 0, none⟩), .int .i64 0]) ∧ Dev w' (w.heap.size + 2) (fun k => w.heap.size ≤ k ∧ k < w'.heap.size) 0 (St.new n) ∧ Below w.heap.size w w' := by
  refine (New_ok n w h1 h2).mono ?_
  rintro e w' ⟨rfl, rfl⟩
  have hb : Below w.heap.size w (newW w n) := newW_below w n
  have hl : (St.new n).safe.length = n := List.length_replicate
  have hrow := newW_row w n
  have hwd : Wide (St.new n).safe := fun L hL => by rw [List.eq_of_mem_replicate hL]; exact List.length_replicate
  refine ⟨rfl, ?_, hb⟩
  refine Dev.cap ⟨w.heap.size, n, w.heap.size + 1, fun _ => nilS, .map [], { dev := by rw [hl]; exact newW_dev w n, safe := ?_, wide := hwd, pend := ?_, fb := by show w.heap.size ≤ w.heap.size + 2; omega, fg := Nat.le_refl _, fm := by show w.heap.size ≤ w.heap.size + 1; omega, f1 := Int.le_refl _, f2 := by show (0 : Int) < 9223372036854775808; omega, o1 := Int.le_refl _, o2 := Int.le_refl _, n1 := by rw [hl]; exact h1, n2 := by rw [hl]; exact h2 }⟩
  · refine ⟨cellsOf_len hwd, .inr ⟨w.heap.size, n, noughts (n * 512), rfl, Nat.zero_le _, hrow, by rw [hl]; exact Nat.le_refl _, by unfold maxLen; omega, size_noughts _, ?_⟩⟩
    show (noughts (n * 512)).toList.take ((St.new n).safe.length * 512) = cellsOf (List.replicate n (List.replicate 512 0))
    rw [cells_new, hl]
    simp [noughts]
  · have hown : (newW w n).ownsMap Try.prog 3 rawE (w.heap.size + 1) 0 (.map []) := by
      refine ⟨#[], 0, newW_map w n, ⟨by simp, MapKept.stamped_empty _, by simp⟩, Nat.le_refl _, rfl⟩
    exact { own := hown, at_ := fun _ _ => rfl, has := fun kl => ⟨fun h => (by cases h), fun ⟨k, _, h, _⟩ => absurd rfl h⟩, rows := fun _ => World.ownsRow_nil _ _ _ _, len := fun _ => Nat.zero_le _, foot := fun _ _ h => (by cases h), apart := fun _ _ _ h => (by cases h), wide := fun _ L hL => (by cases hL), out := fun _ _ => rfl }
end Go.Proofs.Ytnmmdefkmjlkaaa

/-
  DERIVED. A block's bytes read; a write, and which blocks of memory the device has then.
-/
namespace Go.Proofs.Ytnmmdefkmjlkaaa
open Go.RowKit Go.Maps
set_option linter.unusedVariables false

theorem Row.sl {w : World} {g : Nat} {L : List UInt8} (h : Row w g L) (hL : L.length = 512) : Sl w (.slice (some ⟨g, 0, none⟩) 512 512) L := by
  refine ⟨some ⟨g, 0, none⟩, 512, by rw [hL], by rw [hL]; exact Nat.le_refl _, by unfold maxLen; omega, fun _ => ⟨g, 0, rfl, lt_of_block h, fun i hi => ?_⟩⟩
  rw [Nat.zero_add]
  exact h.cell i hi
theorem headL_len (s : ByteArray) (x : UInt8) : (headL s (fillL x 512)).length = 512 := by
  unfold headL
  have := fillL_len x 512 (Nat.le_refl _)
  have hs : s.data.toList.length = s.size := Array.length_toList
  rw [List.length_append, List.length_take, List.length_drop, this, hs]
  omega

theorem Write_own {w : World} {b base : Nat} {F : Nat → Prop} {N : Nat} {S : St} (h : Dev w b F N S) (hF : ∀ k, F k → base ≤ k ∧ k < w.heap.size) (hbs : base ≤ w.heap.size) (k : Nat) (L : List UInt8) (v : Value) (hk : k < S.safe.length) (hd : S.down = false) (hB : burnE S.fused S.fuse = 0)
    (hv : Sl w v L) (hL : L.length = 512) (hN : N < 1000000) :
    Calls Try.prog 27 #[.pointer (some ⟨b, 0, none⟩), .int .i64 k, v] w fun e w' => e = .returned (.int .i64 0) ∧ (∃ F', (∀ k, F' k → base ≤ k ∧ k < w'.heap.size) ∧ (∀ k, F' k → F k ∨ w.heap.size ≤ k) ∧ Dev w' b F' (N + 2) (S.burn.wrote k L)) ∧ Kept F w w' := by
  refine (Write_ext h k L v hk hd hB hv hL hN).mono ?_
  rintro e w' ⟨rfl, hd', hk'⟩
  refine ⟨rfl, ⟨_, fun j hj => ?_, fun j hj => hj.imp id And.left, hd'⟩, hk'⟩
  have := hk'.size
  rcases hj with h1 | h1
  · have := hF j h1; omega
  · omega

end Go.Proofs.Ytnmmdefkmjlkaaa

/-
  DERIVED. How a slice of ints that came in is opened.
-/
namespace Go.Proofs.Ytnmmdefkmjlkaaa
open Go.ChangeShapes Go.WideShapes Go.ChangeAt Go.RowKit

theorem own_knob : ownKnob Try.prog.godebug = none := by kernel_rfl
theorem laid_out : laidOutB Try.prog = true := by kernel_rfl
theorem Try.cellsInt : Try.prog.cellsOf 3 = 1 := by kernel_rfl

theorem open_intl {H : Type} {enc : TypeId × Value → H} {W : World} {a : Option Addr} {n c : Nat} {d : DataW H} {p : List MemPlace}
    (h : DataW.Trod enc Try.prog W 0 (fun _ => true) true 35 (.slice a n c) d p) : ∃ l : List Int, Ints W (.slice a n c) l := by
  obtain ⟨fuel, hf⟩ := h
  rcases open_ints Try.underlying35 Try.underlying3 Try.cellsInt hf with ⟨hcs, hx⟩ | ⟨x, l, cp, zs, hcs, _, hl, hm, hz, hx, hcell, hwz⟩
  · simp [Value.cells] at hcs
    obtain ⟨rfl, rfl, rfl⟩ := hcs
    exact ⟨[], none, 0, rfl, by simp, by simp, fun h => absurd rfl h⟩
  · simp [Value.cells] at hcs
    obtain ⟨rfl, rfl, rfl⟩ := hcs
    rw [if_pos rfl] at hz
    unfold maxLen at hm
    have hlen : (zs.take n).length = n := by simp; omega
    refine ⟨zs.take n, some x, c, by rw [hlen], by rw [hlen]; omega, fun y hy => ?_, fun hne => ?_⟩
    · have := bounds_i64 (hwz y (List.mem_of_mem_take hy)); omega
    · have hn0 : 0 < n := by rw [← hlen]; exact List.length_pos_iff.2 hne
      have h0 := hcell 0 (by omega)
      have hsp := World.cell?_spot h0
      obtain ⟨b, off, sp⟩ := x
      have hsp' : sp = none := by
        cases sp with
        | none => rfl
        | some k => simp [Addr.add] at hsp
      subst hsp'
      refine ⟨b, off, rfl, ?_, fun i hi => ?_⟩
      · rw [addr_add] at h0
        exact World.block_lt_of_cell? W ⟨b, off + 0, none⟩ h0
      · have hi' : i < n := by rw [hlen] at hi; exact hi
        have := hcell i (by omega)
        rw [addr_add] at this
        rw [this]
        simp [List.getD_eq_getElem?_getD, List.getElem?_eq_getElem (show i < zs.length by omega)]
end Go.Proofs.Ytnmmdefkmjlkaaa

/-
  DERIVED. Bytes as a string; a list that holds one number.
-/
namespace Go.Proofs.Ytnmmdefkmjlkaaa
open Go.RowKit
set_option linter.unusedVariables false

theorem Sl.str {w : World} {v : Value} {l : List UInt8} (h : Sl w v l) : (convert 22 9 v).run Try.prog w = .ok (.string ⟨l.toArray⟩) w := by
  rcases h.cases with ⟨rfl, ao, rfl⟩ | ⟨b, off, cap, rfl, h1, h2, hb, hc⟩
  · cases ao with
    | none => exact run_convert_bytes_nil w 22 5 Try.underlying22 Try.underlying5 0 0 9 Try.underlying9
    | some a => exact run_convert_bytes_back w 22 9 5 a 0 [] Try.underlying22 Try.underlying5 Try.underlying9 (fun j hj => by simp at hj)
  · exact run_convert_bytes_back w 22 9 5 ⟨b, off, none⟩ cap l Try.underlying22 Try.underlying5 Try.underlying9 (fun j hj => by rw [addr_add]; exact hc j hj)

theorem one_of {l : List Nat} {k : Nat} (hr : l.Pairwise (· < ·)) (hm : ∀ x, x ∈ l ↔ x = k) : l = [k] := by
  cases l with
  | nil => exact absurd ((hm k).2 rfl) (by simp)
  | cons a r =>
    obtain rfl : a = k := (hm a).1 (by simp)
    obtain ⟨h1, _⟩ := List.pairwise_cons.1 hr
    have hr : r = [] := List.eq_nil_iff_forall_not_mem.2 fun x hx => by
      have := h1 x hx
      have e := (hm x).1 (by simp [hx])
      omega
    rw [hr]
theorem none_of {l : List Nat} (hm : ∀ x, ¬ x ∈ l) : l = [] := List.eq_nil_iff_forall_not_mem.2 hm

/-- Where one block alone has writes. -/
theorem keys_one {S : St} {k : Nat} (hk : k < S.safe.length) (h1 : S.pend k ≠ []) (h2 : ∀ j, j ≠ k → S.pend j = []) : S.keys = [k] :=
  one_of (pk_rising _ _) fun x => by
    unfold St.keys
    rw [mem_pk]
    constructor
    · rintro ⟨_, h⟩
      by_cases e : x = k
      · exact e
      · exact absurd (h2 x e) h
    · rintro rfl
      exact ⟨hk, h1⟩
theorem keys_none {S : St} (h2 : ∀ j, S.pend j = []) : S.keys = [] :=
  none_of fun x hx => (mem_pk.1 hx).2 (h2 x)

theorem crash_none {S : St} (h2 : ∀ j, S.pend j = []) (ps : List Int) : (S.crash ps).safe = S.safe := by
  unfold St.crash
  rw [keys_none h2]
  rfl
theorem crash_one {S : St} {k : Nat} (hk : k < S.safe.length) (h1 : S.pend k ≠ []) (h2 : ∀ j, j ≠ k → S.pend j = []) (ps : List Int) : (S.crash ps).safe = S.safe.set k (S.keptB k (pickAt ps 0)) := by
  have e := keys_one hk h1 h2
  unfold St.crash
  simp only [e, List.length_singleton]
  show St.crashTo S ps (0 + 1) = _
  rw [St.crashTo, e]
  rfl
theorem St.newest_crash (S : St) (ps : List Int) (k : Nat) : (S.crash ps).newest k = ((S.crash ps).safe[k]?).getD [] := rfl
end Go.Proofs.Ytnmmdefkmjlkaaa

/-
  DERIVED. Flush, where it flushes.
-/
namespace Go.Proofs.Ytnmmdefkmjlkaaa
open Go.RowKit Go.Maps
set_option linter.unusedVariables false

/-- A step of the loop over the pending writes. -/
theorem wpList_next_pend (w : World) {ops : Array Oper} {rest : List Oper} {o : Oper} {a : Act} {Q : Exit → Act → World → Prop} (hg : o.guard = none) (it : Operand) (hop : o.op = Op.next it false)
    {F : Nat → Prop} {m g n N M : Nat} {pend : Nat → List (List UInt8)} {vf : Nat → Value} {D : DataW Value} {left : Lit → Bool} {cnt r : Nat} (hp : PendAt w F m g n M pend vf D)
    (h : w.ranges Try.prog 3 rawE m r N D left cnt) (hit : a.eval it = .pointer (some ⟨r, 0, none⟩))
    (hDone : cnt = 0 → (∀ kl, left kl = false) → wpList Try.prog ops Q rest (a.put o.dst (.tuple #[.bool false])) w)
    (hMore : ∀ (k q cap j L : Nat) (w' : World) (cnt' : Nat), L = j + 1 → k < n → (pend k).length = j + 1 → vf k = .slice (some ⟨q, 0, none⟩) L cap → left (.int .i64 k) = true →
      w'.ranges Try.prog 3 rawE m r N D (fun z => left z && !z.sameKey (.int .i64 k)) cnt' → cnt' < cnt → w.grownBy w' (some r) → w'.heap.size = w.heap.size →
      (Instr.entry (.pointer (some ⟨r, 0, none⟩))).run Try.prog w' = .ok (.tuple #[.int .i64 k, .slice (some ⟨q, 0, none⟩) L cap]) w' →
      wpList Try.prog ops Q rest (a.put o.dst (.tuple #[.bool true, .int .i64 k, .slice (some ⟨q, 0, none⟩) L cap])) w') :
    wpList Try.prog ops Q (o :: rest) a w := by
  refine wpList_plain hg fun K' hK' => ?_
  unfold Oper.wp
  rcases h.next keyedInt o.type with ⟨h0, hl, hrun⟩ | ⟨key, v, kl, y, w', cnt', hkey, hlk, hv, hat, hrun, hrg, hlt, hgr, hsz, hen⟩
  · simp [execOp, hop, hit, hrun, Result.andThen]
    exact hK' _ _ (hDone h0 hl)
  · obtain ⟨x, rfl, rfl, hwx⟩ := Maps.keyOf_int_inv Try.underlying3 hkey
    obtain ⟨k, hk, hne, e⟩ := (hp.has _).1 (has_true_of_atKey hat)
    obtain rfl : x = (k : Int) := by injection e
    have hvf : v = vf k := by
      have h1 := hat (.held nilS)
      rw [hp.at_ k hk] at h1
      have hv2 : y.1 = .held v := by
        unfold rawE at hv
        rw [← Option.some.inj hv]
      rw [hv2] at h1
      exact (DataW.held.inj h1).symm
    obtain ⟨ao, cap, hf, hq⟩ := Blks.form (hp.rows k)
    obtain ⟨q, rfl⟩ := hq hne
    obtain ⟨j, hj⟩ : ∃ j, (pend k).length = j + 1 := ⟨(pend k).length - 1, by have := List.length_pos_iff.2 hne; omega⟩
    rw [hvf, hf] at hrun hen
    simp [execOp, hop, hit, hrun, Result.andThen]
    exact hK' _ _ (hMore k q cap j _ w' cnt' hj hk hj hf hlk hrg hlt hgr hsz hen)

/-- What is flushed, as far as 'left' says. -/
def St.flT (S : St) (left : Lit → Bool) : List (List UInt8) := (List.range S.safe.length).map fun (k : Nat) => if left (.int .i64 (k : Int)) then (S.safe[k]?).getD [] else S.newest k
/-- A device behind a flush. -/
def St.flushed (S : St) : St := { S with safe := (List.range S.safe.length).map S.newest, pend := fun _ => [] }
theorem St.flT_len (S : St) (left : Lit → Bool) : (S.flT left).length = S.safe.length := by simp [St.flT]
theorem St.newest_none (S : St) (k : Nat) (h : S.pend k = []) : S.newest k = (S.safe[k]?).getD [] := by unfold St.newest; rw [h]; rfl
theorem St.flT_start {w : World} {b : Nat} {F : Nat → Prop} {N : Nat} {S : St} {g c m : Nat} {vf : Nat → Value} {D : DataW Value} (h : DevIn w b F N S g c m vf D) : S.flT (Maps.has D) = S.safe := by
  apply List.ext_getElem (S.flT_len _)
  intro k h1 h2
  simp only [St.flT, List.getElem_map, List.getElem_range]
  split
  · rw [List.getElem?_eq_getElem h2]; rfl
  · rename_i hn
    have : S.pend k = [] := by
      by_cases e : S.pend k = []
      · exact e
      · exact absurd ((h.pend.has _).2 ⟨k, h2, e, rfl⟩) hn
    rw [S.newest_none k this, List.getElem?_eq_getElem h2]
    rfl
theorem St.flT_end (S : St) (left : Lit → Bool) (h : ∀ kl, left kl = false) : S.flT left = (List.range S.safe.length).map S.newest := by
  unfold St.flT
  apply List.map_congr_left
  intro k _
  rw [h]; rfl
theorem sameKey_int (a b : Nat) : (Lit.int .i64 (a : Int)).sameKey (.int .i64 (b : Int)) = decide (a = b) := by
  by_cases e : a = b
  · subst e; simp [Lit.sameKey]
  · rw [decide_eq_false e]
    exact sameKey_ne (fun h => e (by injection h with _ h; omega))
theorem St.flT_step (S : St) (left : Lit → Bool) (k : Nat) (hk : k < S.safe.length) : S.flT (fun z => left z && !z.sameKey (.int .i64 k)) = (S.flT left).set k (S.newest k) := by
  apply List.ext_getElem (by rw [List.length_set, S.flT_len, S.flT_len])
  intro i h1 h2
  rw [List.getElem_set]
  simp only [St.flT, List.getElem_map, List.getElem_range, sameKey_int]
  by_cases e : k = i
  · subst e; simp
  · have : decide (i = k) = false := decide_eq_false (fun h => e h.symm)
    simp [this, e]

/-- The device stands while the iterator goes on. -/
theorem DevIn.frameR {w w' : World} {b : Nat} {F : Nat → Prop} {N : Nat} {S : St} {g c m : Nat} {vf : Nat → Value} {D : DataW Value} (h : DevIn w b F N S g c m vf D) {r n cnt : Nat} {left : Lit → Bool} (hr : w.ranges Try.prog 3 rawE m r n D left cnt) (hk : w.grownBy w' (some r)) : DevIn w' b F N S g c m vf D := by
  obtain ⟨es, clock, since, seen, c0, hb, _, _, _, hi, _⟩ := hr
  have hne : ∀ q, (∃ A t fr, w.heap[q]? = some (Obj.cells A t fr)) → w'.heap[q]? = w.heap[q]? := fun q ⟨A, t, fr, hq⟩ => hk.block q (lt_of_block hq) (fun e => by cases e; rw [hq] at hi; cases hi)
  have hm : w'.heap[m]? = w.heap[m]? := hk.block m (lt_of_block hb) (fun e => by cases e; rw [hb] at hi; cases hi)
  exact { h with dev := (hne b ⟨_, _, _, h.dev⟩).trans h.dev, safe := Blks.frame h.safe fun q hq _ => by obtain ⟨cur, hc⟩ := Blks.mark h.safe hq; exact hne q ⟨_, _, _, hc⟩, pend := h.pend.frame' hm fun k q hq _ => by obtain ⟨cur, hc⟩ := Blks.mark (h.pend.rows k) hq; exact hne q ⟨_, _, _, hc⟩ }

theorem St.newest_last (S : St) (k j : Nat) (h : (S.pend k).length = j + 1) : S.newest k = (S.pend k)[j]'(by omega) := by
  unfold St.newest
  have e : (S.pend k).length - 1 = j := by omega
  rw [List.getLast?_eq_getElem?, e, List.getElem?_eq_getElem (by omega), Option.getD_some]

def St.flAt (S : St) (left : Lit → Bool) : St := { S with safe := S.flT left }

set_option maxRecDepth 100000 in
set_option maxHeartbeats 3200000 in
theorem Flush_in {w : World} {b : Nat} {F : Nat → Prop} {N : Nat} {S : St} {g c m : Nat} {vf : Nat → Value} {D : DataW Value} (h : DevIn w b F N S g c m vf D) (hd : S.down = false) (hB : burnE S.fused S.fuse = 0) (hN : N < 1000000) :
    Calls Try.prog 28 #[.pointer (some ⟨b, 0, none⟩)] w fun e w' => e = .returned (.int .i64 0) ∧ Dev w' b F (N + 1) S.burn.flushed ∧ Kept F w w' := by
  have HD := hide h
  have hdd := h.dev
  rw [hd] at hdd
  have HDD := hide hdd
  clear h hdd
  go_enter Try.func28, Try.ntmps28
  go_wp2_with (first | (go_at_call 20; refine (up_dev (unhide HDD)).mono ?_; rintro e w' ⟨rfl, rfl⟩) | fail)
  refine (burn_dev (unhide HD).dev (unhide HD).f1 (unhide HD).f2 (unhide HD).o1 (by have := (unhide HD).o2; omega)).mono ?_
  rintro e w1 ⟨rfl, d1, o1⟩
  rw [hB]
  have h1 := (unhide HD).burn o1 d1
  have HK := hide (Kept.of_only (F := F) o1 (unhide HD).fb)
  have c1 := h1.dev.c1
  have hown := h1.pend.own
  have H1 := hide h1
  clear d1 o1 h1
  go_wp2_with (first | (at_range; refine wpList_range_own _ rfl _ 44 rfl 3 43 keyedInt Try.underlying44 _ m (N + 1) D rfl hown ?_; intro w0 hrg0 hg0 hs0) | fail)
  go_frame
  obtain ⟨r, hr⟩ : ∃ r, r = w1.heap.size := ⟨_, rfl⟩
  rw [← hr] at hrg0 ⊢
  have HG0 := hide hg0
  have HR0 := hide hrg0
  have HRR := hide hr
  have hs1 : w1.heap.size ≤ w0.heap.size := hg0.size
  clear hg0 hrg0 hr hs0 hown
  go_loopw [5] (fun _ wr => ∃ left cnt, wr.ranges Try.prog 3 rawE m r (N + 1) D left cnt ∧ DevIn wr b F (N + 1) (S.burn.flAt left) g c m vf D ∧ w1.grownBy wr (some g)) (fun _ wr => wr.rangeLeft m r)
  case atStart =>
    refine ⟨_, _, unhide HR0, ?_, (unhide HG0).but _⟩
    have e : S.burn.flAt (Maps.has D) = S.burn := by unfold St.flAt; rw [St.flT_start (unhide H1)]
    rw [e]
    exact (unhide H1).frame fun k _ hk => (unhide HG0).block k hk (by simp)
  case round =>
    obtain ⟨left, cnt, hrg, hdv, hgr⟩ := hrel
    have HV := hide hdv
    have HG := hide hgr
    have HRG := hide hrg
    clear hdv hgr hrg
    have hn : (S.burn.flAt left).safe.length = S.safe.length := S.burn.flT_len left
    go_wp2_with (first | (at_next; refine wpList_next_pend _ rfl _ rfl (unhide HV).pend (unhide HRG) rfl ?_ ?_) | fail)
    · intro hc0 hl0
      obtain ⟨w4, hcl, hcm, hcg⟩ := clear_own (unhide HV).pend.own 0
      have h4 := (unhide HV).cleared hcm hcg
      have c1r := (unhide HV).dev.c1
      have HF : Hid (Dev w4 b F (N + 1) S.burn.flushed ∧ Kept F w w4) := hide ⟨⟨g, c, m, _, _, by
          have e : S.burn.flushed = { S.burn.flAt left with pend := fun _ => [] } := by unfold St.flushed St.flAt; rw [S.burn.flT_end left hl0]
          rw [e]; exact h4⟩, ((unhide HK).trans (Kept.of_grown (unhide HG) fun i hi => by cases hi; exact (unhide HD).fg)).trans (Kept.of_grown hcg fun i hi => by cases hi; exact (unhide HD).fm)⟩
      clear h4 hcm hcg hl0 hc0
      go_wp2
      go_ret
      exact ⟨rfl, unhide HF⟩
    · intro k q cap j L w2 cnt2 hL hk hj hvf hlk hrg2 hlt hgr2 hsz2 hen
      have hk : k < S.safe.length := by first | exact hk | (rw [hn] at hk; exact hk)
      have h2 := (unhide HV).frameR (unhide HRG) hgr2
      have hnew : (S.burn.flAt left).pend k = S.pend k := rfl
      obtain ⟨cs, hcs⟩ : ∃ cs, cs = ((S.burn.newest k).map bv) := ⟨_, rfl⟩
      have hnl : (S.burn.newest k).length = 512 := St.newest_len (unhide H1) k hk
      have hc5 : cs.length = 512 := by rw [hcs, List.length_map]; exact hnl
      have h1c : ∀ v ∈ cs, v.oneCell' = true := by rw [hcs]; exact bv_one _
      have hjS : (S.pend k).length = j + 1 := hj
      have hrow := h2.pend.rows k
      rw [hvf, hnew] at hrow
      have hrq : w2.rangeAt q (j * 512) cs := by
        have h3 := Blks.range ((unhide H1).pend.wide k) hrow j (by show j < (S.pend k).length; omega)
        have e : S.burn.newest k = (S.burn.pend k)[j]'(by show j < (S.pend k).length; omega) := S.burn.newest_last k j hjS
        rw [hcs, e]
        exact h3
      have th : w2.there g (k * 512) 512 := Blks.there h2.safe h2.wide k (by rw [hn]; exact hk)
      have c0 := h2.dev.c0
      rw [hn] at c0
      have hqg : q ≠ g := (h2.pend.foot k q (by rw [hvf]; rfl)).2
      have hqb : g ≠ b := h2.ne_map.2.2
      have HTH := hide th
      have HRQ := hide hrq
      have HFIN : Hid (∀ X : World, X = w2.drew → (X.setCells g (k * 512) cs).ranges Try.prog 3 rawE m r (N + 1) D (fun z => left z && !z.sameKey (.int .i64 k)) cnt2 ∧ DevIn (X.setCells g (k * 512) cs) b F (N + 1) (S.burn.flAt (fun z => left z && !z.sameKey (.int .i64 k))) g c m vf D ∧ w1.grownBy (X.setCells g (k * 512) cs) (some g)) := hide fun X hX => by
        subst hX
        have hgs := grown_setCells g cs (k * 512) w2.drew
        have hgm : g ≠ m := h2.ne_map.2.1
        have hgr3 : g ≠ r := by
          rintro rfl
          obtain ⟨cur, hc⟩ := Blks.mark h2.safe rfl
          obtain ⟨_, _, _, _, _, _, _, _, _, hi, _⟩ := hrg2
          rw [hc] at hi; cases hi
        refine ⟨World.ranges.kept (w := w2.drew) hrg2 hgs (fun e => hgm (Option.some.inj e).symm) (fun e => hgr3 (Option.some.inj e).symm), ?_, ?_⟩
        · have h3 := (h2.frame (w' := w2.drew) fun _ _ _ => rfl).setSafe k (by rw [hn]; exact hk) (S.burn.newest k) hnl
          rw [← hcs] at h3
          have e : S.burn.flAt (fun z => left z && !z.sameKey (.int .i64 k)) = { S.burn.flAt left with safe := (S.burn.flAt left).safe.set k (S.burn.newest k) } := by
            unfold St.flAt; rw [S.burn.flT_step left k hk]
          rw [e]; exact h3
        · have h4 : w1.grownBy w2 (some g) := (unhide HG).andThen hgr2 fun i hi => by
            cases hi
            exact .inl (by rw [unhide HRR]; exact Nat.le_refl _)
          exact World.grownBy.trans (b := w2.drew) ⟨h4.os, h4.tape, h4.output, h4.size, h4.block⟩ hgs
      have HLT := hide hlt
      have hjN : j < 2000000 := by have := (unhide H1).pend.len k; have h5 : S.burn.pend k = S.pend k := rfl; rw [h5] at this; omega
      have hwr2 : IntKind.i64.wrap ((L : Int) - 1) = (j : Int) := by rw [IntKind.wrap_i64]; omega
      clear hcs hrow h2 hrq th hrg2 hgr2 hlk hvf hj hjS hlt hnew hn hnl
      have hi : (Try.prog.info? 60).map (·.size) = some cs.length := by rw [hc5]; exact sizeBlock
      have hu := Try.underlying60
      have hk0 : (0 : Int) ≤ (k : Int) := Int.natCast_nonneg _
      have hk1 : (k : Int) < (S.safe.length : Int) := by omega
      have hj0 : (0 : Int) ≤ (j : Int) := Int.natCast_nonneg _
      have hj1 : (j : Int) < (L : Int) := by omega
      clear hL
      go_wp2_with fail
      go_region_held3 (fun w' => w'.cell? ⟨b, 0, none⟩ = some (.slice (some ⟨g, 0, none⟩) S.safe.length c) ∧ w'.rangeAt q (j * 512) cs ∧ w'.there g (k * 512) 512)
        (first | exact ⟨c0, unhide HRQ, unhide HTH⟩ | exact ⟨(World.cell?_setCells_out g cs _ _ ⟨b, 0, none⟩ (fun e => absurd e (Ne.symm hqb))).trans c0, World.rangeAt_setCells_apart (w := w2.drew) (unhide HRQ) _ _ _ (.inl hqg), World.there_setCells (w := w2.drew) (unhide HTH) _ _ _⟩)
        (first | fail)
      have HX := hide (unhide HFIN _ rfl)
      go_wp2
      refine ⟨⟨_, _, (unhide HX).1, (unhide HX).2.1, (unhide HX).2.2⟩, ?_⟩
      rw [(unhide HX).1.left_eq, (unhide HRG).left_eq]
      exact unhide HLT

theorem Flush_dev {w : World} {b : Nat} {F : Nat → Prop} {N : Nat} {S : St} (h : Dev w b F N S) (hd : S.down = false) (hB : burnE S.fused S.fuse = 0) (hN : N < 1000000) :
    Calls Try.prog 28 #[.pointer (some ⟨b, 0, none⟩)] w fun e w' => e = .returned (.int .i64 0) ∧ Dev w' b F (N + 1) S.burn.flushed ∧ Kept F w w' := by
  obtain ⟨g, c, m, vf, D, h⟩ := h
  exact Flush_in h hd hB hN
end Go.Proofs.Ytnmmdefkmjlkaaa

/-
  DERIVED. What a record is, of a device's blocks; what Format, Store and Load make of it: plain.
-/
namespace Go.Proofs.Ytnmmdefkmjlkaaa
open Go.RowKit
set_option linter.unusedVariables false

/-- The next operation goes well, of a device that is up. -/
def St.well (S : St) : Prop := burnE S.fused S.fuse = 0
instance (S : St) : Decidable S.well := by unfold St.well; infer_instance
theorem St.well_up {S : St} (h : S.well) : S.burn.down = S.down := by
  unfold St.well burnE at h
  show burnD S.fused S.fuse S.down = S.down
  unfold burnD
  split at h
  · cases h
  · rename_i h1; rw [if_neg h1]
theorem St.unwell {S : St} (h : ¬ S.well) : S.burn.down = true := by
  unfold St.well burnE at h
  show burnD S.fused S.fuse S.down = true
  unfold burnD
  split at h
  · rename_i h1; rw [if_pos h1]
  · exact absurd rfl h
theorem St.well_free {S : St} (h : S.fused = false) : S.well := by unfold St.well burnE; rw [h]; rfl

/-- Two blocks can be read. -/
def St.reads (S : St) : Prop := S.down = false ∧ S.well ∧ S.burn.well
instance (S : St) : Decidable S.reads := by unfold St.reads; infer_instance
theorem St.reads_free {S : St} (h : S.fused = false) (hd : S.down = false) : S.reads := ⟨hd, St.well_free h, St.well_free h⟩
/-- A device behind a read that stopped. -/
def St.halted (S : St) : St := if S.down = true then S else if S.well then S.burn.burn else S.burn
theorem St.halted_down {S : St} (h : ¬ S.reads) : S.halted.down = true := by
  unfold St.halted
  by_cases h1 : S.down = true
  · rw [if_pos h1]; exact h1
  rw [if_neg h1]
  by_cases h2 : S.well
  · rw [if_pos h2]
    exact St.unwell fun h3 => h ⟨by simpa using h1, h2, h3⟩
  · rw [if_neg h2]; exact St.unwell h2
theorem St.halted_safe (S : St) : S.halted.safe = S.safe := by
  unfold St.halted
  split
  · rfl
  · split <;> rfl
theorem St.halted_pend (S : St) : S.halted.pend = S.pend := by
  unfold St.halted
  split
  · rfl
  · split <;> rfl

theorem rd4_lt : ∀ l : List UInt8, rd4 l < 4294967296
  | a :: b :: c :: d :: _ => by
    have := a.toNat_lt; have := b.toNat_lt; have := c.toNat_lt; have := d.toNat_lt
    show a.toNat + 256 * b.toNat + 65536 * c.toNat + 16777216 * d.toNat < _
    omega
  | [] => by decide
  | [_] => by simp [rd4]
  | [_, _] => by simp [rd4]
  | [_, _, _] => by simp [rd4]
theorem rdI_hi (l : List UInt8) : rdI l ≤ 9223372036854775807 := by
  have := (rd_facts l).1
  unfold rdI unz
  split
  · split <;> omega
  · omega
theorem unl_is (k : Int) (L : List UInt8) : (unl k L).turn < 4294967296 ∧ 0 ≤ (unl k L).count ∧ (unl k L).count ≤ 9223372036854775807 ∧ (unl k L).data.length ≤ 400 := by
  have h0 : noSlot.turn < 4294967296 ∧ 0 ≤ noSlot.count ∧ noSlot.count ≤ 9223372036854775807 ∧ noSlot.data.length ≤ 400 := by simp [noSlot]
  unfold unl
  split
  · exact h0
  split
  · exact h0
  split
  · exact h0
  split
  · exact h0
  · rename_i h1
    exact ⟨rd4_lt _, by simp only; omega, rdI_hi _, by simp only [List.length_drop] at h1 ⊢; omega⟩

/-- The newer one of two slots. -/
def curS (s t : Slot) : Slot := if newR s t = 1 then t else s
/-- Which of a record's two blocks is the newer one: 0 or 1. -/
def St.side (S : St) (k : Nat) : Nat := newR (unl k (S.newest k)) (unl k (S.newest (k + 1)))
/-- The record. -/
def St.rcd (S : St) (k : Nat) : Slot := curS (unl k (S.newest k)) (unl k (S.newest (k + 1)))
/-- The block that is written next. -/
def St.elder (S : St) (k : Nat) : Nat := k + 1 - S.side k
/-- What is written there. -/
def St.nextB (S : St) (k : Nat) (cnt : Int) (d : List UInt8) : List UInt8 := slotL ⟨false, ((S.rcd k).turn + 1) % 4294967296, cnt, d⟩ k

theorem newR_or (s t : Slot) : newR s t = 0 ∨ newR s t = 1 := by unfold newR; split <;> simp
theorem St.side_or (S : St) (k : Nat) : S.side k = 0 ∨ S.side k = 1 := newR_or _ _
theorem St.rcd_is (S : St) (k : Nat) : (S.rcd k).turn < 4294967296 ∧ 0 ≤ (S.rcd k).count ∧ (S.rcd k).count ≤ 9223372036854775807 ∧ (S.rcd k).data.length ≤ 400 := by
  unfold St.rcd curS
  split <;> exact unl_is _ _
/-- A record hangs on its two blocks alone. -/
theorem St.rcd_of {S T : St} {k : Nat} (h0 : T.newest k = S.newest k) (h1 : T.newest (k + 1) = S.newest (k + 1)) : T.rcd k = S.rcd k := by unfold St.rcd; rw [h0, h1]

theorem St.rcd_put {S T : St} {k : Nat} (hk : k < 1000000) {cnt : Int} {d : List UInt8} (hc0 : 0 ≤ cnt) (hc1 : cnt ≤ 9223372036854775807) (hd : d.length ≤ 400)
    (h1 : T.newest (S.elder k) = S.nextB k cnt d) (h2 : T.newest (k + S.side k) = S.newest (k + S.side k)) : T.rcd k = ⟨true, ((S.rcd k).turn + 1) % 4294967296, cnt, d⟩ := by
  have hu : unl k (S.nextB k cnt d) = ⟨true, ((S.rcd k).turn + 1) % 4294967296, cnt, d⟩ := unl_slot ⟨false, ((S.rcd k).turn + 1) % 4294967296, cnt, d⟩ k (by omega) (by omega) (by simp only; omega) hc0 hc1 hd
  have hR : S.rcd k = curS (unl k (S.newest k)) (unl k (S.newest (k + 1))) := rfl
  obtain ⟨s, hs⟩ : ∃ s, s = unl k (S.newest k) := ⟨_, rfl⟩
  obtain ⟨t, ht⟩ : ∃ t, t = unl k (S.newest (k + 1)) := ⟨_, rfl⟩
  have ts : s.turn < 4294967296 := by rw [hs]; exact (unl_is _ _).1
  have tt : t.turn < 4294967296 := by rw [ht]; exact (unl_is _ _).1
  have hS : S.side k = newR s t := by rw [hs, ht]; rfl
  rw [← hs, ← ht] at hR
  unfold St.elder at h1
  rcases newR_or s t with h0 | h0
  · rw [hS, h0] at h1 h2
    have e1 : T.newest (k + 1) = S.nextB k cnt d := h1
    have e0 : T.newest k = S.newest k := h2
    have hr : S.rcd k = s := by rw [hR]; unfold curS; rw [if_neg (by rw [h0]; decide)]
    rw [hr] at hu ⊢
    have hn : newR s ⟨true, (s.turn + 1) % 4294967296, cnt, d⟩ = 1 := by
      unfold newR
      rw [if_pos]
      refine ⟨rfl, .inr ?_⟩
      simp only
      omega
    unfold St.rcd curS
    rw [e1, e0, hu, ← hs, if_pos hn]
  · rw [hS, h0] at h1 h2
    have e0 : T.newest k = S.nextB k cnt d := h1
    have e1 : T.newest (k + 1) = S.newest (k + 1) := h2
    have hr : S.rcd k = t := by rw [hR]; unfold curS; rw [if_pos h0]
    rw [hr] at hu ⊢
    have hn : newR ⟨true, (t.turn + 1) % 4294967296, cnt, d⟩ t ≠ 1 := by
      unfold newR
      rw [if_neg]
      · decide
      · rintro ⟨_, h | h⟩
        · cases h
        · simp only at h
          omega
    unfold St.rcd curS
    rw [e1, e0, hu, ← ht, if_neg hn]

/-! ### What the operations make of the blocks -/
theorem St.newest_burn (S : St) (n : Nat) : S.burn.newest n = S.newest n := rfl
theorem St.newest_wrote' (S : St) (k n : Nat) (L : List UInt8) : (S.wrote k L).newest n = if n = k then L else S.newest n := by
  unfold St.newest
  show ((putP S.pend k L n).getLast?).getD _ = _
  unfold putP
  by_cases e : n = k
  · subst e; simp
  · simp only [if_neg e]; rfl
theorem St.newest_flushed' (S : St) (n : Nat) (hn : n < S.safe.length) : S.flushed.newest n = S.newest n := by
  show (((List.range S.safe.length).map S.newest)[n]?).getD [] = _
  rw [List.getElem?_map, List.getElem?_range hn]
  rfl
theorem St.flushed_len (S : St) : S.flushed.safe.length = S.safe.length := by unfold St.flushed; simp

/-- What a crash keeps is one of what was there. -/
theorem crashTo_memS (S : St) (ps : List Int) : ∀ i n, n < S.safe.length → ((S.crashTo ps i)[n]?).getD [] = (S.safe[n]?).getD [] ∨ ((S.crashTo ps i)[n]?).getD [] ∈ S.pend n
  | 0, n, hn => .inl rfl
  | i + 1, n, hn => by
    have ih := crashTo_memS S ps i n hn
    rw [St.crashTo]
    obtain ⟨k, hk⟩ : ∃ k, k = (S.keys[i]?).getD 0 := ⟨_, rfl⟩
    rw [← hk]
    by_cases e : k = n
    · rw [e]
      have hl : n < (S.crashTo ps i).length := by rw [St.crashTo_len]; exact hn
      rw [List.getElem?_set_self hl, Option.getD_some]
      unfold St.keptB
      simp only
      have hlt := pickR_lt (pickAt ps i) (S.pend n).length
      split
      · exact ih
      · rename_i hne
        right
        rw [List.getElem?_eq_getElem (by omega), Option.getD_some]
        exact List.getElem_mem _
    · rw [List.getElem?_set_ne e]
      exact ih
theorem crash_memS (S : St) (ps : List Int) (n : Nat) (hn : n < S.safe.length) : (S.crash ps).newest n = (S.safe[n]?).getD [] ∨ (S.crash ps).newest n ∈ S.pend n := crashTo_memS S ps _ n hn
theorem crash_calm (S : St) (ps : List Int) (n : Nat) (hn : n < S.safe.length) (hp : S.pend n = []) : (S.crash ps).newest n = S.newest n := by
  rcases crash_memS S ps n hn with h | h
  · rw [h]; unfold St.newest; rw [hp]; rfl
  · rw [hp] at h; cases h
theorem crash_len (S : St) (ps : List Int) : (S.crash ps).safe.length = S.safe.length := St.crashTo_len S ps _

/-- A block that is written and flushed, as far as the device goes. -/
def St.putF (S : St) (j : Nat) (L : List UInt8) : Int × St :=
  if S.well then (if (S.burn.wrote j L).well then (0, (S.burn.wrote j L).burn.flushed) else (2, (S.burn.wrote j L).burn)) else (2, S.burn)
def St.format (S : St) (k : Nat) (d : List UInt8) : Int × St := if S.reads then S.burn.burn.putF (S.elder k) (S.nextB k 0 d) else (2, S.halted)
def St.store (S : St) (k : Nat) (d : List UInt8) : Int × St :=
  if S.reads then (if (S.rcd k).laid = true then S.burn.burn.putF (S.elder k) (S.nextB k ((S.rcd k).count + 1) d) else (30, S.burn.burn)) else (2, S.halted)
def St.loadT (S : St) : St := if S.reads then S.burn.burn else S.halted

/-- The two blocks of a record are as they are flushed. -/
def St.calm (S : St) (k : Nat) : Prop := S.pend k = [] ∧ S.pend (k + 1) = []

/-- A device behind a change of a record that went well. -/
structure Put (S T : St) (k : Nat) (cnt : Int) (d : List UInt8) : Prop where
  fused : T.fused = S.fused
  up : T.down = false
  len : T.safe.length = S.safe.length
  pend : ∀ n, T.pend n = []
  rec_ : T.rcd k = ⟨true, ((S.rcd k).turn + 1) % 4294967296, cnt, d⟩
  other : ∀ n, n < S.safe.length → n ≠ k → n ≠ k + 1 → T.newest n = S.newest n

theorem St.elder_or (S : St) (k : Nat) : S.elder k = k ∨ S.elder k = k + 1 := by
  unfold St.elder
  rcases S.side_or k with h | h <;> rw [h] <;> simp
theorem St.elder_ne (S : St) (k : Nat) : S.elder k ≠ k + S.side k := by
  unfold St.elder
  rcases S.side_or k with h | h <;> rw [h] <;> omega

theorem putF_good {S : St} {k : Nat} (hk : k + 1 < S.safe.length) (hs : S.safe.length ≤ 512) (hd : S.down = false) (X : St) (hX : X = S.burn.burn) (hXd : X.down = false) {cnt : Int} {d : List UInt8} (hc0 : 0 ≤ cnt) (hc1 : cnt ≤ 9223372036854775807) (hl : d.length ≤ 400)
    (h1 : X.well) (h2 : (X.burn.wrote (S.elder k) (S.nextB k cnt d)).well) : X.putF (S.elder k) (S.nextB k cnt d) = (0, (X.burn.wrote (S.elder k) (S.nextB k cnt d)).burn.flushed) ∧ Put S (X.burn.wrote (S.elder k) (S.nextB k cnt d)).burn.flushed k cnt d := by
  refine ⟨by unfold St.putF; rw [if_pos h1, if_pos h2], ?_⟩
  subst hX
  have hn : ∀ n, n < S.safe.length → (S.burn.burn.burn.wrote (S.elder k) (S.nextB k cnt d)).burn.flushed.newest n = if n = S.elder k then S.nextB k cnt d else S.newest n := fun n hn => by
    refine (St.newest_flushed' (S.burn.burn.burn.wrote (S.elder k) (S.nextB k cnt d)).burn n hn).trans ?_
    refine (St.newest_wrote' S.burn.burn.burn (S.elder k) n (S.nextB k cnt d)).trans ?_
    rfl
  have he := S.elder_or k
  have hsd := S.side_or k
  refine ⟨rfl, ?_, St.flushed_len _, fun _ => rfl, ?_, fun n h1 h2 h3 => ?_⟩
  · show (S.burn.burn.burn.wrote (S.elder k) (S.nextB k cnt d)).burn.down = false
    rw [St.well_up h2]
    show S.burn.burn.burn.down = false
    rw [St.well_up h1, hXd]
  · refine St.rcd_put (by omega) hc0 hc1 hl ?_ ?_
    · rw [hn _ (by omega), if_pos rfl]
    · rw [hn _ (by omega), if_neg (fun h => S.elder_ne k h.symm)]
  · rw [hn n h1, if_neg (by omega)]

/-- A device that stopped while a record was changed: a crash keeps the old one or the new one. -/
theorem putF_stop {S : St} {k : Nat} (hk : k + 1 < S.safe.length) (hs : S.safe.length ≤ 512) (hcalm : S.calm k) {cnt : Int} {d : List UInt8} (hc0 : 0 ≤ cnt) (hc1 : cnt ≤ 9223372036854775807) (hl : d.length ≤ 400)
    (T : St) (hT : T = S.burn.burn.burn ∨ T = (S.burn.burn.burn.wrote (S.elder k) (S.nextB k cnt d)).burn) (ps : List Int) :
    (T.crash ps).rcd k = S.rcd k ∨ (T.crash ps).rcd k = ⟨true, ((S.rcd k).turn + 1) % 4294967296, cnt, d⟩ := by
  have he := S.elder_or k
  have hsd := S.side_or k
  rcases hT with rfl | rfl
  · left
    refine St.rcd_of ?_ ?_
    · exact crash_calm S.burn.burn.burn ps k (by show k < S.safe.length; omega) hcalm.1
    · exact crash_calm S.burn.burn.burn ps (k + 1) (by show k + 1 < S.safe.length; omega) hcalm.2
  · obtain ⟨T, hT⟩ : ∃ T, T = (S.burn.burn.burn.wrote (S.elder k) (S.nextB k cnt d)).burn := ⟨_, rfl⟩
    have hp : ∀ n, T.pend n = if n = S.elder k then S.pend (S.elder k) ++ [S.nextB k cnt d] else S.pend n := fun n => by rw [hT]; rfl
    have hsf : T.safe = S.safe := by rw [hT]; rfl
    rw [← hT]
    have hcl : ∀ n, n = k ∨ n = k + 1 → S.pend n = [] := fun n h => h.elim (fun e => e ▸ hcalm.1) (fun e => e ▸ hcalm.2)
    have hst : ∀ n, n = k ∨ n = k + 1 → n ≠ S.elder k → (T.crash ps).newest n = S.newest n := fun n h1 h2 => by
      rw [crash_calm _ _ _ (by rw [hsf]; omega) (by rw [hp, if_neg h2, hcl n h1])]
      unfold St.newest
      rw [hp, if_neg h2, hsf]
    have hel : (T.crash ps).newest (S.elder k) = S.newest (S.elder k) ∨ (T.crash ps).newest (S.elder k) = S.nextB k cnt d := by
      rcases crash_memS T ps (S.elder k) (by rw [hsf]; omega) with h | h
      · left; rw [h, hsf]; unfold St.newest; rw [hcl _ he]; rfl
      · right; rw [hp, if_pos rfl, hcl _ he] at h; simpa using h
    rcases hel with h | h
    · left
      refine St.rcd_of ?_ ?_
      · by_cases e : k = S.elder k
        · have h' := h; rw [← e] at h'; exact h'
        · exact hst k (.inl rfl) e
      · by_cases e : k + 1 = S.elder k
        · have h' := h; rw [← e] at h'; exact h'
        · exact hst (k + 1) (.inr rfl) e
    · right
      refine St.rcd_put (by omega) hc0 hc1 hl h ?_
      exact hst _ (by omega) (fun h => S.elder_ne k h.symm)
end Go.Proofs.Ytnmmdefkmjlkaaa

/-
  DERIVED. The walk of read on a device that is down; and read whole, in two parts: it goes well, or the device is down behind it.
-/
namespace Go.Proofs.Ytnmmdefkmjlkaaa
open Go.RowKit
set_option linter.unusedVariables false

set_option maxHeartbeats 2000000 in
theorem read_down {w : World} {b : Nat} {F : Nat → Prop} {N : Nat} {S : St} (h : Dev w b F N S) (k : Nat) (hk : k + 1 < S.safe.length) (hs : S.safe.length ≤ 512) (hd : S.down = true) (hF : ∀ k, F k → k < w.heap.size) :
    Calls Try.prog 14 #[.pointer (some ⟨b, 0, none⟩), .int .i64 k] w fun e w' => e = .returned (.tuple #[.agg two0, .int .i64 2]) ∧ Dev w' b F N S ∧ Kept F w w' := by
  have HD := hide h
  clear h
  have hE : openE S.safe.length S.down k = 2 := by unfold openE; rw [hd]; rfl
  obtain ⟨W, hW⟩ : ∃ W, W = (w.alloc (.cells two0 50)).alloc (.cells two0 50) := ⟨_, rfl⟩
  have HW : Hid (Below w.heap.size w W) := hide (by rw [hW]; exact ((Below.refl _ _).alloc (Nat.le_refl _) _).alloc (by simp) _)
  have HZ : Hid (W.heap[w.heap.size]? = some (.cells two0 50 (0, 0))) := hide (by rw [hW, Below.heap_alloc _ _ _ (by simp)]; exact heap_alloc_self _ _)
  have sW : W.heap.size = w.heap.size + 2 := by rw [hW]; simp
  go_enter Try.func14, Try.ntmps14
  go_wp2_with fail
  rw [← hW]
  clear hW
  refine wp_loop_rounds 1 ?_
  rw [rounds_succ]
  go_wp2_with fail
  refine (Read_dev_shut ((unhide HD).grown (unhide HW)) k (by rw [hE]; decide)).mono ?_
  rintro e w1 ⟨rfl, rfl⟩
  rw [hE]
  go_wp2_with (refine wpList_store_row rfl 50 (.tmp 4) (.tmp 23) rfl w.heap.size two0 rfl rfl 50 two0 (unhide HZ) sizeTwo rfl one_two0 ?_)
  (try simp only [Exit.inBlock, Exit.then])
  refine bodyPost_ret (v := .tuple #[.agg two0, .int .i64 2]) (results_row_tmp rfl _ _ w.heap.size two0 _ rfl rfl (run_loadVar_row _ w.heap.size 50 50 two0 (0, 0) _ (setRow_heap _ _ _ _ _ _ (unhide HZ)) Try.underlying50 rfl sizeTwo)) rfl ⟨rfl, ?_, ?_⟩
  · exact ((unhide HD).grown (unhide HW)).frame fun j hj _ => setRow_other _ _ _ _ (by have := hF _ hj; omega)
  · have hB1 := unhide HW
    refine ⟨hB1.os, hB1.tape, hB1.output, ?_, fun j hj hn => ?_⟩
    · simp [World.setRow]
      omega
    · rw [setRow_other _ _ _ _ (by omega), hB1.block j hj]

theorem read_stops {w : World} {b : Nat} {F : Nat → Prop} {N : Nat} {S : St} (h : Dev w b F N S) (k : Nat) (hk : k + 1 < S.safe.length) (hr : ¬ S.reads) (hN : N < 900000) (hF : ∀ k, F k → k < w.heap.size) :
    Calls Try.prog 14 #[.pointer (some ⟨b, 0, none⟩), .int .i64 k] w fun e w' => e = .returned (.tuple #[.agg two0, .int .i64 2]) ∧ Dev w' b F (N + 2) S.halted ∧ Kept F w w' := by
  obtain ⟨g, c, m, vf, D, h0⟩ := h
  have h : Dev w b F N S := ⟨g, c, m, vf, D, h0⟩
  have hL := St.newest_len h0 k (by omega)
  have hs := h0.n2
  clear h0
  unfold St.halted
  by_cases h1 : S.down = true
  · rw [if_pos h1]
    exact (read_down h k hk hs h1 hF).mono fun e w' ⟨q1, q2, q3⟩ => ⟨q1, q2.mono (fun _ h => h) (by omega), q3⟩
  rw [if_neg h1]
  have h1' : S.down = false := by simpa using h1
  by_cases h2 : S.well
  · rw [if_pos h2]
    have h3 : ¬ S.burn.well := fun h3 => hr ⟨h1', h2, h3⟩
    exact (read_half h k hk hs h1' h2 (by rw [St.well_up h2, h1']) h3 hN hF hL rfl).mono fun e w' ⟨q1, q2, q3⟩ => ⟨q1, q2, q3⟩
  · rw [if_neg h2]
    exact (read_shut h k hk hs h1' h2 (by omega) hF).mono fun e w' ⟨q1, q2, q3⟩ => ⟨q1, q2.mono (fun _ h => h) (by omega), q3⟩

theorem read_well {w : World} {b : Nat} {F : Nat → Prop} {N : Nat} {S : St} (h : Dev w b F N S) (k : Nat) (hk : k + 1 < S.safe.length) (hr : S.reads) (hN : N < 900000) (hF : ∀ k, F k → k < w.heap.size) :
    Calls Try.prog 14 #[.pointer (some ⟨b, 0, none⟩), .int .i64 k] w fun e w' => ∃ a1 n1 c1 a2 n2 c2, e = .returned (.tuple #[.agg (twoC (unl k (S.newest k)) (unl k (S.newest (k + 1))) (.slice a1 n1 c1) (.slice a2 n2 c2)), .int .i64 0]) ∧
      (∀ ad, a1 = some ad → w.heap.size ≤ ad.block) ∧ (∀ ad, a2 = some ad → w.heap.size ≤ ad.block) ∧ Sl w' (.slice a1 n1 c1) (unl k (S.newest k)).data ∧ Sl w' (.slice a2 n2 c2) (unl k (S.newest (k + 1))).data ∧ Dev w' b F (N + 2) S.burn.burn ∧ Kept F w w' := by
  obtain ⟨g, c, m, vf, D, h0⟩ := h
  exact read_ok ⟨g, c, m, vf, D, h0⟩ k hk h0.n2 hr.1 hr.2.1 (by rw [St.well_up hr.2.1]; exact hr.1) hr.2.2 hN hF (St.newest_len h0 k (by omega)) (St.newest_len h0 (k + 1) hk) rfl
end Go.Proofs.Ytnmmdefkmjlkaaa
