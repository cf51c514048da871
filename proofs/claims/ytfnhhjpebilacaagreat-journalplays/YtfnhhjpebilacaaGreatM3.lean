/-
  DERIVED. A block stored into a row of blocks; a map cleared; which blocks have writes.
-/
import Derived.Test.YtfnhhjpebilacaaGreatM2
import Derived.Maps.RangeWalk
import Derived.Test.YtfnhhjpebilacaaGreatRows
import Derived.OpenShut
import Derived.ShutString
import Derived.SizedLaws
import Derived.Test.YtfnhhjpebilacaaGreatM1
import Derived.Lib.AppendStr
import Derived.Laws.CopyOwn
import Derived.LoopN
namespace Go.Proofs.YtfnhhjpebilacaaGreat
open Go.RowKit Go.Maps Go.Sort Go.Shelf
open Go.ChangeMaps (setBlock)
set_option linter.unusedVariables false

theorem grown_setCells (g : Nat) : ∀ (vs : List Value) (o : Nat) (w : World), w.grownBy (w.setCells g o vs) (some g)
  | [], o, w => ⟨rfl, rfl, rfl, Nat.le_refl _, fun _ _ _ => rfl⟩
  | v :: r, o, w => by
    have h : w.grownBy (w.setCell ⟨g, o, none⟩ v) (some g) := ⟨rfl, rfl, rfl, by simp [World.setCell], fun k _ hk => heap_setCell_other _ _ _ _ (fun e => hk (by rw [e]))⟩
    exact h.trans (grown_setCells g r (o + 1) _)

theorem heap_setCells_row (g : Nat) (t : TypeId) : ∀ (vs : List Value) (o : Nat) (w : World) (cur : Array Value), w.heap[g]? = some (.cells cur t (0, 0)) → o + vs.length ≤ cur.size →
    (w.setCells g o vs).heap[g]? = some (.cells (cur.toList.take o ++ vs ++ cur.toList.drop (o + vs.length)).toArray t (0, 0))
  | [], o, w, cur, h, hl => by
    rw [World.setCells, h]
    simp
  | v :: r, o, w, cur, h, hl => by
    rw [List.length_cons] at hl
    have h1 := heap_setCell_same w g o cur t v h
    have h2 := heap_setCells_row g t r (o + 1) _ _ h1 (by rw [Array.size_setIfInBounds]; omega)
    rw [World.setCells, h2, Array.toList_setIfInBounds]
    have hlt : o < cur.toList.length := by rw [Array.length_toList]; omega
    have e1 : (cur.toList.set o v).take (o + 1) = cur.toList.take o ++ [v] := by
      rw [List.take_succ_eq_append_getElem (by rw [List.length_set]; exact hlt), List.getElem_set_self, List.take_set_of_le (Nat.le_refl _)]
    have e2 : (cur.toList.set o v).drop (o + 1 + r.length) = cur.toList.drop (o + (v :: r).length) := by
      rw [List.drop_set_of_lt (by omega), List.length_cons]
      congr 1
      omega
    rw [e1, e2, List.append_assoc, List.append_assoc, List.append_assoc]
    rfl

set_option maxRecDepth 20000 in
theorem Blks.set {w : World} {g c n : Nat} {bs : List (List UInt8)} (h : Blks w (.slice (some ⟨g, 0, none⟩) n c) bs) (hw : Wide bs) (k : Nat) (hk : k < bs.length) (L : List UInt8) (hL : L.length = 512) :
    Blks (w.setCells g (k * 512) (L.map bv)) (.slice (some ⟨g, 0, none⟩) n c) (bs.set k L) := by
  obtain ⟨h1, h2⟩ := h
  rcases h2 with ⟨h2, _⟩ | ⟨g', cap, cur, hv, hb, hg, hn, hm, hs, ht⟩
  · cases h2
  · cases hv
    have hl : (L.map bv).length = 512 := by rw [List.length_map]; exact hL
    have hset := cellsOf_set hw k hk L hL
    have hlen := cellsOf_len hw
    have hlen2 := cellsOf_len (hw.set hL k)
    rw [List.length_set] at hlen2
    have hk2 : k * 512 + 512 ≤ bs.length * 512 := by omega
    have q1 : k * 512 ≤ (cellsOf bs).length := Nat.le_trans (Nat.mul_le_mul_right 512 (Nat.le_of_lt hk)) (Nat.le_of_eq hlen.symm)
    have q2 : k * 512 + 512 ≤ (cellsOf bs).length := Nat.le_trans hk2 (Nat.le_of_eq hlen.symm)
    have hr := heap_setCells_row g 84 (L.map bv) (k * 512) w cur hg (by omega)
    have hcut : cur.toList = cellsOf bs ++ cur.toList.drop (bs.length * 512) := by rw [← ht, List.take_append_drop]
    have e : cur.toList.take (k * 512) ++ L.map bv ++ cur.toList.drop (k * 512 + (L.map bv).length) = cellsOf (bs.set k L) ++ cur.toList.drop (bs.length * 512) := by
      rw [hset, hl]
      conv => lhs; rw [hcut]
      rw [List.take_append_of_le_length q1, List.drop_append_of_le_length q2]
      simp only [List.append_assoc]
    rw [e] at hr
    refine ⟨by rw [List.length_set]; exact hlen2, .inr ⟨g, c, _, by rw [List.length_set], hb, hr, by rw [List.length_set]; exact hn, hm, ?_, ?_⟩⟩
    · have e3 : (cur.toList.drop (bs.length * 512)).length = cur.size - bs.length * 512 := by rw [List.length_drop, Array.length_toList]
      rw [List.size_toArray, List.length_append]
      omega
    · rw [List.length_set, ← hlen2]
      exact List.take_left

theorem Blks.there {w : World} {g c n : Nat} {bs : List (List UInt8)} (h : Blks w (.slice (some ⟨g, 0, none⟩) n c) bs) (hw : Wide bs) (k : Nat) (hk : k < bs.length) : w.there g (k * 512) 512 := by
  intro j hj
  have hr := Blks.range hw h k hk j
  obtain ⟨cur, hc⟩ := Blks.mark h rfl
  have hl : (bs[k].map bv).length = 512 := by rw [List.length_map]; exact hw _ (List.getElem_mem hk)
  refine ⟨?_, frozen_of_row w g _ cur 84 hc⟩
  rw [hr _ (List.getElem?_eq_getElem (by rw [hl]; exact hj))]
  rfl

/-- A map cleared. -/
theorem clear_own {w : World} {m N : Nat} {D : DataW Value} (h : w.ownsMap Tryz.prog 3 rawE m N D) (ty : TypeId) : ∃ w', (Builtin.clear_ #[66] ty #[.map (some m)]).run Tryz.prog w = .ok (.tuple #[]) w' ∧ w'.ownsMap Tryz.prog 3 rawE m 0 (.map []) ∧ w.grownBy w' (some m) := by
  obtain ⟨es, clock, hb, F, hs, rfl⟩ := h
  refine ⟨setBlock w m (.map #[] clock), ?_, ⟨#[], clock, ChangeMaps.heap_setBlock_same hb _, ⟨by simp, MapKept.stamped_empty _, by simp⟩, Nat.le_refl _, rfl⟩, ⟨rfl, rfl, rfl, by simp [setBlock], fun i _ hi => ChangeMaps.heap_setBlock_other hb _ (fun e => hi (by rw [e]))⟩⟩
  simp [Builtin.clear_, run_underlying Tryz.underlying66, MapKept.run_getObj_map hb, MapKept.run_setObj_map _ hb, Result.andThen, setBlock]

theorem PendAt.cleared {w w' : World} {F : Nat → Prop} {m g n N : Nat} {pend : Nat → List (List UInt8)} {vf : Nat → Value} {D : DataW Value} (h : PendAt w F m g n N pend vf D) (hc : w'.ownsMap Tryz.prog 3 rawE m 0 (.map [])) :
    PendAt w' F m g n N (fun _ => []) (fun _ => nilS) (.map []) :=
  { own := hc.mono (Nat.zero_le _), at_ := fun _ _ => rfl, has := fun kl => ⟨fun h => (by cases h), fun ⟨k, _, h, _⟩ => absurd rfl h⟩, rows := fun _ => World.ownsRow_nil _ _ _ _, len := fun _ => Nat.zero_le _, foot := fun _ _ h => (by cases h), apart := fun _ _ _ h => (by cases h), wide := fun _ L hL => (by cases hL), out := fun _ _ => rfl }

/-- The blocks with writes, rising. -/
def pk (n : Nat) (pend : Nat → List (List UInt8)) : List Nat := (List.range n).filter fun k => !(pend k).isEmpty
theorem mem_pk {n : Nat} {pend : Nat → List (List UInt8)} {k : Nat} : k ∈ pk n pend ↔ k < n ∧ pend k ≠ [] := by
  simp [pk]
theorem pk_rising (n : Nat) (pend : Nat → List (List UInt8)) : (pk n pend).Pairwise (· < ·) := List.Pairwise.filter _ List.pairwise_lt_range
theorem pk_len (n : Nat) (pend : Nat → List (List UInt8)) : (pk n pend).length ≤ n := by
  have := List.length_filter_le (fun k => !(pend k).isEmpty) (List.range n)
  rw [List.length_range] at this
  exact this

theorem PendAt.keys {w : World} {F : Nat → Prop} {m g n N : Nat} {pend : Nat → List (List UInt8)} {vf : Nat → Value} {D : DataW Value} (h : PendAt w F m g n N pend vf D) (ss : List Int) (hs : ss.Perm (intKeys D)) :
    ss.mergeSort (fun x y => decide (x ≤ y)) = (pk n pend).map Int.ofNat ∧ ss.length = (pk n pend).length := by
  obtain ⟨es, rfl, hp, hk⟩ := h.own.entries keyedInt
  have hk2 : ∀ p ∈ es, ∃ x, p.1 = Lit.int .i64 x := fun p hpe => by
    obtain ⟨k, _, _, e⟩ := (h.has p.1).1 (by rw [has_eq, List.any_eq_true]; exact ⟨p, hpe, WideAt.sameKey_self (hk p hpe)⟩)
    exact ⟨_, e⟩
  have hnd : ((pk n pend).map Int.ofNat).Nodup := List.pairwise_map.2 ((pk_rising n pend).imp fun {a b} hab e => by have : (a : Int) = b := e; omega)
  have hperm : ((pk n pend).map Int.ofNat).Perm (intKeys (.map es)) := perm_intKeys hp hk2 hnd fun x => by
    rw [h.has, List.mem_map]
    constructor
    · rintro ⟨k, hk, rfl⟩
      exact ⟨k, (mem_pk.1 hk).1, (mem_pk.1 hk).2, rfl⟩
    · rintro ⟨k, h1, h2, e⟩
      exact ⟨k, mem_pk.2 ⟨h1, h2⟩, by injection e with _ e; exact e.symm⟩
  have hp3 := hs.trans hperm.symm
  refine ⟨?_, by rw [hp3.length_eq, List.length_map]⟩
  have e := mergeSort_of_perm_i hp3
  rw [show ss.mergeSort (fun x y => decide (x ≤ y)) = ss.mergeSort leI from rfl, e]
  refine List.mergeSort_of_pairwise (List.pairwise_map.2 ((pk_rising n pend).imp fun {a b} hab => ?_))
  simp only [leI, decide_eq_true_eq, Int.ofNat_eq_natCast]
  omega

/-- Pending. -/
theorem Pending_dev {w : World} {b : Nat} {F : Nat → Prop} {N : Nat} {S : St} (h : Dev w b F N S) (hN : N < 1000000) :
    Calls Tryz.prog 38 #[.pointer (some ⟨b, 0, none⟩)] w fun e w' => ∃ v, e = .returned v ∧ w'.ownsRow w.heap.size 3 1 v (pk S.safe.length S.pend).length ((pk S.safe.length S.pend).map fun k => Value.int .i64 (k : Nat)) ∧ Below w.heap.size w w' := by
  obtain ⟨g, c, m, vf, D, h⟩ := h
  have hz := h.pend.own.size_le
  refine (Pending_map b m N D rawE w h.dev.c1 h.pend.own (by unfold maxLen; omega) (by omega)).mono ?_
  rintro e w' ⟨v, ss, rfl, hs, hrow, hnil, hb⟩
  obtain ⟨e1, e2⟩ := h.pend.keys ss hs
  rw [e1, e2] at hrow
  refine ⟨v, rfl, ?_, hb⟩
  rw [List.map_map] at hrow
  exact hrow
end Go.Proofs.YtfnhhjpebilacaaGreat

/-
  DERIVED. Write and Flush where they stop.
-/
namespace Go.Proofs.YtfnhhjpebilacaaGreat
open Go.RowKit
set_option linter.unusedVariables false

section
variable {w : World} {b : Nat} {fl pm : Value} {fused : Bool} {fuse : Int} {down : Bool} {ops : Int} {a : Option Addr} {n c : Nat}

theorem Write_closed (k : Int) (v : Value) (h : DevAt w b (.slice a n c) pm fused fuse down ops) (hE : openE n down k ≠ 0) :
    Calls Tryz.prog 28 #[.pointer (some ⟨b, 0, none⟩), .int .i64 k, v] w fun e w' => e = .returned (.int .i64 (openE n down k)) ∧ w = w' := by
  have HD := hide h
  clear h
  have hne : (openE n down k != 0) = true := by rw [bne_iff_ne]; exact hE
  go_enter Tryz.func28, Tryz.ntmps28
  go_wp2_with (go_at_call 49; refine (open_dev k (unhide HD)).mono ?_; rintro e w' ⟨rfl, rfl⟩)
  go_ret
  exact ⟨rfl, rfl⟩

theorem Write_sized (k : Int) (a' : Option Addr) (n' c' : Nat) (h : DevAt w b (.slice a n c) pm fused fuse down ops) (hE : openE n down k = 0) (hn : n' ≠ 512) :
    Calls Tryz.prog 28 #[.pointer (some ⟨b, 0, none⟩), .int .i64 k, .slice a' n' c'] w fun e w' => e = .returned (.int .i64 21) ∧ w = w' := by
  have HD := hide h
  clear h
  have hne : ((n' : Int) != 512) = true := by rw [bne_iff_ne]; omega
  go_enter Tryz.func28, Tryz.ntmps28
  go_wp2_with (go_at_call 49; refine (open_dev k (unhide HD)).mono ?_; rintro e w' ⟨rfl, rfl⟩; rw [hE])
  go_ret
  exact ⟨rfl, rfl⟩

theorem Write_burnt (k : Int) (a' : Option Addr) (c' : Nat) (h : DevAt w b (.slice a n c) pm fused fuse down ops) (hE : openE n down k = 0) (hB : burnE fused fuse ≠ 0) (f1 : 0 ≤ fuse) (f2 : fuse < 9223372036854775808) (o1 : 0 ≤ ops) (o2 : ops < 9223372036854775807) :
    Calls Tryz.prog 28 #[.pointer (some ⟨b, 0, none⟩), .int .i64 k, .slice a' 512 c'] w fun e w' => e = .returned (.int .i64 (burnE fused fuse)) ∧ DevAt w' b (.slice a n c) pm fused (burnF fused fuse) (burnD fused fuse down) (burnO fused fuse ops) ∧ Only b w w' := by
  have HD := hide h
  clear h
  have hne : (burnE fused fuse != 0) = true := by rw [bne_iff_ne]; exact hB
  go_enter Tryz.func28, Tryz.ntmps28
  go_wp2_with (first | (go_at_call 49; refine (open_dev k (unhide HD)).mono ?_; rintro e w' ⟨rfl, rfl⟩; rw [hE]) | fail)
  refine (burn_dev (unhide HD) f1 f2 o1 o2).mono ?_
  rintro e w1 ⟨rfl, d1, o1⟩
  have H1 := hide (And.intro d1 o1)
  clear d1 o1
  go_wp2
  go_ret
  exact ⟨rfl, unhide H1⟩

theorem Flush_down (h : DevAt w b fl pm fused fuse true ops) :
    Calls Tryz.prog 45 #[.pointer (some ⟨b, 0, none⟩)] w fun e w' => e = .returned (.int .i64 2) ∧ w = w' := by
  have HD := hide h
  clear h
  go_enter Tryz.func45, Tryz.ntmps45
  go_wp2_with (go_at_call 36; refine (up_dev (unhide HD)).mono ?_; rintro e w' ⟨rfl, rfl⟩)
  go_ret
  exact ⟨rfl, rfl⟩

theorem Flush_burnt (h : DevAt w b fl pm fused fuse false ops) (hB : burnE fused fuse ≠ 0) (f1 : 0 ≤ fuse) (f2 : fuse < 9223372036854775808) (o1 : 0 ≤ ops) (o2 : ops < 9223372036854775807) :
    Calls Tryz.prog 45 #[.pointer (some ⟨b, 0, none⟩)] w fun e w' => e = .returned (.int .i64 (burnE fused fuse)) ∧ DevAt w' b fl pm fused (burnF fused fuse) (burnD fused fuse false) (burnO fused fuse ops) ∧ Only b w w' := by
  have HD := hide h
  clear h
  have hne : (burnE fused fuse != 0) = true := by rw [bne_iff_ne]; exact hB
  go_enter Tryz.func45, Tryz.ntmps45
  go_wp2_with (first | (go_at_call 36; refine (up_dev (unhide HD)).mono ?_; rintro e w' ⟨rfl, rfl⟩) | fail)
  refine (burn_dev (unhide HD) f1 f2 o1 o2).mono ?_
  rintro e w1 ⟨rfl, d1, o1⟩
  have H1 := hide (And.intro d1 o1)
  clear d1 o1
  go_wp2
  go_ret
  exact ⟨rfl, unhide H1⟩
end
end Go.Proofs.YtfnhhjpebilacaaGreat

/-
  DERIVED. newest, kept, Read, Write, Flush where it stops, Fuse: over a device in memory.
-/
namespace Go.Proofs.YtfnhhjpebilacaaGreat
open Go.RowKit Go.Maps
set_option linter.unusedVariables false

theorem Blks.form {w : World} {v : Value} {bs : List (List UInt8)} (h : Blks w v bs) : ∃ ao cap, v = .slice ao bs.length cap ∧ (bs ≠ [] → ∃ q, ao = some ⟨q, 0, none⟩) := by
  rcases h.2 with ⟨rfl, h0⟩ | ⟨q, cap, cur, rfl, _⟩
  · exact ⟨none, 0, by rw [h0], fun hne => absurd (List.eq_nil_of_length_eq_zero h0) hne⟩
  · exact ⟨_, cap, rfl, fun _ => ⟨q, rfl⟩⟩

theorem PendAt.lookA {w : World} {F : Nat → Prop} {m g n N : Nat} {pend : Nat → List (List UInt8)} {vf : Nat → Value} {D : DataW Value} (h : PendAt w F m g n N pend vf D) (k : Nat) (hk : k < n) (hn : n ≤ 512) (o : Obj) :
    (Instr.lookup 66 (.map (some m)) (.int .i64 k) false).run Tryz.prog (w.alloc o) = .ok (vf k) (w.alloc o) := look_of (h.own.alloc o) k (by omega) (h.at_ k hk)

/-- A block as it was written last. -/
def St.newest (S : St) (k : Nat) : List UInt8 := ((S.pend k).getLast?).getD ((S.safe)[k]?.getD [])
theorem St.newest_len {w : World} {b : Nat} {F : Nat → Prop} {N : Nat} {S : St} {g c m : Nat} {vf : Nat → Value} {D : DataW Value} (h : DevIn w b F N S g c m vf D) (k : Nat) (hk : k < S.safe.length) : (S.newest k).length = 512 := by
  unfold St.newest
  by_cases e : S.pend k = []
  · rw [e, List.getLast?_nil, Option.getD_none, List.getElem?_eq_getElem hk, Option.getD_some]
    exact h.wide _ (List.getElem_mem hk)
  · rw [List.getLast?_eq_some_getLast e, Option.getD_some]
    exact h.pend.wide k _ (List.getLast_mem e)

theorem newest_dev {w : World} {b : Nat} {F : Nat → Prop} {N : Nat} {S : St} {g c m : Nat} {vf : Nat → Value} {D : DataW Value} (h : DevIn w b F N S g c m vf D) (k : Nat) (hk : k < S.safe.length) (hN : N < 2000000) :
    Calls Tryz.prog 51 #[.pointer (some ⟨b, 0, none⟩), .int .i64 k] w fun e w' => e = .returned (.agg ((S.newest k).map bv).toArray) ∧ Below w.heap.size w w' := by
  have hl5 : ((S.newest k).map bv).length = 512 := by rw [List.length_map]; exact St.newest_len h k hk
  obtain ⟨ao, cap, hv, hne⟩ := Blks.form (h.pend.rows k)
  by_cases e : S.pend k = []
  · refine newest_old w k ao cap _ h.dev hk (fun o => ?_) ?_ hl5 (bv_one _)
    · rw [h.pend.lookA k hk h.n2 o, hv, e]; rfl
    · have he : S.newest k = S.safe[k] := by unfold St.newest; rw [e, List.getLast?_nil, Option.getD_none, List.getElem?_eq_getElem hk, Option.getD_some]
      rw [he]
      exact Blks.range h.wide h.safe k hk
  · obtain ⟨q, rfl⟩ := hne e
    have hpos : 0 < (S.pend k).length := List.length_pos_iff.2 e
    obtain ⟨j, hj⟩ : ∃ j, (S.pend k).length = j + 1 := ⟨(S.pend k).length - 1, by omega⟩
    have hr := h.pend.rows k
    rw [hv] at hr
    have hjl := h.pend.len k
    refine newest_new (g := 0) (n := 0) (c := 0) w k q j cap _ h.dev (by omega) (fun o => ?_) ?_ hl5 (bv_one _)
    · rw [h.pend.lookA k hk h.n2 o, hv, hj]
    · have he : S.newest k = (S.pend k)[j]'(by omega) := by
        unfold St.newest
        rw [List.getLast?_eq_some_getLast e, Option.getD_some, List.getLast_eq_getElem]
        simp [hj]
      rw [he]
      exact Blks.range (h.pend.wide k) hr j (by omega)

/-- What a crash keeps of a block. -/
def St.keptB (S : St) (k : Nat) (p : Int) : List UInt8 := if pickR p (S.pend k).length = 0 then (S.safe)[k]?.getD [] else ((S.pend k)[pickR p (S.pend k).length - 1]?).getD []
theorem pickR_lt (p : Int) (L : Nat) : pickR p L < L + 1 := Nat.mod_lt _ (by omega)
theorem St.keptB_len {w : World} {b : Nat} {F : Nat → Prop} {N : Nat} {S : St} {g c m : Nat} {vf : Nat → Value} {D : DataW Value} (h : DevIn w b F N S g c m vf D) (k : Nat) (hk : k < S.safe.length) (p : Int) : (S.keptB k p).length = 512 := by
  unfold St.keptB
  have hlt := pickR_lt p (S.pend k).length
  split
  · rw [List.getElem?_eq_getElem hk, Option.getD_some]
    exact h.wide _ (List.getElem_mem hk)
  · rw [List.getElem?_eq_getElem (by omega), Option.getD_some]
    exact h.pend.wide k _ (List.getElem_mem _)

theorem kept_dev {w : World} {b : Nat} {F : Nat → Prop} {N : Nat} {S : St} {g c m : Nat} {vf : Nat → Value} {D : DataW Value} (h : DevIn w b F N S g c m vf D) (k : Nat) (hk : k < S.safe.length) (p : Int) (p1 : -9223372036854775808 ≤ p) (p2 : p < 9223372036854775808) (hN : N < 2000000) :
    Calls Tryz.prog 39 #[.pointer (some ⟨b, 0, none⟩), .int .i64 k, .int .i64 p] w fun e w' => e = .returned (.agg ((S.keptB k p).map bv).toArray) ∧ Below w.heap.size w w' := by
  have hl5 : ((S.keptB k p).map bv).length = 512 := by rw [List.length_map]; exact St.keptB_len h k hk p
  obtain ⟨ao, cap, hv, hne⟩ := Blks.form (h.pend.rows k)
  have hlt := pickR_lt p (S.pend k).length
  have hjl := h.pend.len k
  by_cases e : pickR p (S.pend k).length = 0
  · refine kept_old w k p ao (S.pend k).length cap _ h.dev hk p1 p2 (by omega) (fun o => ?_) e ?_ hl5 (bv_one _)
    · rw [h.pend.lookA k hk h.n2 o, hv]
    · have he : S.keptB k p = S.safe[k] := by unfold St.keptB; rw [if_pos e, List.getElem?_eq_getElem hk, Option.getD_some]
      rw [he]
      exact Blks.range h.wide h.safe k hk
  · have e2 : S.pend k ≠ [] := fun e2 => by rw [e2] at hlt e; simp at hlt; exact e (by simpa using hlt)
    obtain ⟨q, rfl⟩ := hne e2
    obtain ⟨j, hj⟩ : ∃ j, pickR p (S.pend k).length = j + 1 := ⟨pickR p (S.pend k).length - 1, by omega⟩
    have hr := h.pend.rows k
    rw [hv] at hr
    refine kept_new w k p q (S.pend k).length cap j _ h.dev p1 p2 (by omega) (fun o => ?_) hj ?_ hl5 (bv_one _)
    · rw [h.pend.lookA k hk h.n2 o, hv]
    · have he : S.keptB k p = (S.pend k)[j]'(by omega) := by
        unfold St.keptB
        rw [if_neg e, hj, Nat.add_sub_cancel, List.getElem?_eq_getElem (by omega), Option.getD_some]
      rw [he]
      exact Blks.range (h.pend.wide k) hr j (by omega)

/-- Where a block can be reached. -/
theorem St.open_ok (S : St) (k : Nat) (hk : k < S.safe.length) (hd : S.down = false) : openE S.safe.length S.down k = 0 := by
  unfold openE; rw [hd, if_neg (by simp), if_pos (by omega)]

theorem Read_dev {w : World} {b : Nat} {F : Nat → Prop} {N : Nat} {S : St} (h : Dev w b F N S) (k : Nat) (hk : k < S.safe.length) (hd : S.down = false) (hB : burnE S.fused S.fuse = 0) (hN : N < 1000000) :
    Calls Tryz.prog 25 #[.pointer (some ⟨b, 0, none⟩), .int .i64 k] w fun e w' => ∃ q, e = .returned (.tuple #[.slice (some ⟨q, 0, none⟩) 512 512, .int .i64 0]) ∧ w.heap.size ≤ q ∧ w'.heap[q]? = some (.cells ((S.newest k).map bv).toArray 84 (0, 0)) ∧ Dev w' b F (N + 1) S.burn ∧ Kept F w w' := by
  obtain ⟨g, c, m, vf, D, h⟩ := h
  have hl5 : ((S.newest k).map bv).length = 512 := by rw [List.length_map]; exact St.newest_len h k hk
  refine (Read_ok k ((S.newest k).map bv) h.dev (S.open_ok k hk hd) hB h.f1 h.f2 h.o1 (by have := h.o2; omega) hl5 (bv_one _) (fun w1 o1 d1 => ?_)).mono ?_
  · exact newest_dev (h.burn o1 d1) k hk (by omega)
  · rintro e w' ⟨w1, q, rfl, o1, d1, b1, hq, hg⟩
    exact ⟨q, rfl, by rw [o1.size] at hq; exact hq, hg, ⟨g, c, m, vf, D, (h.burn o1 d1).frame fun j _ hj => b1.block j hj⟩, (Kept.of_only o1 h.fb).trans (Kept.of_below b1)⟩

theorem Read_dev_burnt {w : World} {b : Nat} {F : Nat → Prop} {N : Nat} {S : St} (h : Dev w b F N S) (k : Nat) (hk : k < S.safe.length) (hd : S.down = false) (hB : burnE S.fused S.fuse ≠ 0) (hN : N < 1000000) :
    Calls Tryz.prog 25 #[.pointer (some ⟨b, 0, none⟩), .int .i64 k] w fun e w' => e = .returned (.tuple #[.slice none 0 0, .int .i64 2]) ∧ Dev w' b F (N + 1) S.burn ∧ Kept F w w' := by
  obtain ⟨g, c, m, vf, D, h⟩ := h
  have h2 : burnE S.fused S.fuse = 2 := by unfold burnE at hB ⊢; split at hB <;> simp_all
  refine (Read_burnt k h.dev (S.open_ok k hk hd) hB h.f1 h.f2 h.o1 (by have := h.o2; omega)).mono ?_
  rintro e w' ⟨rfl, d1, o1⟩
  exact ⟨by rw [h2], ⟨g, c, m, vf, D, h.burn o1 d1⟩, Kept.of_only o1 h.fb⟩

theorem Read_dev_shut {w : World} {b : Nat} {F : Nat → Prop} {N : Nat} {S : St} (h : Dev w b F N S) (k : Int) (hE : openE S.safe.length S.down k ≠ 0) :
    Calls Tryz.prog 25 #[.pointer (some ⟨b, 0, none⟩), .int .i64 k] w fun e w' => e = .returned (.tuple #[.slice none 0 0, .int .i64 (openE S.safe.length S.down k)]) ∧ w = w' := by
  obtain ⟨g, c, m, vf, D, h⟩ := h
  exact Read_closed k h.dev hE

theorem Write_dev {w : World} {b : Nat} {F : Nat → Prop} {N : Nat} {S : St} (h : Dev w b F N S) (k : Nat) (L : List UInt8) (v : Value) (hk : k < S.safe.length) (hd : S.down = false) (hB : burnE S.fused S.fuse = 0)
    (hv : Sl w v L) (hL : L.length = 512) (hN : N < 1000000) (hF : ∀ j, w.heap.size ≤ j → F j) :
    Calls Tryz.prog 28 #[.pointer (some ⟨b, 0, none⟩), .int .i64 k, v] w fun e w' => e = .returned (.int .i64 0) ∧ Dev w' b F (N + 2) (S.burn.wrote k L) ∧ Kept F w w' := by
  obtain ⟨g, c, m, vf, D, h⟩ := h
  exact Write_in k L v h hk hd hB hv hL hN hF

theorem Write_dev_burnt {w : World} {b : Nat} {F : Nat → Prop} {N : Nat} {S : St} (h : Dev w b F N S) (k : Nat) (a' : Option Addr) (c' : Nat) (hk : k < S.safe.length) (hd : S.down = false) (hB : burnE S.fused S.fuse ≠ 0) (hN : N < 1000000) :
    Calls Tryz.prog 28 #[.pointer (some ⟨b, 0, none⟩), .int .i64 k, .slice a' 512 c'] w fun e w' => e = .returned (.int .i64 2) ∧ Dev w' b F (N + 1) S.burn ∧ Kept F w w' := by
  obtain ⟨g, c, m, vf, D, h⟩ := h
  have h2 : burnE S.fused S.fuse = 2 := by unfold burnE at hB ⊢; split at hB <;> simp_all
  refine (Write_burnt k a' c' h.dev (S.open_ok k hk hd) hB h.f1 h.f2 h.o1 (by have := h.o2; omega)).mono ?_
  rintro e w' ⟨rfl, d1, o1⟩
  exact ⟨by rw [h2], ⟨g, c, m, vf, D, h.burn o1 d1⟩, Kept.of_only o1 h.fb⟩

theorem Flush_dev_burnt {w : World} {b : Nat} {F : Nat → Prop} {N : Nat} {S : St} (h : Dev w b F N S) (hd : S.down = false) (hB : burnE S.fused S.fuse ≠ 0) (hN : N < 1000000) :
    Calls Tryz.prog 45 #[.pointer (some ⟨b, 0, none⟩)] w fun e w' => e = .returned (.int .i64 2) ∧ Dev w' b F (N + 1) S.burn ∧ Kept F w w' := by
  obtain ⟨g, c, m, vf, D, h⟩ := h
  have h2 : burnE S.fused S.fuse = 2 := by unfold burnE at hB ⊢; split at hB <;> simp_all
  have h3 := h.dev
  rw [hd] at h3
  refine (Flush_burnt h3 hB h.f1 h.f2 h.o1 (by have := h.o2; omega)).mono ?_
  rintro e w' ⟨rfl, d1, o1⟩
  exact ⟨by rw [h2], ⟨g, c, m, vf, D, h.burn o1 (by rw [hd]; exact d1)⟩, Kept.of_only o1 h.fb⟩

/-- A device with a fuse. -/
def St.fuseK (S : St) (k : Int) : St := if S.down then S else { S with fused := decide (0 ≤ k), fuse := max k 0 }
theorem Fuse_devS {w : World} {b : Nat} {F : Nat → Prop} {N : Nat} {S : St} (h : Dev w b F N S) (k : Int) (k1 : -9223372036854775808 ≤ k) (k2 : k < 9223372036854775808) :
    Calls Tryz.prog 15 #[.pointer (some ⟨b, 0, none⟩), .int .i64 k] w fun e w' => e = .returned (.int .i64 (if S.down then 2 else 0)) ∧ Dev w' b F N (S.fuseK k) ∧ Kept F w w' := by
  obtain ⟨g, c, m, vf, D, h⟩ := h
  refine (Fuse_dev k h.dev k1 k2).mono ?_
  rintro e w' ⟨rfl, d1, o1⟩
  refine ⟨rfl, ⟨g, c, m, vf, D, ?_⟩, Kept.of_only o1 h.fb⟩
  unfold St.fuseK
  cases hd : S.down
  · simp only [hd, Bool.false_eq_true, if_false] at d1 ⊢
    exact h.turn o1 (Nat.le_refl _) d1 rfl rfl (by show 0 ≤ max k 0; omega) (by show max k 0 < _; omega) h.o1 h.o2
  · simp only [hd, if_true] at d1 ⊢
    exact h.turn o1 (Nat.le_refl _) (by rw [hd]; exact d1) rfl rfl h.f1 h.f2 h.o1 h.o2
end Go.Proofs.YtfnhhjpebilacaaGreat

/-
  DERIVED. Crash.
-/
namespace Go.Proofs.YtfnhhjpebilacaaGreat
open Go.RowKit Go.Maps
set_option linter.unusedVariables false

/-- A slice of numbers. -/
def Ints (w : World) (v : Value) (l : List Int) : Prop :=
  ∃ ao cap, v = .slice ao l.length cap ∧ l.length ≤ 9223372036854775807 ∧ (∀ x ∈ l, -9223372036854775808 ≤ x ∧ x < 9223372036854775808) ∧ (l ≠ [] → ∃ pb off, ao = some ⟨pb, off, none⟩ ∧ pb < w.heap.size ∧ ∀ i, (h : i < l.length) → w.cell? ⟨pb, off + i, none⟩ = some (.int .i64 l[i]))

theorem idx_ints (ao : Option Addr) (n cap pb off j : Nat) (h : ao = some ⟨pb, off, none⟩) (hj : j < n) (W : World) : (Instr.indexAt 31 (.slice ao n cap) (.int .i64 (j : Nat))).run Tryz.prog W = .ok (.pointer (some ⟨pb, off + j, none⟩)) W := by
  subst h
  have hu : Tryz.prog.underlying 31 = some (.slice (Tryz.prog.elem 31)) := by kernel_rfl
  rw [run_indexAt_slice (h := hu), if_pos (by omega)]
  have e : Tryz.prog.elem 31 = 3 := by kernel_rfl
  have e2 : (sizeOf 3).run Tryz.prog W = .ok 1 W := by kernel_rfl
  rw [e, e2, Result.andThen_ok, Nat.mul_one, Int.toNat_natCast, addr_add]

theorem DevIn.setSafe {w : World} {b : Nat} {F : Nat → Prop} {N : Nat} {S : St} {g c m : Nat} {vf : Nat → Value} {D : DataW Value} (h : DevIn w b F N S g c m vf D) (k : Nat) (hk : k < S.safe.length) (L : List UInt8) (hL : L.length = 512) :
    DevIn (w.setCells g (k * 512) (L.map bv)) b F N { S with safe := S.safe.set k L } g c m vf D := by
  obtain ⟨n1, n2, n3⟩ := h.ne_map
  have hg := grown_setCells g (L.map bv) (k * 512) w
  have hsl : (S.safe.set k L).length = S.safe.length := List.length_set
  exact { dev := by
            show DevAt _ b (.slice _ (S.safe.set k L).length c) _ _ _ _ _
            rw [hsl]
            exact (hg.block b h.dev.lt (fun e => n3 (Option.some.inj e).symm)).trans h.dev
          safe := by
            show Blks _ (.slice _ (S.safe.set k L).length c) (S.safe.set k L)
            rw [hsl]
            exact Blks.set h.safe h.wide k hk L hL
          wide := h.wide.set hL k
          pend := by
            show PendAt _ F m g (S.safe.set k L).length N S.pend vf D
            rw [hsl]
            exact h.pend.frame' (hg.block m h.pend.own.lt (fun e => n2 (Option.some.inj e).symm)) fun j q hq hlt => hg.block q hlt fun e => (h.pend.foot j q hq).2 (Option.some.inj e)
          fb := h.fb, fg := h.fg, fm := h.fm, f1 := h.f1, f2 := h.f2, o1 := h.o1, o2 := h.o2
          n1 := by show 64 ≤ (S.safe.set k L).length; rw [hsl]; exact h.n1
          n2 := by show (S.safe.set k L).length ≤ 512; rw [hsl]; exact h.n2 }

def pickAt (ps : List Int) (i : Nat) : Int := (ps[i]?).getD 0
/-- The blocks with writes. -/
def St.keys (S : St) : List Nat := pk S.safe.length S.pend
/-- What is flushed, so far in a crash. -/
def St.crashTo (S : St) (ps : List Int) : Nat → List (List UInt8)
  | 0 => S.safe
  | i + 1 => (St.crashTo S ps i).set ((S.keys[i]?).getD 0) (St.keptB { S with safe := St.crashTo S ps i } ((S.keys[i]?).getD 0) (pickAt ps i))
theorem St.crashTo_len (S : St) (ps : List Int) : ∀ i, (S.crashTo ps i).length = S.safe.length
  | 0 => rfl
  | i + 1 => by rw [St.crashTo, List.length_set, St.crashTo_len S ps i]
def St.crashAt (S : St) (ps : List Int) (i : Nat) : St := { S with safe := S.crashTo ps i }
/-- A device behind a crash. -/
def St.crash (S : St) (ps : List Int) : St := { safe := S.crashTo ps S.keys.length, pend := fun _ => [], fused := false, fuse := 0, down := false, ops := S.ops }

theorem mem_keys {S : St} {k : Nat} (h : k ∈ S.keys) : k < S.safe.length := (mem_pk.1 h).1

/-- The device behind the clearing, its cells set. -/
theorem DevIn.cleared {w w' : World} {b : Nat} {F : Nat → Prop} {N : Nat} {S : St} {g c m : Nat} {vf : Nat → Value} {D : DataW Value} (h : DevIn w b F N S g c m vf D) (hc : w'.ownsMap Tryz.prog 3 rawE m 0 (.map [])) (hg : w.grownBy w' (some m)) :
    DevIn w' b F N { S with pend := fun _ => [] } g c m (fun _ => nilS) (.map []) := by
  obtain ⟨n1, n2, n3⟩ := h.ne_map
  obtain ⟨cur, hcur⟩ := Blks.mark h.safe rfl
  exact { h with
    dev := (hg.block b h.dev.lt (fun e => n1 (Option.some.inj e))).trans h.dev
    safe := Blks.frame h.safe fun q hq hlt => by cases hq; exact hg.block g hlt (fun e => n2 (Option.some.inj e))
    pend := h.pend.cleared hc }

theorem Pending_form {w : World} {b : Nat} {F : Nat → Prop} {N : Nat} {S : St} {g c m : Nat} {vf : Nat → Value} {D : DataW Value} (h : DevIn w b F N S g c m vf D) (hN : N < 1000000) :
    Calls Tryz.prog 38 #[.pointer (some ⟨b, 0, none⟩)] w fun e w' => ∃ ao cap, e = .returned (.slice ao S.keys.length cap) ∧ (∀ i, (hi : i < S.keys.length) → ∃ q, ao = some ⟨q, 0, none⟩ ∧ w.heap.size ≤ q ∧ q < w'.heap.size ∧ w'.cell? ⟨q, 0 + i, none⟩ = some (.int .i64 (S.keys[i] : Nat))) ∧ Below w.heap.size w w' := by
  refine (Pending_dev ⟨g, c, m, vf, D, h⟩ hN).mono ?_
  rintro e w' ⟨v, rfl, hrow, hb⟩
  rcases hrow.2 with ⟨rfl, h0⟩ | ⟨q, cap, cur, rfl, hq, hcur, _⟩
  · exact ⟨none, 0, by show _ = Ending.returned (.slice none (pk S.safe.length S.pend).length 0); rw [h0], fun i hi => by have : i < (pk S.safe.length S.pend).length := hi; omega, hb⟩
  · refine ⟨_, cap, rfl, fun i hi => ⟨q, rfl, hq, lt_of_block hcur, ?_⟩, hb⟩
    have := hrow.cells (g := q) rfl i (.int .i64 (S.keys[i] : Nat)) (by rw [List.getElem?_map]; show Option.map _ (S.keys[i]?) = _; rw [List.getElem?_eq_getElem hi]; rfl)
    rw [addr_add] at this
    exact this

set_option maxRecDepth 100000 in
set_option maxHeartbeats 3200000 in
theorem Crash_in {w : World} {b : Nat} {F : Nat → Prop} {N : Nat} {S : St} {g c m : Nat} {vf : Nat → Value} {D : DataW Value} (h : DevIn w b F N S g c m vf D) (hN : N < 1000000) (ps : List Int) (v : Value) (hv : Ints w v ps) (hvo : ps ≠ [] → ∀ pb, v.ownBlock = some pb → ¬ F pb) :
    Calls Tryz.prog 18 #[.pointer (some ⟨b, 0, none⟩), v] w fun e w' => e = .returned (.tuple #[]) ∧ Dev w' b F N (S.crash ps) ∧ Kept F w w' := by
  obtain ⟨ap, cp, rfl, hpl, hpr, hpc⟩ := hv
  have HD := hide h
  have HP := hide hpc
  have HR := hide hpr
  have hkl : S.keys.length ≤ 512 := Nat.le_trans (pk_len _ _) h.n2
  have hblt := h.dev.lt
  have hglt : g < w.heap.size := lt_of_block (Blks.mark h.safe rfl).choose_spec
  clear h hpc hpr
  go_enter Tryz.func18, Tryz.ntmps18
  go_wp2_with (first | (go_at_call 38; refine (Pending_form (unhide HD) hN).mono ?_; rintro e w2 ⟨ao, cap, rfl, hao, hb2⟩) | fail)
  have HA := hide hao
  have HB := hide hb2
  clear hao hb2
  go_wp2_with fail
  go_loopw [12] (fun i wr => ∃ j : Nat, j ≤ S.keys.length ∧ i = .int .i64 j ∧ DevIn wr b F N (S.crashAt ps j) g c m vf D ∧ w2.grownBy wr (some g)) (fun i _ => S.keys.length - (intOf i).toNat)
  case atStart => exact ⟨0, Nat.zero_le _, rfl, (unhide HD).frame fun j _ hj => (unhide HB).block j hj, ⟨rfl, rfl, rfl, Nat.le_refl _, fun _ _ _ => rfl⟩⟩
  case round =>
    obtain ⟨j, hj, rfl, hdv, hgr⟩ := hrel
    have HV := hide hdv
    have HG := hide hgr
    have hws : w.heap.size ≤ wr.heap.size := Nat.le_trans (unhide HB).size hgr.size
    clear hdv hgr
    by_cases hlt : j < S.keys.length
    · obtain ⟨q, hq, hqw, hq2, hqc⟩ := unhide HA j hlt
      have hix := idx_ints ao S.keys.length cap q 0 j hq hlt
      have hcl : wr.cell? ⟨q, 0 + j, none⟩ = some (.int .i64 (S.keys[j] : Nat)) := ((unhide HG).cell_far ⟨q, 0 + j, none⟩ hq2 (fun e => by have : q = g := Option.some.inj e; omega)).trans hqc
      obtain ⟨k, hk⟩ : ∃ k, k = S.keys[j] := ⟨_, rfl⟩
      have hkn : k < S.safe.length := by rw [hk]; exact mem_keys (List.getElem_mem hlt)
      rw [← hk, Nat.zero_add] at hcl
      simp only [Nat.zero_add] at hix
      have HK := hide hk
      clear hk hq hqc
      have hkn2 : k < (S.crashAt ps j).safe.length := by show k < (S.crashTo ps j).length; rw [St.crashTo_len]; exact hkn
      obtain ⟨p, hp⟩ : ∃ p, p = pickAt ps j := ⟨_, rfl⟩
      have hpb : -9223372036854775808 ≤ p ∧ p < 9223372036854775808 := by
        rw [hp]
        unfold pickAt
        by_cases e : j < ps.length
        · rw [List.getElem?_eq_getElem e, Option.getD_some]; exact unhide HR _ (List.getElem_mem e)
        · rw [List.getElem?_eq_none (by omega)]; decide
      obtain ⟨cs, hcs⟩ : ∃ cs, cs = ((S.crashAt ps j).keptB k p).map bv := ⟨_, rfl⟩
      have hc5 : cs.length = 512 := by rw [hcs, List.length_map]; exact St.keptB_len (unhide HV) k hkn2 p
      have h1c : ∀ v ∈ cs, v.oneCell' = true := by rw [hcs]; exact bv_one _
      have hkept := fun W hW => kept_dev ((unhide HV).frame (w' := W) hW) k hkn2 p hpb.1 hpb.2 (by omega)
      rw [← hcs] at hkept
      have HKP := hide hkept
      have HCS := hide hcs
      have HPP := hide hp
      clear hkept hcs
      have hn : (S.crashAt ps j).safe.length = S.safe.length := St.crashTo_len S ps j
      have c0 := (unhide HV).dev.c0
      rw [hn] at c0
      have th : wr.there g (k * 512) 512 := Blks.there (unhide HV).safe (unhide HV).wide k hkn2
      have HTH := hide th
      clear hn th hkn2
      have hi : (Tryz.prog.info? 84).map (·.size) = some cs.length := by rw [hc5]; exact sizeBlock
      have hu := Tryz.underlying84
      have hk0 : (0 : Int) ≤ (k : Int) := Int.natCast_nonneg _
      have hk1 : (k : Int) < (S.safe.length : Int) := by omega
      have hbg : b ≠ g := fun e => (unhide HV).ne_map.2.2 e.symm
      have hbr : b < wr.heap.size := (unhide HV).dev.lt
      have hgr : g < wr.heap.size := lt_of_block (Blks.mark (unhide HV).safe rfl).choose_spec
      have HS3 : Hid (∀ W, Below wr.heap.size wr W → W.cell? ⟨b, 0, none⟩ = some (.slice (some ⟨g, 0, none⟩) S.safe.length c) ∧ W.there g (k * 512) 512) := hide fun W hW => ⟨(hW.cell (p := ⟨b, 0, none⟩) hbr).trans c0, fun i hi => by
        rw [hW.cell (p := ⟨g, k * 512 + i, none⟩) hgr, hW.frozen (p := ⟨g, k * 512 + i, none⟩) hgr]; exact unhide HTH i hi⟩
      have HS4 : Hid (∀ W, Below wr.heap.size wr W → (W.setCells g (k * 512) cs).cell? ⟨b, 0, none⟩ = some (.slice (some ⟨g, 0, none⟩) S.safe.length c) ∧ (W.setCells g (k * 512) cs).there g (k * 512) 512) := hide fun W hW => by
        obtain ⟨q1, q2⟩ := unhide HS3 W hW
        exact ⟨(World.cell?_setCells_out g cs _ W ⟨b, 0, none⟩ (fun e => absurd e hbg)).trans q1, World.there_setCells q2 _ _ _⟩
      have HFIN : Hid (∀ W, Below wr.heap.size wr W → DevIn (W.setCells g (k * 512) cs) b F N (S.crashAt ps (j + 1)) g c m vf D ∧ w2.grownBy (W.setCells g (k * 512) cs) (some g)) := hide fun W hW => by
        have h1 := ((unhide HV).frame (w' := W) fun i _ hi => hW.block i hi).setSafe k (by show k < (S.crashTo ps j).length; rw [St.crashTo_len]; exact hkn) ((S.crashAt ps j).keptB k p) (St.keptB_len (unhide HV) k (by show k < (S.crashTo ps j).length; rw [St.crashTo_len]; exact hkn) p)
        rw [← unhide HCS] at h1
        have e : S.crashAt ps (j + 1) = { S.crashAt ps j with safe := (S.crashAt ps j).safe.set k ((S.crashAt ps j).keptB k p) } := by
          have ek : (S.keys[j]?).getD 0 = k := by rw [List.getElem?_eq_getElem hlt, Option.getD_some, ← unhide HK]
          unfold St.crashAt
          rw [St.crashTo, ek, ← unhide HPP]
        refine ⟨by rw [e]; exact h1, (unhide HG).trans (World.grownBy.trans ?_ (grown_setCells g cs _ W))⟩
        exact ⟨hW.os, hW.tape, hW.output, hW.size, fun i hi _ => hW.block i hi⟩
      by_cases hj2 : j < ps.length
      · obtain ⟨pb, off, hap, hpw, hpcl⟩ := unhide HP (fun e => by rw [e] at hj2; simp at hj2)
        have hix2 := idx_ints ap ps.length cp pb off j hap hj2
        have hpg : pb ≠ g := fun e => hvo (fun e2 => by rw [e2] at hj2; simp at hj2) pb (by rw [hap]; rfl) (e ▸ (unhide HD).fg)
        have hcl2 : wr.cell? ⟨pb, off + j, none⟩ = some (.int .i64 p) := by
          rw [(unhide HG).cell_far ⟨pb, off + j, none⟩ (by have := (unhide HB).size; show pb < w2.heap.size; omega) (fun e => hpg (Option.some.inj e)), (unhide HB).cell (p := ⟨pb, off + j, none⟩) hpw, hpcl j hj2, hp]
          unfold pickAt
          rw [List.getElem?_eq_getElem hj2, Option.getD_some]
        clear hp hpcl hap
        go_wp2_with fail
        go_region_held3 (fun w' => w'.cell? ⟨b, 0, none⟩ = some (.slice (some ⟨g, 0, none⟩) S.safe.length c) ∧ w'.there g (k * 512) 512)
          (first | exact ⟨c0, unhide HTH⟩ | exact unhide HS3 _ hb3 | exact unhide HS4 _ hb3)
          (first | (go_at_call 39; refine (unhide HKP wr.drew (fun _ _ _ => rfl)).mono ?_; rintro e w3 ⟨rfl, hb0⟩; have hb3 : Below wr.heap.size wr w3 := after_drew hb0))
        have HX := hide (unhide HFIN w3 hb3)
        clear hb0 hb3
        go_wp2
        refine ⟨⟨j + 1, by omega, rfl, (unhide HX).1, (unhide HX).2⟩, ?_⟩
        simp [intOf]
        omega
      · obtain rfl : p = 0 := by rw [hp]; unfold pickAt; rw [List.getElem?_eq_none (by omega)]; rfl
        clear hp
        go_wp2_with fail
        go_region_held3 (fun w' => w'.cell? ⟨b, 0, none⟩ = some (.slice (some ⟨g, 0, none⟩) S.safe.length c) ∧ w'.there g (k * 512) 512)
          (first | exact ⟨c0, unhide HTH⟩ | exact unhide HS3 _ hb3 | exact unhide HS4 _ hb3)
          (first | (go_at_call 39; refine (unhide HKP wr.drew (fun _ _ _ => rfl)).mono ?_; rintro e w3 ⟨rfl, hb0⟩; have hb3 : Below wr.heap.size wr w3 := after_drew hb0))
        have HX := hide (unhide HFIN w3 hb3)
        clear hb0 hb3
        go_wp2
        refine ⟨⟨j + 1, by omega, rfl, (unhide HX).1, (unhide HX).2⟩, ?_⟩
        simp [intOf]
        omega
    · obtain rfl : j = S.keys.length := by omega
      obtain ⟨w4, hcl, hcm, hcg⟩ := clear_own (unhide HV).pend.own 0
      have h4 := (unhide HV).cleared hcm hcg
      have c1 := (unhide HV).dev.c1
      have d4 := h4.dev
      have c4 := d4.c4
      have n4 := d4.nf 4
      have H4 := hide (d4.s4 false)
      have c2 := (unhide H4).c2
      have n2 := (unhide H4).nf 2
      have H2 := hide ((unhide H4).s2 false)
      have c3 := (unhide H2).c3
      have n3 := (unhide H2).nf 3
      have HO := hide ((((Only.refl b w4).set 4 (.bool false)).set 2 (.bool false)).set 3 (.int .i64 0))
      have HF : Hid (Dev (((w4.setCell ⟨b, 4, none⟩ (.bool false)).setCell ⟨b, 2, none⟩ (.bool false)).setCell ⟨b, 3, none⟩ (.int .i64 0)) b F N (S.crash ps) ∧ Kept F w (((w4.setCell ⟨b, 4, none⟩ (.bool false)).setCell ⟨b, 2, none⟩ (.bool false)).setCell ⟨b, 3, none⟩ (.int .i64 0))) := hide ⟨⟨g, c, m, _, _, h4.turn (T := S.crash ps) (unhide HO) (Nat.le_refl _) ((unhide H2).s3 0) rfl rfl (by show (0 : Int) ≤ 0; omega) (by show (0 : Int) < 9223372036854775808; omega) h4.o1 h4.o2⟩,
        (((Kept.of_below (unhide HB)).trans (Kept.of_grown (unhide HG) fun i hi => by cases hi; exact (unhide HD).fg)).trans (Kept.of_grown hcg fun i hi => by cases hi; exact (unhide HD).fm)).trans (Kept.of_only (unhide HO) (unhide HD).fb)⟩
      clear h4 d4 hcm hcg
      go_wp2
      go_end0
      exact ⟨rfl, unhide HF⟩

theorem Crash_dev {w : World} {b : Nat} {F : Nat → Prop} {N : Nat} {S : St} (h : Dev w b F N S) (hN : N < 1000000) (ps : List Int) (v : Value) (hv : Ints w v ps) (hvo : ps ≠ [] → ∀ pb, v.ownBlock = some pb → ¬ F pb) :
    Calls Tryz.prog 18 #[.pointer (some ⟨b, 0, none⟩), v] w fun e w' => e = .returned (.tuple #[]) ∧ Dev w' b F N (S.crash ps) ∧ Kept F w w' := by
  obtain ⟨g, c, m, vf, D, h⟩ := h
  exact Crash_in h hN ps v hv hvo

/-- The device's blocks are there. -/
theorem Dev.cap {w : World} {b : Nat} {F : Nat → Prop} {N : Nat} {S : St} (h : Dev w b F N S) : Dev w b (fun k => F k ∧ k < w.heap.size) N S := by
  obtain ⟨g, c, m, vf, D, h⟩ := h
  have hg : g < w.heap.size := lt_of_block (Blks.mark h.safe rfl).choose_spec
  exact ⟨g, c, m, vf, D, { h with fb := ⟨h.fb, h.dev.lt⟩, fg := ⟨h.fg, hg⟩, fm := ⟨h.fm, h.pend.own.lt⟩, pend := { h.pend with foot := fun k q hq => ⟨⟨(h.pend.foot k q hq).1, lt_of_block (Blks.mark (h.pend.rows k) hq).choose_spec⟩, (h.pend.foot k q hq).2⟩ } }⟩

/-- F, and what is new between two worlds. -/
def ext (F : Nat → Prop) (w w' : World) : Nat → Prop := fun k => F k ∨ (w.heap.size ≤ k ∧ k < w'.heap.size)

theorem Write_ext {w : World} {b : Nat} {F : Nat → Prop} {N : Nat} {S : St} (h : Dev w b F N S) (k : Nat) (L : List UInt8) (v : Value) (hk : k < S.safe.length) (hd : S.down = false) (hB : burnE S.fused S.fuse = 0)
    (hv : Sl w v L) (hL : L.length = 512) (hN : N < 1000000) :
    Calls Tryz.prog 28 #[.pointer (some ⟨b, 0, none⟩), .int .i64 k, v] w fun e w' => e = .returned (.int .i64 0) ∧ Dev w' b (ext F w w') (N + 2) (S.burn.wrote k L) ∧ Kept F w w' := by
  have h2 : Dev w b (fun k => F k ∨ w.heap.size ≤ k) N S := h.mono (fun k hk => .inl hk) (Nat.le_refl _)
  refine (Write_dev h2 k L v hk hd hB hv hL hN (fun j hj => .inr hj)).mono ?_
  rintro e w' ⟨rfl, hd', hk'⟩
  refine ⟨rfl, hd'.cap.mono (fun j hj => ?_) (Nat.le_refl _), hk'.mono fun j hj hf => ?_⟩
  · rcases hj with ⟨h1 | h1, h2⟩
    · exact .inl h1
    · exact .inr ⟨h1, h2⟩
  · rcases hf with h1 | h1
    · exact h1
    · omega

/-- A new device. -/
def St.new (n : Nat) : St := { safe := List.replicate n (List.replicate 512 0), pend := fun _ => [], fused := false, fuse := 0, down := false, ops := 0 }
theorem cells_new : ∀ n, cellsOf (List.replicate n (List.replicate 512 (0 : UInt8))) = List.replicate (n * 512) (.int .u8 0)
  | 0 => by simp [cellsOf]
  | n + 1 => by
    rw [List.replicate_succ, cellsOf_cons, cells_new n, List.map_replicate]
    have e : (n + 1) * 512 = 512 + n * 512 := by omega
    rw [e, List.replicate_append_replicate.symm]
    rfl
theorem New_dev (n : Nat) (w : World) (h1 : 64 ≤ n) (h2 : n ≤ 512) :
    Calls Tryz.prog 20 #[.int .i64 n] w fun e w' => e = .returned (.tuple #[.pointer (some ⟨w.heap.size + 2, 0, none⟩), .int .i64 0]) ∧ Dev w' (w.heap.size + 2) (fun k => w.heap.size ≤ k ∧ k < w'.heap.size) 0 (St.new n) ∧ Below w.heap.size w w' := by
  refine (New_ok n w h1 h2).mono ?_
  rintro e w' ⟨rfl, rfl⟩
  have hb : Below w.heap.size w (newW w n) := newW_below w n
  have hl : (St.new n).safe.length = n := List.length_replicate
  have hrow := newW_row w n
  have hwd : Wide (St.new n).safe := fun L hL => by rw [List.eq_of_mem_replicate hL]; exact List.length_replicate
  refine ⟨rfl, ?_, hb⟩
  refine Dev.cap ⟨w.heap.size, n, w.heap.size + 1, fun _ => nilS, .map [], { dev := by rw [hl]; exact newW_dev w n, safe := ?_, wide := hwd, pend := ?_, fb := by show w.heap.size ≤ w.heap.size + 2; omega, fg := Nat.le_refl _, fm := by show w.heap.size ≤ w.heap.size + 1; omega, f1 := Int.le_refl _, f2 := by show (0 : Int) < 9223372036854775808; omega, o1 := Int.le_refl _, o2 := Int.le_refl _, n1 := by rw [hl]; exact h1, n2 := by rw [hl]; exact h2 }⟩
  · refine ⟨cellsOf_len hwd, .inr ⟨w.heap.size, n, noughts (n * 512), rfl, Nat.zero_le _, hrow, by rw [hl]; exact Nat.le_refl _, by unfold maxLen; omega, size_noughts _, ?_⟩⟩
    show (noughts (n * 512)).toList.take ((St.new n).safe.length * 512) = cellsOf (List.replicate n (List.replicate 512 0))
    rw [cells_new, hl]
    simp [noughts]
  · have hown : (newW w n).ownsMap Tryz.prog 3 rawE (w.heap.size + 1) 0 (.map []) := by
      refine ⟨#[], 0, newW_map w n, ⟨by simp, MapKept.stamped_empty _, by simp⟩, Nat.le_refl _, rfl⟩
    exact { own := hown, at_ := fun _ _ => rfl, has := fun kl => ⟨fun h => (by cases h), fun ⟨k, _, h, _⟩ => absurd rfl h⟩, rows := fun _ => World.ownsRow_nil _ _ _ _, len := fun _ => Nat.zero_le _, foot := fun _ _ h => (by cases h), apart := fun _ _ _ h => (by cases h), wide := fun _ L hL => (by cases hL), out := fun _ _ => rfl }
end Go.Proofs.YtfnhhjpebilacaaGreat

/-
  DERIVED. A block's bytes read; a write, and which blocks of memory the device has then.
-/
namespace Go.Proofs.YtfnhhjpebilacaaGreat
open Go.RowKit Go.Maps
set_option linter.unusedVariables false

theorem Row.sl {w : World} {g : Nat} {L : List UInt8} (h : Row w g L) (hL : L.length = 512) : Sl w (.slice (some ⟨g, 0, none⟩) 512 512) L := by
  refine ⟨some ⟨g, 0, none⟩, 512, by rw [hL], by rw [hL]; exact Nat.le_refl _, by unfold maxLen; omega, fun _ => ⟨g, 0, rfl, lt_of_block h, fun i hi => ?_⟩⟩
  rw [Nat.zero_add]
  exact h.cell i hi
theorem headL_len (s : ByteArray) (x : UInt8) : (headL s (fillL x 512)).length = 512 := by
  unfold headL
  have := fillL_len x 512 (Nat.le_refl _)
  have hs : s.data.toList.length = s.size := Array.length_toList
  rw [List.length_append, List.length_take, List.length_drop, this, hs]
  omega

/-- The law's Block, whose slice can be read. -/
theorem Block_sl (p : Int) (s : ByteArray) (w : World) (p1 : -9223372036854775808 ≤ p) (p2 : p < 9223372036854775808) :
    Calls Tryz.prog 10 #[.int .i64 p, .string s] w fun e w' => e = .returned (.slice (some ⟨w.heap.size, 0, none⟩) 512 512) ∧ Sl w' (.slice (some ⟨w.heap.size, 0, none⟩) 512 512) (headL s (fillL (UInt8.ofNat (pickR p 255)) 512)) ∧ Below w.heap.size w w' :=
  (Block_any p s w p1 p2).mono fun e w' ⟨h1, h2, h3⟩ => ⟨h1, h2.sl (headL_len _ _), h3⟩

theorem Write_own {w : World} {b base : Nat} {F : Nat → Prop} {N : Nat} {S : St} (h : Dev w b F N S) (hF : ∀ k, F k → base ≤ k ∧ k < w.heap.size) (hbs : base ≤ w.heap.size) (k : Nat) (L : List UInt8) (v : Value) (hk : k < S.safe.length) (hd : S.down = false) (hB : burnE S.fused S.fuse = 0)
    (hv : Sl w v L) (hL : L.length = 512) (hN : N < 1000000) :
    Calls Tryz.prog 28 #[.pointer (some ⟨b, 0, none⟩), .int .i64 k, v] w fun e w' => e = .returned (.int .i64 0) ∧ (∃ F', (∀ k, F' k → base ≤ k ∧ k < w'.heap.size) ∧ (∀ k, F' k → F k ∨ w.heap.size ≤ k) ∧ Dev w' b F' (N + 2) (S.burn.wrote k L)) ∧ Kept F w w' := by
  refine (Write_ext h k L v hk hd hB hv hL hN).mono ?_
  rintro e w' ⟨rfl, hd', hk'⟩
  refine ⟨rfl, ⟨_, fun j hj => ?_, fun j hj => hj.imp id And.left, hd'⟩, hk'⟩
  have := hk'.size
  rcases hj with h1 | h1
  · have := hF j h1; omega
  · omega

end Go.Proofs.YtfnhhjpebilacaaGreat

/-
  DERIVED. How a slice of ints that came in is opened.
-/
namespace Go.Proofs.YtfnhhjpebilacaaGreat
open Go.ChangeShapes Go.WideShapes Go.ChangeAt Go.RowKit

theorem own_knob : ownKnob Tryz.prog.godebug = none := by kernel_rfl
theorem laid_out : laidOutB Tryz.prog = true := by kernel_rfl
theorem Tryz.cellsInt : Tryz.prog.cellsOf 3 = 1 := by kernel_rfl

theorem open_intl {H : Type} {enc : TypeId × Value → H} {W : World} {a : Option Addr} {n c : Nat} {d : DataW H} {p : List MemPlace}
    (h : DataW.Trod enc Tryz.prog W 0 (fun _ => true) true 31 (.slice a n c) d p) : ∃ l : List Int, Ints W (.slice a n c) l := by
  obtain ⟨fuel, hf⟩ := h
  rcases open_ints Tryz.underlying31 Tryz.underlying3 Tryz.cellsInt hf with ⟨hcs, hx⟩ | ⟨x, l, cp, zs, hcs, _, hl, hm, hz, hx, hcell, hwz⟩
  · simp [Value.cells] at hcs
    obtain ⟨rfl, rfl, rfl⟩ := hcs
    exact ⟨[], none, 0, rfl, by simp, by simp, fun h => absurd rfl h⟩
  · simp [Value.cells] at hcs
    obtain ⟨rfl, rfl, rfl⟩ := hcs
    rw [if_pos rfl] at hz
    unfold maxLen at hm
    have hlen : (zs.take n).length = n := by simp; omega
    refine ⟨zs.take n, some x, c, by rw [hlen], by rw [hlen]; omega, fun y hy => ?_, fun hne => ?_⟩
    · have := bounds_i64 (hwz y (List.mem_of_mem_take hy)); omega
    · have hn0 : 0 < n := by rw [← hlen]; exact List.length_pos_iff.2 hne
      have h0 := hcell 0 (by omega)
      have hsp := World.cell?_spot h0
      obtain ⟨b, off, sp⟩ := x
      have hsp' : sp = none := by
        cases sp with
        | none => rfl
        | some k => simp [Addr.add] at hsp
      subst hsp'
      refine ⟨b, off, rfl, ?_, fun i hi => ?_⟩
      · rw [addr_add] at h0
        exact World.block_lt_of_cell? W ⟨b, off + 0, none⟩ h0
      · have hi' : i < n := by rw [hlen] at hi; exact hi
        have := hcell i (by omega)
        rw [addr_add] at this
        rw [this]
        simp [List.getD_eq_getElem?_getD, List.getElem?_eq_getElem (show i < zs.length by omega)]
end Go.Proofs.YtfnhhjpebilacaaGreat

/-
  DERIVED. Bytes as a string; a list that holds one number.
-/
namespace Go.Proofs.YtfnhhjpebilacaaGreat
open Go.RowKit
set_option linter.unusedVariables false

theorem Sl.str {w : World} {v : Value} {l : List UInt8} (h : Sl w v l) : (convert 34 9 v).run Tryz.prog w = .ok (.string ⟨l.toArray⟩) w := by
  rcases h.cases with ⟨rfl, ao, rfl⟩ | ⟨b, off, cap, rfl, h1, h2, hb, hc⟩
  · cases ao with
    | none => exact run_convert_bytes_nil w 34 5 Tryz.underlying34 Tryz.underlying5 0 0 9 Tryz.underlying9
    | some a => exact run_convert_bytes_back w 34 9 5 a 0 [] Tryz.underlying34 Tryz.underlying5 Tryz.underlying9 (fun j hj => by simp at hj)
  · exact run_convert_bytes_back w 34 9 5 ⟨b, off, none⟩ cap l Tryz.underlying34 Tryz.underlying5 Tryz.underlying9 (fun j hj => by rw [addr_add]; exact hc j hj)

theorem one_of {l : List Nat} {k : Nat} (hr : l.Pairwise (· < ·)) (hm : ∀ x, x ∈ l ↔ x = k) : l = [k] := by
  cases l with
  | nil => exact absurd ((hm k).2 rfl) (by simp)
  | cons a r =>
    obtain rfl : a = k := (hm a).1 (by simp)
    obtain ⟨h1, _⟩ := List.pairwise_cons.1 hr
    have hr : r = [] := List.eq_nil_iff_forall_not_mem.2 fun x hx => by
      have := h1 x hx
      have e := (hm x).1 (by simp [hx])
      omega
    rw [hr]
theorem none_of {l : List Nat} (hm : ∀ x, ¬ x ∈ l) : l = [] := List.eq_nil_iff_forall_not_mem.2 hm

/-- Where one block alone has writes. -/
theorem keys_one {S : St} {k : Nat} (hk : k < S.safe.length) (h1 : S.pend k ≠ []) (h2 : ∀ j, j ≠ k → S.pend j = []) : S.keys = [k] :=
  one_of (pk_rising _ _) fun x => by
    unfold St.keys
    rw [mem_pk]
    constructor
    · rintro ⟨_, h⟩
      by_cases e : x = k
      · exact e
      · exact absurd (h2 x e) h
    · rintro rfl
      exact ⟨hk, h1⟩
theorem keys_none {S : St} (h2 : ∀ j, S.pend j = []) : S.keys = [] :=
  none_of fun x hx => (mem_pk.1 hx).2 (h2 x)

theorem crash_none {S : St} (h2 : ∀ j, S.pend j = []) (ps : List Int) : (S.crash ps).safe = S.safe := by
  unfold St.crash
  rw [keys_none h2]
  rfl
theorem crash_one {S : St} {k : Nat} (hk : k < S.safe.length) (h1 : S.pend k ≠ []) (h2 : ∀ j, j ≠ k → S.pend j = []) (ps : List Int) : (S.crash ps).safe = S.safe.set k (S.keptB k (pickAt ps 0)) := by
  have e := keys_one hk h1 h2
  unfold St.crash
  simp only [e, List.length_singleton]
  show St.crashTo S ps (0 + 1) = _
  rw [St.crashTo, e]
  rfl
theorem St.newest_crash (S : St) (ps : List Int) (k : Nat) : (S.crash ps).newest k = ((S.crash ps).safe[k]?).getD [] := rfl
end Go.Proofs.YtfnhhjpebilacaaGreat

/-
  DERIVED. Flush, where it flushes.
-/
namespace Go.Proofs.YtfnhhjpebilacaaGreat
open Go.RowKit Go.Maps
set_option linter.unusedVariables false

/-- A step of the loop over the pending writes. -/
theorem wpList_next_pend (w : World) {ops : Array Oper} {rest : List Oper} {o : Oper} {a : Act} {Q : Exit → Act → World → Prop} (hg : o.guard = none) (it : Operand) (hop : o.op = Op.next it false)
    {F : Nat → Prop} {m g n N M : Nat} {pend : Nat → List (List UInt8)} {vf : Nat → Value} {D : DataW Value} {left : Lit → Bool} {cnt r : Nat} (hp : PendAt w F m g n M pend vf D)
    (h : w.ranges Tryz.prog 3 rawE m r N D left cnt) (hit : a.eval it = .pointer (some ⟨r, 0, none⟩))
    (hDone : cnt = 0 → (∀ kl, left kl = false) → wpList Tryz.prog ops Q rest (a.put o.dst (.tuple #[.bool false])) w)
    (hMore : ∀ (k q cap j L : Nat) (w' : World) (cnt' : Nat), L = j + 1 → k < n → (pend k).length = j + 1 → vf k = .slice (some ⟨q, 0, none⟩) L cap → left (.int .i64 k) = true →
      w'.ranges Tryz.prog 3 rawE m r N D (fun z => left z && !z.sameKey (.int .i64 k)) cnt' → cnt' < cnt → w.grownBy w' (some r) → w'.heap.size = w.heap.size →
      (Instr.entry (.pointer (some ⟨r, 0, none⟩))).run Tryz.prog w' = .ok (.tuple #[.int .i64 k, .slice (some ⟨q, 0, none⟩) L cap]) w' →
      wpList Tryz.prog ops Q rest (a.put o.dst (.tuple #[.bool true, .int .i64 k, .slice (some ⟨q, 0, none⟩) L cap])) w') :
    wpList Tryz.prog ops Q (o :: rest) a w := by
  refine wpList_plain hg fun K' hK' => ?_
  unfold Oper.wp
  rcases h.next keyedInt o.type with ⟨h0, hl, hrun⟩ | ⟨key, v, kl, y, w', cnt', hkey, hlk, hv, hat, hrun, hrg, hlt, hgr, hsz, hen⟩
  · simp [execOp, hop, hit, hrun, Result.andThen]
    exact hK' _ _ (hDone h0 hl)
  · obtain ⟨x, rfl, rfl, hwx⟩ := Maps.keyOf_int_inv Tryz.underlying3 hkey
    obtain ⟨k, hk, hne, e⟩ := (hp.has _).1 (has_true_of_atKey hat)
    obtain rfl : x = (k : Int) := by injection e
    have hvf : v = vf k := by
      have h1 := hat (.held nilS)
      rw [hp.at_ k hk] at h1
      have hv2 : y.1 = .held v := by
        unfold rawE at hv
        rw [← Option.some.inj hv]
      rw [hv2] at h1
      exact (DataW.held.inj h1).symm
    obtain ⟨ao, cap, hf, hq⟩ := Blks.form (hp.rows k)
    obtain ⟨q, rfl⟩ := hq hne
    obtain ⟨j, hj⟩ : ∃ j, (pend k).length = j + 1 := ⟨(pend k).length - 1, by have := List.length_pos_iff.2 hne; omega⟩
    rw [hvf, hf] at hrun hen
    simp [execOp, hop, hit, hrun, Result.andThen]
    exact hK' _ _ (hMore k q cap j _ w' cnt' hj hk hj hf hlk hrg hlt hgr hsz hen)

/-- What is flushed, as far as 'left' says. -/
def St.flT (S : St) (left : Lit → Bool) : List (List UInt8) := (List.range S.safe.length).map fun (k : Nat) => if left (.int .i64 (k : Int)) then (S.safe[k]?).getD [] else S.newest k
/-- A device behind a flush. -/
def St.flushed (S : St) : St := { S with safe := (List.range S.safe.length).map S.newest, pend := fun _ => [] }
theorem St.flT_len (S : St) (left : Lit → Bool) : (S.flT left).length = S.safe.length := by simp [St.flT]
theorem St.newest_none (S : St) (k : Nat) (h : S.pend k = []) : S.newest k = (S.safe[k]?).getD [] := by unfold St.newest; rw [h]; rfl
theorem St.flT_start {w : World} {b : Nat} {F : Nat → Prop} {N : Nat} {S : St} {g c m : Nat} {vf : Nat → Value} {D : DataW Value} (h : DevIn w b F N S g c m vf D) : S.flT (Maps.has D) = S.safe := by
  apply List.ext_getElem (S.flT_len _)
  intro k h1 h2
  simp only [St.flT, List.getElem_map, List.getElem_range]
  split
  · rw [List.getElem?_eq_getElem h2]; rfl
  · rename_i hn
    have : S.pend k = [] := by
      by_cases e : S.pend k = []
      · exact e
      · exact absurd ((h.pend.has _).2 ⟨k, h2, e, rfl⟩) hn
    rw [S.newest_none k this, List.getElem?_eq_getElem h2]
    rfl
theorem St.flT_end (S : St) (left : Lit → Bool) (h : ∀ kl, left kl = false) : S.flT left = (List.range S.safe.length).map S.newest := by
  unfold St.flT
  apply List.map_congr_left
  intro k _
  rw [h]; rfl
theorem sameKey_int (a b : Nat) : (Lit.int .i64 (a : Int)).sameKey (.int .i64 (b : Int)) = decide (a = b) := by
  by_cases e : a = b
  · subst e; simp [Lit.sameKey]
  · rw [decide_eq_false e]
    exact sameKey_ne (fun h => e (by injection h with _ h; omega))
theorem St.flT_step (S : St) (left : Lit → Bool) (k : Nat) (hk : k < S.safe.length) : S.flT (fun z => left z && !z.sameKey (.int .i64 k)) = (S.flT left).set k (S.newest k) := by
  apply List.ext_getElem (by rw [List.length_set, S.flT_len, S.flT_len])
  intro i h1 h2
  rw [List.getElem_set]
  simp only [St.flT, List.getElem_map, List.getElem_range, sameKey_int]
  by_cases e : k = i
  · subst e; simp
  · have : decide (i = k) = false := decide_eq_false (fun h => e h.symm)
    simp [this, e]

/-- The device stands while the iterator goes on. -/
theorem DevIn.frameR {w w' : World} {b : Nat} {F : Nat → Prop} {N : Nat} {S : St} {g c m : Nat} {vf : Nat → Value} {D : DataW Value} (h : DevIn w b F N S g c m vf D) {r n cnt : Nat} {left : Lit → Bool} (hr : w.ranges Tryz.prog 3 rawE m r n D left cnt) (hk : w.grownBy w' (some r)) : DevIn w' b F N S g c m vf D := by
  obtain ⟨es, clock, since, seen, c0, hb, _, _, _, hi, _⟩ := hr
  have hne : ∀ q, (∃ A t fr, w.heap[q]? = some (Obj.cells A t fr)) → w'.heap[q]? = w.heap[q]? := fun q ⟨A, t, fr, hq⟩ => hk.block q (lt_of_block hq) (fun e => by cases e; rw [hq] at hi; cases hi)
  have hm : w'.heap[m]? = w.heap[m]? := hk.block m (lt_of_block hb) (fun e => by cases e; rw [hb] at hi; cases hi)
  exact { h with dev := (hne b ⟨_, _, _, h.dev⟩).trans h.dev, safe := Blks.frame h.safe fun q hq _ => by obtain ⟨cur, hc⟩ := Blks.mark h.safe hq; exact hne q ⟨_, _, _, hc⟩, pend := h.pend.frame' hm fun k q hq _ => by obtain ⟨cur, hc⟩ := Blks.mark (h.pend.rows k) hq; exact hne q ⟨_, _, _, hc⟩ }

theorem St.newest_last (S : St) (k j : Nat) (h : (S.pend k).length = j + 1) : S.newest k = (S.pend k)[j]'(by omega) := by
  unfold St.newest
  have e : (S.pend k).length - 1 = j := by omega
  rw [List.getLast?_eq_getElem?, e, List.getElem?_eq_getElem (by omega), Option.getD_some]

def St.flAt (S : St) (left : Lit → Bool) : St := { S with safe := S.flT left }

set_option maxRecDepth 100000 in
set_option maxHeartbeats 3200000 in
theorem Flush_in {w : World} {b : Nat} {F : Nat → Prop} {N : Nat} {S : St} {g c m : Nat} {vf : Nat → Value} {D : DataW Value} (h : DevIn w b F N S g c m vf D) (hd : S.down = false) (hB : burnE S.fused S.fuse = 0) (hN : N < 1000000) :
    Calls Tryz.prog 45 #[.pointer (some ⟨b, 0, none⟩)] w fun e w' => e = .returned (.int .i64 0) ∧ Dev w' b F (N + 1) S.burn.flushed ∧ Kept F w w' := by
  have HD := hide h
  have hdd := h.dev
  rw [hd] at hdd
  have HDD := hide hdd
  clear h hdd
  go_enter Tryz.func45, Tryz.ntmps45
  go_wp2_with (first | (go_at_call 36; refine (up_dev (unhide HDD)).mono ?_; rintro e w' ⟨rfl, rfl⟩) | fail)
  refine (burn_dev (unhide HD).dev (unhide HD).f1 (unhide HD).f2 (unhide HD).o1 (by have := (unhide HD).o2; omega)).mono ?_
  rintro e w1 ⟨rfl, d1, o1⟩
  rw [hB]
  have h1 := (unhide HD).burn o1 d1
  have HK := hide (Kept.of_only (F := F) o1 (unhide HD).fb)
  have c1 := h1.dev.c1
  have hown := h1.pend.own
  have H1 := hide h1
  clear d1 o1 h1
  go_wp2_with (first | (at_range; refine wpList_range_own _ rfl _ 66 rfl 3 65 keyedInt Tryz.underlying66 _ m (N + 1) D rfl hown ?_; intro w0 hrg0 hg0 hs0) | fail)
  go_frame
  obtain ⟨r, hr⟩ : ∃ r, r = w1.heap.size := ⟨_, rfl⟩
  rw [← hr] at hrg0 ⊢
  have HG0 := hide hg0
  have HR0 := hide hrg0
  have HRR := hide hr
  have hs1 : w1.heap.size ≤ w0.heap.size := hg0.size
  clear hg0 hrg0 hr hs0 hown
  go_loopw [5] (fun _ wr => ∃ left cnt, wr.ranges Tryz.prog 3 rawE m r (N + 1) D left cnt ∧ DevIn wr b F (N + 1) (S.burn.flAt left) g c m vf D ∧ w1.grownBy wr (some g)) (fun _ wr => wr.rangeLeft m r)
  case atStart =>
    refine ⟨_, _, unhide HR0, ?_, (unhide HG0).but _⟩
    have e : S.burn.flAt (Maps.has D) = S.burn := by unfold St.flAt; rw [St.flT_start (unhide H1)]
    rw [e]
    exact (unhide H1).frame fun k _ hk => (unhide HG0).block k hk (by simp)
  case round =>
    obtain ⟨left, cnt, hrg, hdv, hgr⟩ := hrel
    have HV := hide hdv
    have HG := hide hgr
    have HRG := hide hrg
    clear hdv hgr hrg
    have hn : (S.burn.flAt left).safe.length = S.safe.length := S.burn.flT_len left
    go_wp2_with (first | (at_next; refine wpList_next_pend _ rfl _ rfl (unhide HV).pend (unhide HRG) rfl ?_ ?_) | fail)
    · intro hc0 hl0
      obtain ⟨w4, hcl, hcm, hcg⟩ := clear_own (unhide HV).pend.own 0
      have h4 := (unhide HV).cleared hcm hcg
      have c1r := (unhide HV).dev.c1
      have HF : Hid (Dev w4 b F (N + 1) S.burn.flushed ∧ Kept F w w4) := hide ⟨⟨g, c, m, _, _, by
          have e : S.burn.flushed = { S.burn.flAt left with pend := fun _ => [] } := by unfold St.flushed St.flAt; rw [S.burn.flT_end left hl0]
          rw [e]; exact h4⟩, ((unhide HK).trans (Kept.of_grown (unhide HG) fun i hi => by cases hi; exact (unhide HD).fg)).trans (Kept.of_grown hcg fun i hi => by cases hi; exact (unhide HD).fm)⟩
      clear h4 hcm hcg hl0 hc0
      go_wp2
      go_ret
      exact ⟨rfl, unhide HF⟩
    · intro k q cap j L w2 cnt2 hL hk hj hvf hlk hrg2 hlt hgr2 hsz2 hen
      have hk : k < S.safe.length := by first | exact hk | (rw [hn] at hk; exact hk)
      have h2 := (unhide HV).frameR (unhide HRG) hgr2
      have hnew : (S.burn.flAt left).pend k = S.pend k := rfl
      obtain ⟨cs, hcs⟩ : ∃ cs, cs = ((S.burn.newest k).map bv) := ⟨_, rfl⟩
      have hnl : (S.burn.newest k).length = 512 := St.newest_len (unhide H1) k hk
      have hc5 : cs.length = 512 := by rw [hcs, List.length_map]; exact hnl
      have h1c : ∀ v ∈ cs, v.oneCell' = true := by rw [hcs]; exact bv_one _
      have hjS : (S.pend k).length = j + 1 := hj
      have hrow := h2.pend.rows k
      rw [hvf, hnew] at hrow
      have hrq : w2.rangeAt q (j * 512) cs := by
        have h3 := Blks.range ((unhide H1).pend.wide k) hrow j (by show j < (S.pend k).length; omega)
        have e : S.burn.newest k = (S.burn.pend k)[j]'(by show j < (S.pend k).length; omega) := S.burn.newest_last k j hjS
        rw [hcs, e]
        exact h3
      have th : w2.there g (k * 512) 512 := Blks.there h2.safe h2.wide k (by rw [hn]; exact hk)
      have c0 := h2.dev.c0
      rw [hn] at c0
      have hqg : q ≠ g := (h2.pend.foot k q (by rw [hvf]; rfl)).2
      have hqb : g ≠ b := h2.ne_map.2.2
      have HTH := hide th
      have HRQ := hide hrq
      have HFIN : Hid (∀ X : World, X = w2.drew → (X.setCells g (k * 512) cs).ranges Tryz.prog 3 rawE m r (N + 1) D (fun z => left z && !z.sameKey (.int .i64 k)) cnt2 ∧ DevIn (X.setCells g (k * 512) cs) b F (N + 1) (S.burn.flAt (fun z => left z && !z.sameKey (.int .i64 k))) g c m vf D ∧ w1.grownBy (X.setCells g (k * 512) cs) (some g)) := hide fun X hX => by
        subst hX
        have hgs := grown_setCells g cs (k * 512) w2.drew
        have hgm : g ≠ m := h2.ne_map.2.1
        have hgr3 : g ≠ r := by
          rintro rfl
          obtain ⟨cur, hc⟩ := Blks.mark h2.safe rfl
          obtain ⟨_, _, _, _, _, _, _, _, _, hi, _⟩ := hrg2
          rw [hc] at hi; cases hi
        refine ⟨World.ranges.kept (w := w2.drew) hrg2 hgs (fun e => hgm (Option.some.inj e).symm) (fun e => hgr3 (Option.some.inj e).symm), ?_, ?_⟩
        · have h3 := (h2.frame (w' := w2.drew) fun _ _ _ => rfl).setSafe k (by rw [hn]; exact hk) (S.burn.newest k) hnl
          rw [← hcs] at h3
          have e : S.burn.flAt (fun z => left z && !z.sameKey (.int .i64 k)) = { S.burn.flAt left with safe := (S.burn.flAt left).safe.set k (S.burn.newest k) } := by
            unfold St.flAt; rw [S.burn.flT_step left k hk]
          rw [e]; exact h3
        · have h4 : w1.grownBy w2 (some g) := (unhide HG).andThen hgr2 fun i hi => by
            cases hi
            exact .inl (by rw [unhide HRR]; exact Nat.le_refl _)
          exact World.grownBy.trans (b := w2.drew) ⟨h4.os, h4.tape, h4.output, h4.size, h4.block⟩ hgs
      have HLT := hide hlt
      have hjN : j < 2000000 := by have := (unhide H1).pend.len k; have h5 : S.burn.pend k = S.pend k := rfl; rw [h5] at this; omega
      have hwr2 : IntKind.i64.wrap ((L : Int) - 1) = (j : Int) := by rw [IntKind.wrap_i64]; omega
      clear hcs hrow h2 hrq th hrg2 hgr2 hlk hvf hj hjS hlt hnew hn hnl
      have hi : (Tryz.prog.info? 84).map (·.size) = some cs.length := by rw [hc5]; exact sizeBlock
      have hu := Tryz.underlying84
      have hk0 : (0 : Int) ≤ (k : Int) := Int.natCast_nonneg _
      have hk1 : (k : Int) < (S.safe.length : Int) := by omega
      have hj0 : (0 : Int) ≤ (j : Int) := Int.natCast_nonneg _
      have hj1 : (j : Int) < (L : Int) := by omega
      clear hL
      go_wp2_with fail
      go_region_held3 (fun w' => w'.cell? ⟨b, 0, none⟩ = some (.slice (some ⟨g, 0, none⟩) S.safe.length c) ∧ w'.rangeAt q (j * 512) cs ∧ w'.there g (k * 512) 512)
        (first | exact ⟨c0, unhide HRQ, unhide HTH⟩ | exact ⟨(World.cell?_setCells_out g cs _ _ ⟨b, 0, none⟩ (fun e => absurd e (Ne.symm hqb))).trans c0, World.rangeAt_setCells_apart (w := w2.drew) (unhide HRQ) _ _ _ (.inl hqg), World.there_setCells (w := w2.drew) (unhide HTH) _ _ _⟩)
        (first | fail)
      have HX := hide (unhide HFIN _ rfl)
      go_wp2
      refine ⟨⟨_, _, (unhide HX).1, (unhide HX).2.1, (unhide HX).2.2⟩, ?_⟩
      rw [(unhide HX).1.left_eq, (unhide HRG).left_eq]
      exact unhide HLT

theorem Flush_dev {w : World} {b : Nat} {F : Nat → Prop} {N : Nat} {S : St} (h : Dev w b F N S) (hd : S.down = false) (hB : burnE S.fused S.fuse = 0) (hN : N < 1000000) :
    Calls Tryz.prog 45 #[.pointer (some ⟨b, 0, none⟩)] w fun e w' => e = .returned (.int .i64 0) ∧ Dev w' b F (N + 1) S.burn.flushed ∧ Kept F w w' := by
  obtain ⟨g, c, m, vf, D, h⟩ := h
  exact Flush_in h hd hB hN
end Go.Proofs.YtfnhhjpebilacaaGreat

/-
  DERIVED. What a record is, of a device's blocks; what Format, Store and Load make of it: plain.
-/
namespace Go.Proofs.YtfnhhjpebilacaaGreat
open Go.RowKit
set_option linter.unusedVariables false

/-- The next operation goes well, of a device that is up. -/
def St.well (S : St) : Prop := burnE S.fused S.fuse = 0
instance (S : St) : Decidable S.well := by unfold St.well; infer_instance
theorem St.well_up {S : St} (h : S.well) : S.burn.down = S.down := by
  unfold St.well burnE at h
  show burnD S.fused S.fuse S.down = S.down
  unfold burnD
  split at h
  · cases h
  · rename_i h1; rw [if_neg h1]
theorem St.unwell {S : St} (h : ¬ S.well) : S.burn.down = true := by
  unfold St.well burnE at h
  show burnD S.fused S.fuse S.down = true
  unfold burnD
  split at h
  · rename_i h1; rw [if_pos h1]
  · exact absurd rfl h
theorem St.well_free {S : St} (h : S.fused = false) : S.well := by unfold St.well burnE; rw [h]; rfl

/-- Two blocks can be read. -/
def St.reads (S : St) : Prop := S.down = false ∧ S.well ∧ S.burn.well
instance (S : St) : Decidable S.reads := by unfold St.reads; infer_instance
theorem St.reads_free {S : St} (h : S.fused = false) (hd : S.down = false) : S.reads := ⟨hd, St.well_free h, St.well_free h⟩
/-- A device behind a read that stopped. -/
def St.halted (S : St) : St := if S.down = true then S else if S.well then S.burn.burn else S.burn
theorem St.halted_down {S : St} (h : ¬ S.reads) : S.halted.down = true := by
  unfold St.halted
  by_cases h1 : S.down = true
  · rw [if_pos h1]; exact h1
  rw [if_neg h1]
  by_cases h2 : S.well
  · rw [if_pos h2]
    exact St.unwell fun h3 => h ⟨by simpa using h1, h2, h3⟩
  · rw [if_neg h2]; exact St.unwell h2
theorem St.halted_safe (S : St) : S.halted.safe = S.safe := by
  unfold St.halted
  split
  · rfl
  · split <;> rfl
theorem St.halted_pend (S : St) : S.halted.pend = S.pend := by
  unfold St.halted
  split
  · rfl
  · split <;> rfl

theorem rd4_lt : ∀ l : List UInt8, rd4 l < 4294967296
  | a :: b :: c :: d :: _ => by
    have := a.toNat_lt; have := b.toNat_lt; have := c.toNat_lt; have := d.toNat_lt
    show a.toNat + 256 * b.toNat + 65536 * c.toNat + 16777216 * d.toNat < _
    omega
  | [] => by decide
  | [_] => by simp [rd4]
  | [_, _] => by simp [rd4]
  | [_, _, _] => by simp [rd4]
theorem rdI_hi (l : List UInt8) : rdI l ≤ 9223372036854775807 := by
  have := (rd_facts l).1
  unfold rdI unz
  split
  · split <;> omega
  · omega
theorem unl_is (k : Int) (L : List UInt8) : (unl k L).turn < 4294967296 ∧ 0 ≤ (unl k L).count ∧ (unl k L).count ≤ 9223372036854775807 ∧ (unl k L).data.length ≤ 400 := by
  have h0 : noSlot.turn < 4294967296 ∧ 0 ≤ noSlot.count ∧ noSlot.count ≤ 9223372036854775807 ∧ noSlot.data.length ≤ 400 := by simp [noSlot]
  unfold unl
  split
  · exact h0
  split
  · exact h0
  split
  · exact h0
  split
  · exact h0
  · rename_i h1
    exact ⟨rd4_lt _, by simp only; omega, rdI_hi _, by simp only [List.length_drop] at h1 ⊢; omega⟩

/-- The newer one of two slots. -/
def curS (s t : Slot) : Slot := if newR s t = 1 then t else s
/-- Which of a record's two blocks is the newer one: 0 or 1. -/
def St.side (S : St) (k : Nat) : Nat := newR (unl k (S.newest k)) (unl k (S.newest (k + 1)))
/-- The record. -/
def St.rcd (S : St) (k : Nat) : Slot := curS (unl k (S.newest k)) (unl k (S.newest (k + 1)))
/-- The block that is written next. -/
def St.elder (S : St) (k : Nat) : Nat := k + 1 - S.side k
/-- What is written there. -/
def St.nextB (S : St) (k : Nat) (cnt : Int) (d : List UInt8) : List UInt8 := slotL ⟨false, ((S.rcd k).turn + 1) % 4294967296, cnt, d⟩ k

theorem newR_or (s t : Slot) : newR s t = 0 ∨ newR s t = 1 := by unfold newR; split <;> simp
theorem St.side_or (S : St) (k : Nat) : S.side k = 0 ∨ S.side k = 1 := newR_or _ _
theorem St.rcd_is (S : St) (k : Nat) : (S.rcd k).turn < 4294967296 ∧ 0 ≤ (S.rcd k).count ∧ (S.rcd k).count ≤ 9223372036854775807 ∧ (S.rcd k).data.length ≤ 400 := by
  unfold St.rcd curS
  split <;> exact unl_is _ _
/-- A record hangs on its two blocks alone. -/
theorem St.rcd_of {S T : St} {k : Nat} (h0 : T.newest k = S.newest k) (h1 : T.newest (k + 1) = S.newest (k + 1)) : T.rcd k = S.rcd k := by unfold St.rcd; rw [h0, h1]

theorem St.rcd_put {S T : St} {k : Nat} (hk : k < 1000000) {cnt : Int} {d : List UInt8} (hc0 : 0 ≤ cnt) (hc1 : cnt ≤ 9223372036854775807) (hd : d.length ≤ 400)
    (h1 : T.newest (S.elder k) = S.nextB k cnt d) (h2 : T.newest (k + S.side k) = S.newest (k + S.side k)) : T.rcd k = ⟨true, ((S.rcd k).turn + 1) % 4294967296, cnt, d⟩ := by
  have hu : unl k (S.nextB k cnt d) = ⟨true, ((S.rcd k).turn + 1) % 4294967296, cnt, d⟩ := unl_slot ⟨false, ((S.rcd k).turn + 1) % 4294967296, cnt, d⟩ k (by omega) (by omega) (by simp only; omega) hc0 hc1 hd
  have hR : S.rcd k = curS (unl k (S.newest k)) (unl k (S.newest (k + 1))) := rfl
  obtain ⟨s, hs⟩ : ∃ s, s = unl k (S.newest k) := ⟨_, rfl⟩
  obtain ⟨t, ht⟩ : ∃ t, t = unl k (S.newest (k + 1)) := ⟨_, rfl⟩
  have ts : s.turn < 4294967296 := by rw [hs]; exact (unl_is _ _).1
  have tt : t.turn < 4294967296 := by rw [ht]; exact (unl_is _ _).1
  have hS : S.side k = newR s t := by rw [hs, ht]; rfl
  rw [← hs, ← ht] at hR
  unfold St.elder at h1
  rcases newR_or s t with h0 | h0
  · rw [hS, h0] at h1 h2
    have e1 : T.newest (k + 1) = S.nextB k cnt d := h1
    have e0 : T.newest k = S.newest k := h2
    have hr : S.rcd k = s := by rw [hR]; unfold curS; rw [if_neg (by rw [h0]; decide)]
    rw [hr] at hu ⊢
    have hn : newR s ⟨true, (s.turn + 1) % 4294967296, cnt, d⟩ = 1 := by
      unfold newR
      rw [if_pos]
      refine ⟨rfl, .inr ?_⟩
      simp only
      omega
    unfold St.rcd curS
    rw [e1, e0, hu, ← hs, if_pos hn]
  · rw [hS, h0] at h1 h2
    have e0 : T.newest k = S.nextB k cnt d := h1
    have e1 : T.newest (k + 1) = S.newest (k + 1) := h2
    have hr : S.rcd k = t := by rw [hR]; unfold curS; rw [if_pos h0]
    rw [hr] at hu ⊢
    have hn : newR ⟨true, (t.turn + 1) % 4294967296, cnt, d⟩ t ≠ 1 := by
      unfold newR
      rw [if_neg]
      · decide
      · rintro ⟨_, h | h⟩
        · cases h
        · simp only at h
          omega
    unfold St.rcd curS
    rw [e1, e0, hu, ← ht, if_neg hn]

/-! ### What the operations make of the blocks -/
theorem St.newest_burn (S : St) (n : Nat) : S.burn.newest n = S.newest n := rfl
theorem St.newest_wrote' (S : St) (k n : Nat) (L : List UInt8) : (S.wrote k L).newest n = if n = k then L else S.newest n := by
  unfold St.newest
  show ((putP S.pend k L n).getLast?).getD _ = _
  unfold putP
  by_cases e : n = k
  · subst e; simp
  · simp only [if_neg e]; rfl
theorem St.newest_flushed' (S : St) (n : Nat) (hn : n < S.safe.length) : S.flushed.newest n = S.newest n := by
  show (((List.range S.safe.length).map S.newest)[n]?).getD [] = _
  rw [List.getElem?_map, List.getElem?_range hn]
  rfl
theorem St.flushed_len (S : St) : S.flushed.safe.length = S.safe.length := by unfold St.flushed; simp

/-- What a crash keeps is one of what was there. -/
theorem crashTo_memS (S : St) (ps : List Int) : ∀ i n, n < S.safe.length → ((S.crashTo ps i)[n]?).getD [] = (S.safe[n]?).getD [] ∨ ((S.crashTo ps i)[n]?).getD [] ∈ S.pend n
  | 0, n, hn => .inl rfl
  | i + 1, n, hn => by
    have ih := crashTo_memS S ps i n hn
    rw [St.crashTo]
    obtain ⟨k, hk⟩ : ∃ k, k = (S.keys[i]?).getD 0 := ⟨_, rfl⟩
    rw [← hk]
    by_cases e : k = n
    · rw [e]
      have hl : n < (S.crashTo ps i).length := by rw [St.crashTo_len]; exact hn
      rw [List.getElem?_set_self hl, Option.getD_some]
      unfold St.keptB
      simp only
      have hlt := pickR_lt (pickAt ps i) (S.pend n).length
      split
      · exact ih
      · rename_i hne
        right
        rw [List.getElem?_eq_getElem (by omega), Option.getD_some]
        exact List.getElem_mem _
    · rw [List.getElem?_set_ne e]
      exact ih
theorem crash_memS (S : St) (ps : List Int) (n : Nat) (hn : n < S.safe.length) : (S.crash ps).newest n = (S.safe[n]?).getD [] ∨ (S.crash ps).newest n ∈ S.pend n := crashTo_memS S ps _ n hn
theorem crash_calm (S : St) (ps : List Int) (n : Nat) (hn : n < S.safe.length) (hp : S.pend n = []) : (S.crash ps).newest n = S.newest n := by
  rcases crash_memS S ps n hn with h | h
  · rw [h]; unfold St.newest; rw [hp]; rfl
  · rw [hp] at h; cases h
theorem crash_len (S : St) (ps : List Int) : (S.crash ps).safe.length = S.safe.length := St.crashTo_len S ps _

/-- A block that is written and flushed, as far as the device goes. -/
def St.putF (S : St) (j : Nat) (L : List UInt8) : Int × St :=
  if S.well then (if (S.burn.wrote j L).well then (0, (S.burn.wrote j L).burn.flushed) else (2, (S.burn.wrote j L).burn)) else (2, S.burn)
def St.format (S : St) (k : Nat) (d : List UInt8) : Int × St := if S.reads then S.burn.burn.putF (S.elder k) (S.nextB k 0 d) else (2, S.halted)
def St.store (S : St) (k : Nat) (d : List UInt8) : Int × St :=
  if S.reads then (if (S.rcd k).laid = true then S.burn.burn.putF (S.elder k) (S.nextB k ((S.rcd k).count + 1) d) else (30, S.burn.burn)) else (2, S.halted)
def St.loadT (S : St) : St := if S.reads then S.burn.burn else S.halted

/-- The two blocks of a record are as they are flushed. -/
def St.calm (S : St) (k : Nat) : Prop := S.pend k = [] ∧ S.pend (k + 1) = []

/-- A device behind a change of a record that went well. -/
structure Put (S T : St) (k : Nat) (cnt : Int) (d : List UInt8) : Prop where
  fused : T.fused = S.fused
  up : T.down = false
  len : T.safe.length = S.safe.length
  pend : ∀ n, T.pend n = []
  rec_ : T.rcd k = ⟨true, ((S.rcd k).turn + 1) % 4294967296, cnt, d⟩
  other : ∀ n, n < S.safe.length → n ≠ k → n ≠ k + 1 → T.newest n = S.newest n

theorem St.elder_or (S : St) (k : Nat) : S.elder k = k ∨ S.elder k = k + 1 := by
  unfold St.elder
  rcases S.side_or k with h | h <;> rw [h] <;> simp
theorem St.elder_ne (S : St) (k : Nat) : S.elder k ≠ k + S.side k := by
  unfold St.elder
  rcases S.side_or k with h | h <;> rw [h] <;> omega

theorem putF_good {S : St} {k : Nat} (hk : k + 1 < S.safe.length) (hs : S.safe.length ≤ 512) (hd : S.down = false) (X : St) (hX : X = S.burn.burn) (hXd : X.down = false) {cnt : Int} {d : List UInt8} (hc0 : 0 ≤ cnt) (hc1 : cnt ≤ 9223372036854775807) (hl : d.length ≤ 400)
    (h1 : X.well) (h2 : (X.burn.wrote (S.elder k) (S.nextB k cnt d)).well) : X.putF (S.elder k) (S.nextB k cnt d) = (0, (X.burn.wrote (S.elder k) (S.nextB k cnt d)).burn.flushed) ∧ Put S (X.burn.wrote (S.elder k) (S.nextB k cnt d)).burn.flushed k cnt d := by
  refine ⟨by unfold St.putF; rw [if_pos h1, if_pos h2], ?_⟩
  subst hX
  have hn : ∀ n, n < S.safe.length → (S.burn.burn.burn.wrote (S.elder k) (S.nextB k cnt d)).burn.flushed.newest n = if n = S.elder k then S.nextB k cnt d else S.newest n := fun n hn => by
    refine (St.newest_flushed' (S.burn.burn.burn.wrote (S.elder k) (S.nextB k cnt d)).burn n hn).trans ?_
    refine (St.newest_wrote' S.burn.burn.burn (S.elder k) n (S.nextB k cnt d)).trans ?_
    rfl
  have he := S.elder_or k
  have hsd := S.side_or k
  refine ⟨rfl, ?_, St.flushed_len _, fun _ => rfl, ?_, fun n h1 h2 h3 => ?_⟩
  · show (S.burn.burn.burn.wrote (S.elder k) (S.nextB k cnt d)).burn.down = false
    rw [St.well_up h2]
    show S.burn.burn.burn.down = false
    rw [St.well_up h1, hXd]
  · refine St.rcd_put (by omega) hc0 hc1 hl ?_ ?_
    · rw [hn _ (by omega), if_pos rfl]
    · rw [hn _ (by omega), if_neg (fun h => S.elder_ne k h.symm)]
  · rw [hn n h1, if_neg (by omega)]

/-- A device that stopped while a record was changed: a crash keeps the old one or the new one. -/
theorem putF_stop {S : St} {k : Nat} (hk : k + 1 < S.safe.length) (hs : S.safe.length ≤ 512) (hcalm : S.calm k) {cnt : Int} {d : List UInt8} (hc0 : 0 ≤ cnt) (hc1 : cnt ≤ 9223372036854775807) (hl : d.length ≤ 400)
    (T : St) (hT : T = S.burn.burn.burn ∨ T = (S.burn.burn.burn.wrote (S.elder k) (S.nextB k cnt d)).burn) (ps : List Int) :
    (T.crash ps).rcd k = S.rcd k ∨ (T.crash ps).rcd k = ⟨true, ((S.rcd k).turn + 1) % 4294967296, cnt, d⟩ := by
  have he := S.elder_or k
  have hsd := S.side_or k
  rcases hT with rfl | rfl
  · left
    refine St.rcd_of ?_ ?_
    · exact crash_calm S.burn.burn.burn ps k (by show k < S.safe.length; omega) hcalm.1
    · exact crash_calm S.burn.burn.burn ps (k + 1) (by show k + 1 < S.safe.length; omega) hcalm.2
  · obtain ⟨T, hT⟩ : ∃ T, T = (S.burn.burn.burn.wrote (S.elder k) (S.nextB k cnt d)).burn := ⟨_, rfl⟩
    have hp : ∀ n, T.pend n = if n = S.elder k then S.pend (S.elder k) ++ [S.nextB k cnt d] else S.pend n := fun n => by rw [hT]; rfl
    have hsf : T.safe = S.safe := by rw [hT]; rfl
    rw [← hT]
    have hcl : ∀ n, n = k ∨ n = k + 1 → S.pend n = [] := fun n h => h.elim (fun e => e ▸ hcalm.1) (fun e => e ▸ hcalm.2)
    have hst : ∀ n, n = k ∨ n = k + 1 → n ≠ S.elder k → (T.crash ps).newest n = S.newest n := fun n h1 h2 => by
      rw [crash_calm _ _ _ (by rw [hsf]; omega) (by rw [hp, if_neg h2, hcl n h1])]
      unfold St.newest
      rw [hp, if_neg h2, hsf]
    have hel : (T.crash ps).newest (S.elder k) = S.newest (S.elder k) ∨ (T.crash ps).newest (S.elder k) = S.nextB k cnt d := by
      rcases crash_memS T ps (S.elder k) (by rw [hsf]; omega) with h | h
      · left; rw [h, hsf]; unfold St.newest; rw [hcl _ he]; rfl
      · right; rw [hp, if_pos rfl, hcl _ he] at h; simpa using h
    rcases hel with h | h
    · left
      refine St.rcd_of ?_ ?_
      · by_cases e : k = S.elder k
        · have h' := h; rw [← e] at h'; exact h'
        · exact hst k (.inl rfl) e
      · by_cases e : k + 1 = S.elder k
        · have h' := h; rw [← e] at h'; exact h'
        · exact hst (k + 1) (.inr rfl) e
    · right
      refine St.rcd_put (by omega) hc0 hc1 hl h ?_
      exact hst _ (by omega) (fun h => S.elder_ne k h.symm)
end Go.Proofs.YtfnhhjpebilacaaGreat

/-
  DERIVED. Texts at a seat of the journal: layText, PutText, Text.
-/
namespace Go.Proofs.YtfnhhjpebilacaaGreat
open Go.RowKit

theorem Sl.strJ {w : World} {v : Value} {l : List UInt8} (h : Sl w v l) : (convert 34 9 v).run Tryz.prog w = .ok (.string ⟨l.toArray⟩) w := by
  rcases h.cases with ⟨rfl, ao, rfl⟩ | ⟨b, off, cap, rfl, h1, h2, hb, hc⟩
  · cases ao with
    | none => exact run_convert_bytes_nil w 34 5 Tryz.underlying34 Tryz.underlying5 0 0 9 Tryz.underlying9
    | some a => exact run_convert_bytes_back w 34 9 5 a 0 [] Tryz.underlying34 Tryz.underlying5 Tryz.underlying9 (fun j hj => by simp at hj)
  · exact run_convert_bytes_back w 34 9 5 ⟨b, off, none⟩ cap l Tryz.underlying34 Tryz.underlying5 Tryz.underlying9 (fun j hj => by rw [addr_add]; exact hc j hj)

theorem strCells_eq (m : List UInt8) : Lib.strCells ⟨m.toArray⟩ = m.map bv := by
  simp [Lib.strCells]

/-- append(b, s...), b one's own. -/
theorem wpList_append_text {w : World} {ops : Array Oper} {rest : List Oper} {o : Oper} {a : Act} {Q : Exit → Act → World → Prop} (hgd : o.guard = none) (s x : Operand)
    (ho : o.op = .call { callee := .builtin .append, args := #[s, x], argTypes := #[34, 9] })
    (base : Nat) (v : Value) (l : List UInt8) (hs : a.eval s = v) (hown : Own w base v l)
    (m : List UInt8) (hx : a.eval x = .string ⟨m.toArray⟩) (hlen : l.length + m.length ≤ 140737488355328) (hbase : base ≤ w.heap.size)
    (h : ∀ v' w', Own w' base v' (l ++ m) → Below base w w' → wpList Tryz.prog ops Q rest (a.put o.dst v') w') : wpList Tryz.prog ops Q (o :: rest) a w := by
  obtain ⟨i0, hi, hz0, hz1, hz2⟩ := info_parts Tryz.info5
  have hsz : (⟨m.toArray⟩ : ByteArray).size = m.length := by simp [ByteArray.size]
  refine Lib.wpList_append_own_string w hgd s x 34 9 ho base 5 i0 Tryz.underlying34 Tryz.underlying9 hi hz0 hz1 hz2 v l.length (l.map bv) hs hown ⟨m.toArray⟩ hx (by rw [hsz]; unfold maxLen; omega) (by rw [hsz]; omega) hbase ?_
  intro v' w' ho' hgr _
  rw [hsz, strCells_eq] at ho'
  refine h v' w' (by simpa [Own] using ho') ((Below.refl _ _).grown hgr hbase ?_)
  intro k hk
  rcases hown.2 with ⟨rfl, _⟩ | ⟨g, cap', cur, rfl, hb, _⟩
  · cases hk
  · simp only [Value.ownBlock, Option.some.injEq] at hk; omega

/-- A text's bytes: P1.3. -/
def layT (s : List UInt8) : List UInt8 := lay s.length ++ s

set_option maxHeartbeats 1000000 in
theorem layText_any (base : Nat) (v : Value) (l s : List UInt8) (w : World) (hb : base ≤ w.heap.size) (hv : Room w base v l) (hl : l.length + 10 + s.length ≤ 140737488355328) :
    Calls Tryz.prog 75 #[v, .string ⟨s.toArray⟩] w fun e w' => ∃ v', e = .returned v' ∧ Own w' base v' (l ++ layT s) ∧ Below base w w' := by
  go_enter Tryz.func75, Tryz.ntmps75
  go_wp2_with fail
  refine (layUint_at base v l _ s.length _ hb hv (by omega) (by omega) (by simp)).mono ?_
  rintro e w1 ⟨v1, rfl, own1, b1⟩
  have s1 := b1.size
  have hll := lay_len s.length
  have HO := hide own1
  have HB := hide b1
  clear own1 b1
  go_wp2_with (at_builtin; refine wpList_append_text rfl (.tmp 9) (.tmp 10) rfl base _ (l ++ lay s.length) rfl (unhide HO) s rfl ?hlen ?hbase ?_)
  case hlen => simp; omega
  case hbase => omega
  intro v2 w2 own2 b2
  have HO2 : Hid (Own w2 base v2 (l ++ layT s)) := hide (by simpa [layT] using own2)
  have HB2 := hide ((unhide HB).trans b2)
  clear own2 b2
  go_wp2
  go_ret
  exact ⟨_, rfl, unhide HO2, unhide HB2⟩
theorem PutText_any (v : Value) (l s : List UInt8) (w : World) (hv : Sl w v l) (hl : l.length + 10 + s.length ≤ 140737488355328) :
    Calls Tryz.prog 65 #[v, .string ⟨s.toArray⟩] w fun e w' => ∃ v', e = .returned v' ∧ Own w' w.heap.size v' (l ++ layT s) ∧ Below w.heap.size w w' := by
  go_enter Tryz.func65, Tryz.ntmps65
  go_wp2_with (first | (go_at_call 76; refine (closed_any v l _ hv).mono ?_; rintro e w' ⟨v1, rfl, hroom, rfl⟩) | (go_at_call 75; refine (layText_any w.heap.size _ l s _ (Nat.le_refl _) (Or.inr hroom) hl).mono ?_; rintro e w' ⟨v2, rfl, hown, hbel⟩))
  go_ret
  exact ⟨_, rfl, hown, hbel⟩
set_option maxHeartbeats 1000000 in
theorem Text_any (v : Value) (l : List UInt8) (most : Int) (w : World) (hv : Sl w v l) (hm0 : -9223372036854775808 ≤ most) (hm : most ≤ 9223372036854775807) :
    Calls Tryz.prog 70 #[v, .int .i64 most] w fun e w' => e = .returned (.tuple #[.string ⟨(pcD l most).toArray⟩, .int .i64 (pcK l most : Nat), .int .i64 (pcE l most : Nat)]) ∧ w = w' := by
  obtain ⟨e, he⟩ : ∃ e, pcE l most = e := ⟨_, rfl⟩
  obtain ⟨k, hk⟩ : ∃ k, pcK l most = k := ⟨_, rfl⟩
  obtain ⟨d, hd⟩ : ∃ d, pcD l most = d := ⟨_, rfl⟩
  rw [he, hk, hd]
  have HE := hide (And.intro he (And.intro hk hd))
  clear he hk hd
  go_enter Tryz.func70, Tryz.ntmps70
  go_wp2_with fail
  refine (piece_at v l most e k d _ hv hm0 hm (unhide HE).1 (unhide HE).2.1 (unhide HE).2.2).mono ?_
  rintro e w1 ⟨v1, rfl, hs, rfl⟩
  have hst := hs.strJ
  have HS := hide hs
  clear hs
  go_wp2
  go_ret3
  exact ⟨rfl, rfl⟩
end Go.Proofs.YtfnhhjpebilacaaGreat

/-
  DERIVED. A log's record, plain: its bytes, and what bytes read as.
-/
namespace Go.Proofs.YtfnhhjpebilacaaGreat

/-- 'log' -/
def markB : List UInt8 := [108, 111, 103]
/-- A record's bytes, of these blocks. -/
def recB (ns : List Nat) : List UInt8 := layT markB ++ (lay (zig (ns.length : Int)) ++ ns.flatMap fun (n : Nat) => lay (zig (n : Int)))
/-- So many blocks, of a log of that size, and what is behind them. -/
def numsB (size : Int) : Nat → List UInt8 → Option (List Nat × List UInt8)
  | 0, l => some ([], l)
  | c + 1, l => if (rd l).2.2 = 0 ∧ 0 ≤ rdI l ∧ rdI l < size then (numsB size c (l.drop (rd l).2.1)).map (fun p => ((rdI l).toNat :: p.1, p.2)) else none
/-- The blocks that a record's bytes name. -/
def blkB (size : Int) (l : List UInt8) : Option (List Nat) :=
  if pcE l 3 = 0 ∧ pcD l 3 = markB then
    let l1 := l.drop (pcK l 3)
    if (rd l1).2.2 = 0 ∧ 0 ≤ rdI l1 ∧ rdI l1 ≤ 16 then
      match numsB size (rdI l1).toNat (l1.drop (rd l1).2.1) with
      | some (ns, []) => some ns
      | _ => none
    else none
  else none
theorem rdI_lay (n : Int) (r : List UInt8) (h1 : -9223372036854775808 ≤ n) (h2 : n ≤ 9223372036854775807) : rd (lay (zig n) ++ r) = (zig n, (lay (zig n)).length, 0) ∧ rdI (lay (zig n) ++ r) = n := by
  have h := rd_lay (zig n) (zig_lt n h1 h2) r
  refine ⟨h, ?_⟩
  unfold rdI
  rw [h]
  simp [unz_zig]
theorem numsB_back (size : Int) (hs : size ≤ 9223372036854775807) : ∀ (ns : List Nat) (r : List UInt8), (∀ n ∈ ns, (n : Int) < size) → numsB size ns.length ((ns.flatMap fun (n : Nat) => lay (zig (n : Int))) ++ r) = some (ns, r)
  | [], r, _ => rfl
  | n :: ns, r, h => by
    have hn := h n (by simp)
    obtain ⟨e1, e2⟩ := rdI_lay (n : Int) ((ns.flatMap fun (n : Nat) => lay (zig (n : Int))) ++ r) (by omega) (by omega)
    have ih := numsB_back size hs ns r (fun m hm => h m (by simp [hm]))
    rw [List.flatMap_cons, List.append_assoc, List.length_cons, numsB, e2, e1, if_pos ⟨rfl, by omega, hn⟩]
    simp only [List.drop_left, ih, Option.map_some]
    simp
theorem pc_mark (r : List UInt8) : pcE (layT markB ++ r) 3 = 0 ∧ pcD (layT markB ++ r) 3 = markB ∧ pcK (layT markB ++ r) 3 = (layT markB).length := by
  have h : rd (lay 3 ++ (markB ++ r)) = (3, (lay 3).length, 0) := rd_lay 3 (by decide) _
  have e : layT markB ++ r = lay 3 ++ (markB ++ r) := by simp [layT, markB]
  have h0 : pcE (layT markB ++ r) 3 = 0 := by
    unfold pcE
    rw [e, h]
    simp [markB]
  refine ⟨h0, ?_, ?_⟩
  · unfold pcD
    rw [if_pos h0, e, h]
    simp [markB]
  · unfold pcK
    rw [if_pos h0, e, h]
    simp [layT, markB]
theorem blkB_recB (size : Int) (hs : size ≤ 9223372036854775807) (ns : List Nat) (hl : ns.length ≤ 16) (h : ∀ n ∈ ns, (n : Int) < size) : blkB size (recB ns) = some ns := by
  unfold recB
  obtain ⟨h1, h2, h3⟩ := pc_mark (lay (zig (ns.length : Int)) ++ ns.flatMap fun (n : Nat) => lay (zig (n : Int)))
  obtain ⟨e1, e2⟩ := rdI_lay (ns.length : Int) (ns.flatMap fun (n : Nat) => lay (zig (n : Int))) (by omega) (by omega)
  have hb := numsB_back size hs ns [] h
  rw [List.append_nil] at hb
  unfold blkB
  rw [if_pos ⟨h1, h2⟩, h3]
  simp only [List.drop_left, e1, e2]
  rw [if_pos ⟨trivial, by omega, by omega⟩]
  simp only [Int.toNat_natCast, hb]
end Go.Proofs.YtfnhhjpebilacaaGreat

/-
  DERIVED. A log's work on a device, plain: what writes, flushes and stores come to.
-/
namespace Go.Proofs.YtfnhhjpebilacaaGreat
open Go.RowKit
set_option linter.unusedVariables false

theorem St.burn_ops (S : St) : S.ops ≤ S.burn.ops := by
  show S.ops ≤ burnO S.fused S.fuse S.ops
  unfold burnO
  split <;> omega
theorem St.well_ops {S : St} (h : S.well) : S.burn.ops = S.ops + 1 := by
  show burnO S.fused S.fuse S.ops = S.ops + 1
  unfold St.well burnE at h
  unfold burnO
  split at h
  · cases h
  · rename_i h1; rw [if_neg h1]

/-! ### Blocks that are written over -/
/-- Blocks, over which these were written. -/
def over (ps : List (Nat × List UInt8)) (f : Nat → List UInt8) : Nat → List UInt8 := ps.foldl (fun g p => fun m => if m = p.1 then p.2 else g m) f
theorem over_nil (f : Nat → List UInt8) : over [] f = f := rfl
theorem over_cons (p : Nat × List UInt8) (ps : List (Nat × List UInt8)) (f : Nat → List UInt8) : over (p :: ps) f = over ps (fun m => if m = p.1 then p.2 else f m) := rfl
theorem over_out : ∀ (ps : List (Nat × List UInt8)) (f : Nat → List UInt8) (m : Nat), (∀ p ∈ ps, p.1 ≠ m) → over ps f m = f m
  | [], f, m, _ => rfl
  | p :: ps, f, m, h => by
    rw [over_cons, over_out ps _ m (fun q hq => h q (by simp [hq])), if_neg (fun e => h p (by simp) e.symm)]
theorem over_in : ∀ (ps : List (Nat × List UInt8)) (f g : Nat → List UInt8) (m : Nat), (∃ p ∈ ps, p.1 = m) → over ps f m = over ps g m
  | [], f, g, m, h => by obtain ⟨p, hp, _⟩ := h; cases hp
  | p :: ps, f, g, m, h => by
    rw [over_cons, over_cons]
    by_cases h1 : ∃ q ∈ ps, q.1 = m
    · exact over_in ps _ _ m h1
    · have h2 : ∀ q ∈ ps, q.1 ≠ m := fun q hq e => h1 ⟨q, hq, e⟩
      rw [over_out ps _ m h2, over_out ps _ m h2]
      obtain ⟨q, hq, e⟩ := h
      rcases List.mem_cons.1 hq with rfl | hq
      · rw [if_pos e.symm, if_pos e.symm]
      · exact absurd e (h2 q hq)
theorem over_same (ps : List (Nat × List UInt8)) (f g : Nat → List UInt8) (m : Nat) (h : (∃ p ∈ ps, p.1 = m) ∨ f m = g m) : over ps f m = over ps g m := by
  by_cases h1 : ∃ p ∈ ps, p.1 = m
  · exact over_in ps f g m h1
  · have h2 : ∀ q ∈ ps, q.1 ≠ m := fun q hq e => h1 ⟨q, hq, e⟩
    rw [over_out ps f m h2, over_out ps g m h2]
    exact h.resolve_left h1
theorem over_mem (ps : List (Nat × List UInt8)) (f : Nat → List UInt8) (m : Nat) : over ps f m = f m ∨ ∃ p ∈ ps, p.1 = m ∧ over ps f m = p.2 := by
  induction ps generalizing f with
  | nil => exact .inl rfl
  | cons p ps ih =>
    rw [over_cons]
    rcases ih (fun m => if m = p.1 then p.2 else f m) with h | ⟨q, hq, e1, e2⟩
    · by_cases e : m = p.1
      · rw [if_pos e] at h
        exact .inr ⟨p, by simp, e.symm, h⟩
      · rw [if_neg e] at h
        exact .inl h
    · exact .inr ⟨q, by simp [hq], e1, e2⟩
theorem over_twice (ps : List (Nat × List UInt8)) (f : Nat → List UInt8) (m : Nat) : over ps (over ps f) m = over ps f m := by
  refine over_same ps _ _ m ?_
  by_cases h1 : ∃ p ∈ ps, p.1 = m
  · exact .inl h1
  · exact .inr (over_out ps f m fun q hq e => h1 ⟨q, hq, e⟩)

/-- The parts of a commit, in the blocks from the k-th on. -/
def layX : Nat → List (Nat × List UInt8) → List (Nat × List UInt8)
  | _, [] => []
  | k, p :: ps => (k, p.2) :: layX (k + 1) ps
/-- They, in their own blocks. -/
def setX (ps : List (Nat × List UInt8)) : List (Nat × List UInt8) := ps.map fun p => (20 + p.1, p.2)
/-- What is read there. -/
def partsF (T : St) : Nat → List Nat → List (Nat × List UInt8)
  | _, [] => []
  | k, n :: ns => (n, T.newest k) :: partsF T (k + 1) ns
theorem layX_mem : ∀ (ps : List (Nat × List UInt8)) (k : Nat), ∀ x ∈ layX k ps, k ≤ x.1 ∧ x.1 < k + ps.length
  | [], k, x, h => by cases h
  | p :: ps, k, x, h => by
    rw [List.length_cons]
    rcases List.mem_cons.1 h with rfl | h
    · exact ⟨Nat.le_refl _, by simp only; omega⟩
    · have := layX_mem ps (k + 1) x h
      omega
theorem layX_len : ∀ (ps : List (Nat × List UInt8)) (k : Nat), (layX k ps).length = ps.length
  | [], _ => rfl
  | p :: ps, k => by rw [layX, List.length_cons, layX_len ps, List.length_cons]
theorem layX_get : ∀ (ps : List (Nat × List UInt8)) (k i : Nat) (h : i < ps.length), (layX k ps)[i]'(by rw [layX_len]; exact h) = (k + i, (ps[i]).2)
  | [], _, i, h => by simp at h
  | p :: ps, k, 0, h => rfl
  | p :: ps, k, i + 1, h => by
    simp only [layX, List.getElem_cons_succ]
    rw [layX_get ps (k + 1) i (by simpa using h)]
    congr 1
    omega
theorem over_layX : ∀ (ps : List (Nat × List UInt8)) (k i : Nat) (f : Nat → List UInt8) (h : i < ps.length), over (layX k ps) f (k + i) = (ps[i]).2
  | [], _, i, _, h => by simp at h
  | p :: ps, k, 0, f, h => by
    rw [layX, over_cons, over_out _ _ _ (fun q hq e => by have := layX_mem ps (k + 1) q hq; omega), if_pos (by simp)]
    rfl
  | p :: ps, k, i + 1, f, h => by
    rw [layX, over_cons, show k + (i + 1) = (k + 1) + i by omega, over_layX ps (k + 1) i _ (by simpa using h)]
    rfl
theorem partsF_of (T : St) : ∀ (ps : List (Nat × List UInt8)) (k : Nat), (∀ i (h : i < ps.length), T.newest (k + i) = (ps[i]).2) → partsF T k (ps.map (·.1)) = ps
  | [], _, _ => rfl
  | p :: ps, k, h => by
    rw [List.map_cons, partsF, partsF_of T ps (k + 1) (fun i hi => by
      have := h (i + 1) (by simpa using hi)
      rw [show k + 1 + i = k + (i + 1) by omega]
      exact this)]
    have h0 : T.newest k = p.2 := h 0 (by simp)
    rw [h0]
theorem partsF_same {S T : St} : ∀ (ns : List Nat) (k : Nat), (∀ i, k ≤ i → i < k + ns.length → T.newest i = S.newest i) → partsF T k ns = partsF S k ns
  | [], _, _ => rfl
  | n :: ns, k, h => by
    rw [partsF, partsF, h k (Nat.le_refl _) (by simp), partsF_same ns (k + 1) (fun i h1 h2 => h i (by omega) (by rw [List.length_cons]; omega))]
theorem partsF_fst (T : St) : ∀ (ns : List Nat) (k : Nat), (partsF T k ns).map (·.1) = ns
  | [], _ => rfl
  | n :: ns, k => by rw [partsF, List.map_cons, partsF_fst T ns]
theorem partsF_len (T : St) (ns : List Nat) (k : Nat) : (partsF T k ns).length = ns.length := by
  have := congrArg List.length (partsF_fst T ns k)
  simpa using this
theorem partsF_get (T : St) : ∀ (ns : List Nat) (k i : Nat) (h : i < ns.length), (partsF T k ns)[i]'(by rw [partsF_len]; exact h) = (ns[i], T.newest (k + i))
  | [], _, i, h => by simp at h
  | n :: ns, k, 0, h => rfl
  | n :: ns, k, i + 1, h => by
    simp only [partsF, List.getElem_cons_succ]
    rw [partsF_get T ns (k + 1) i (by simpa using h)]
    congr 2
    omega
theorem over_setX : ∀ (ps : List (Nat × List UInt8)) (f : Nat → List UInt8) (m : Nat), over (setX ps) f (20 + m) = over ps (fun m => f (20 + m)) m
  | [], f, m => rfl
  | p :: ps, f, m => by
    show over (setX ps) (fun j => if j = 20 + p.1 then p.2 else f j) (20 + m) = over ps (fun m' => if m' = p.1 then p.2 else f (20 + m')) m
    rw [over_setX ps]
    have e : (fun m' => if 20 + m' = 20 + p.1 then p.2 else f (20 + m')) = fun m' => if m' = p.1 then p.2 else f (20 + m') := by
      funext m'
      by_cases h : m' = p.1
      · rw [if_pos h, if_pos (by omega)]
      · rw [if_neg h, if_neg (by omega)]
    rw [e]

/-! ### Steps, one behind the other -/
def thn (p : Int × St) (f : St → Int × St) : Int × St := if p.1 = 0 then f p.2 else p
theorem thn_ok (S : St) (f : St → Int × St) : thn (0, S) f = f S := rfl
theorem thn_no {x : Int} (S : St) (f : St → Int × St) (h : x ≠ 0) : thn (x, S) f = (x, S) := by unfold thn; rw [if_neg h]
theorem thn_down (S : St) (f : St → Int × St) : thn (2, S) f = (2, S) := thn_no S f (by decide)
/-- A write, as far as the device goes. -/
def St.wr (S : St) (x : Nat × List UInt8) : Int × St := if S.down = true then (2, S) else if S.well then (0, S.burn.wrote x.1 x.2) else (2, S.burn)
/-- A flush. -/
def St.fl (S : St) : Int × St := if S.down = true then (2, S) else if S.well then (0, S.burn.flushed) else (2, S.burn)
/-- A read. -/
def St.rd1 (S : St) : Int × St := if S.down = true then (2, S) else if S.well then (0, S.burn) else (2, S.burn)
def wrsP (p : Int × St) (xs : List (Nat × List UInt8)) : Int × St := xs.foldl (fun p x => thn p (·.wr x)) p
theorem wrsP_cons (p : Int × St) (x : Nat × List UInt8) (xs : List (Nat × List UInt8)) : wrsP p (x :: xs) = wrsP (thn p (·.wr x)) xs := rfl
theorem wrsP_snoc (p : Int × St) (xs : List (Nat × List UInt8)) (x : Nat × List UInt8) : wrsP p (xs ++ [x]) = thn (wrsP p xs) (·.wr x) := by simp [wrsP]
theorem wrsP_down (S : St) : ∀ xs : List (Nat × List UInt8), wrsP (2, S) xs = (2, S)
  | [] => rfl
  | x :: xs => by rw [wrsP_cons, thn_down, wrsP_down S xs]
def St.rds (S : St) : Nat → Int × St
  | 0 => (0, S)
  | k + 1 => thn (S.rds k) St.rd1

/-- A commit is laid. -/
def St.layJ (S : St) (ps : List (Nat × List UInt8)) : Int × St := thn (thn (wrsP (0, S) (layX 2 ps)) St.fl) (fun T => T.store 0 (recB (ps.map (·.1))))
/-- It is settled. -/
def St.settleJ (S : St) (ps : List (Nat × List UInt8)) : Int × St :=
  if ps = [] then thn (wrsP (0, S) (setX ps)) St.fl else thn (thn (wrsP (0, S) (setX ps)) St.fl) (fun T => T.store 0 (recB []))
def St.commitJ (S : St) (ps : List (Nat × List UInt8)) : Int × St := if ps = [] then S.settleJ ps else thn (S.layJ ps) (fun T => T.settleJ ps)
/-- What waits: an error or not, the device, the parts. -/
def St.waitJ (S : St) (size : Int) : (Int × St) × List (Nat × List UInt8) :=
  if S.reads then
    (if (S.rcd 0).laid = true then
      match blkB size (S.rcd 0).data with
      | some ns => (S.burn.burn.rds ns.length, if (S.burn.burn.rds ns.length).1 = 0 then partsF S 2 ns else [])
      | none => ((41, S.burn.burn), [])
    else ((41, S.burn.burn), []))
  else ((2, S.halted), [])
def St.openJ (S : St) (size : Int) : Int × St := thn (S.waitJ size).1 (fun T => T.settleJ (S.waitJ size).2)
/-- Noughts over all blocks that are offered. -/
def zerX (n : Nat) : List (Nat × List UInt8) := (List.range (n - 20)).map fun i => (20 + i, List.replicate 512 0)
def St.formatJ (S : St) : Int × St := thn (thn (wrsP (S.format 0 []) (zerX S.safe.length)) St.fl) (fun T => T.store 0 (recB []))

/-- A device behind these writes. -/
structure Wr (S : St) (ys : List (Nat × List UInt8)) (T : St) : Prop where
  safe : T.safe = S.safe
  ops : S.ops ≤ T.ops
  fused : T.fused = S.fused
  newest : ∀ n, T.newest n = over ys S.newest n
  pend : ∀ n L, L ∈ T.pend n → L ∈ S.pend n ∨ ∃ p ∈ ys, p.1 = n ∧ L = p.2
  none : ∀ n, (∀ p ∈ ys, p.1 ≠ n) → T.pend n = S.pend n
theorem Wr.refl (S : St) : Wr S [] S := ⟨rfl, Int.le_refl _, rfl, fun _ => rfl, fun _ _ h => .inl h, fun _ _ => rfl⟩
theorem Wr.burn {S T : St} {ys : List (Nat × List UInt8)} (h : Wr S ys T) : Wr S ys T.burn :=
  ⟨h.safe, Int.le_trans h.ops T.burn_ops, h.fused, h.newest, h.pend, h.none⟩
theorem Wr.cons {S T : St} {ys : List (Nat × List UInt8)} {x : Nat × List UInt8} (h : Wr (S.burn.wrote x.1 x.2) ys T) : Wr S (x :: ys) T := by
  refine ⟨h.safe, Int.le_trans S.burn_ops h.ops, h.fused, fun n => ?_, fun n L hL => ?_, fun n hn => ?_⟩
  · rw [h.newest n, over_cons]
    have e : (S.burn.wrote x.1 x.2).newest = fun m => if m = x.1 then x.2 else S.newest m := funext fun m => St.newest_wrote' S.burn x.1 m x.2
    rw [e]
  · rcases h.pend n L hL with h1 | ⟨p, hp, e1, e2⟩
    · have h2 : L ∈ putP S.pend x.1 x.2 n := h1
      unfold putP at h2
      by_cases e : n = x.1
      · rw [if_pos e] at h2
        rcases List.mem_append.1 h2 with h3 | h3
        · exact .inl (e ▸ h3)
        · exact .inr ⟨x, by simp, e.symm, by simpa using h3⟩
      · rw [if_neg e] at h2
        exact .inl h2
    · exact .inr ⟨p, by simp [hp], e1, e2⟩
  · rw [h.none n (fun p hp => hn p (by simp [hp]))]
    show putP S.pend x.1 x.2 n = S.pend n
    unfold putP
    rw [if_neg (fun e => hn x (by simp) e.symm)]

/-- Writes go well, or the device stops on the way. -/
theorem wrs_cases : ∀ (xs : List (Nat × List UInt8)) (S : St), S.down = false →
    (∃ T, wrsP (0, S) xs = (0, T) ∧ Wr S xs T ∧ T.down = false) ∨ (∃ T ys, wrsP (0, S) xs = (2, T) ∧ (∀ y ∈ ys, y ∈ xs) ∧ Wr S ys T ∧ T.down = true)
  | [], S, hd => .inl ⟨S, rfl, Wr.refl S, hd⟩
  | x :: xs, S, hd => by
    rw [wrsP_cons, thn_ok]
    by_cases hw : S.well
    · have e : S.wr x = (0, S.burn.wrote x.1 x.2) := by unfold St.wr; rw [if_neg (by rw [hd]; decide), if_pos hw]
      rw [e]
      have hd2 : (S.burn.wrote x.1 x.2).down = false := by
        show S.burn.down = false
        rw [St.well_up hw]; exact hd
      rcases wrs_cases xs (S.burn.wrote x.1 x.2) hd2 with ⟨T, h1, h2, h3⟩ | ⟨T, ys, h1, h2, h3, h4⟩
      · exact .inl ⟨T, h1, h2.cons, h3⟩
      · exact .inr ⟨T, x :: ys, h1, fun y hy => by
          rcases List.mem_cons.1 hy with rfl | hy
          · simp
          · exact List.mem_cons_of_mem _ (h2 y hy), h3.cons, h4⟩
    · have e : S.wr x = (2, S.burn) := by unfold St.wr; rw [if_neg (by rw [hd]; decide), if_neg hw]
      rw [e, wrsP_down]
      exact .inr ⟨S.burn, [], rfl, fun y hy => (by cases hy), (Wr.refl S).burn, St.unwell hw⟩
/-- Writes, and a flush behind them. -/
theorem wrf_cases (xs : List (Nat × List UInt8)) (S : St) (hd : S.down = false) :
    (∃ T, thn (wrsP (0, S) xs) St.fl = (0, T) ∧ T.safe.length = S.safe.length ∧ S.ops ≤ T.ops ∧ T.down = false ∧ T.fused = S.fused ∧ (∀ n, T.pend n = []) ∧ ∀ n, n < S.safe.length → T.newest n = over xs S.newest n) ∨
    (∃ T ys, thn (wrsP (0, S) xs) St.fl = (2, T) ∧ (∀ y ∈ ys, y ∈ xs) ∧ Wr S ys T ∧ T.down = true) := by
  rcases wrs_cases xs S hd with ⟨T, h1, h2, h3⟩ | ⟨T, ys, h1, h2, h3, h4⟩
  · rw [h1, thn_ok]
    by_cases hw : T.well
    · have e : T.fl = (0, T.burn.flushed) := by unfold St.fl; rw [if_neg (by rw [h3]; decide), if_pos hw]
      refine .inl ⟨_, e, ?_, ?_, ?_, h2.fused, fun _ => rfl, fun n hn => ?_⟩
      · rw [St.flushed_len]; exact congrArg _ h2.safe
      · exact Int.le_trans h2.ops T.burn_ops
      · show T.burn.down = false
        rw [St.well_up hw]; exact h3
      · rw [St.newest_flushed' T.burn n (by show n < T.safe.length; rw [h2.safe]; exact hn)]
        exact h2.newest n
    · have e : T.fl = (2, T.burn) := by unfold St.fl; rw [if_neg (by rw [h3]; decide), if_neg hw]
      exact .inr ⟨_, xs, e, fun y hy => hy, h2.burn, St.unwell hw⟩
  · rw [h1, thn_down]
    exact .inr ⟨T, ys, rfl, h2, h3, h4⟩
theorem Wr.crash {S T : St} {ys : List (Nat × List UInt8)} (h : Wr S ys T) (ps : List Int) (n : Nat) (hn : n < S.safe.length) : (T.crash ps).newest n = (S.safe[n]?).getD [] ∨ (T.crash ps).newest n ∈ S.pend n ∨ ∃ p ∈ ys, p.1 = n ∧ (T.crash ps).newest n = p.2 := by
  rcases crash_memS T ps n (by rw [h.safe]; exact hn) with h1 | h1
  · rw [h.safe] at h1; exact .inl h1
  · exact .inr (h.pend n _ h1)
theorem Wr.crash_out {S T : St} {ys : List (Nat × List UInt8)} (h : Wr S ys T) (ps : List Int) (n : Nat) (hn : n < S.safe.length) (ho : ∀ p ∈ ys, p.1 ≠ n) (hp : S.pend n = []) : (T.crash ps).newest n = S.newest n := by
  rw [crash_calm T ps n (by rw [h.safe]; exact hn) ((h.none n ho).trans hp), h.newest n, over_out _ _ _ ho]

/-- A store that goes well, or stops, and all that it leaves. -/
theorem store_all {S : St} {k : Nat} (hk : k + 1 < S.safe.length) (hs : S.safe.length ≤ 512) (hd : S.down = false) (hcalm : S.calm k) (hla : (S.rcd k).laid = true) (hc : (S.rcd k).count < 9223372036854775807) (d : List UInt8) (hl : d.length ≤ 400) :
    (∃ T, S.store k d = (0, T) ∧ Put S T k ((S.rcd k).count + 1) d ∧ S.ops + 1 ≤ T.ops) ∨
    (∃ T, S.store k d = (2, T) ∧ T.down = true ∧ T.safe = S.safe ∧ S.ops ≤ T.ops ∧ (∀ n, n ≠ k → n ≠ k + 1 → T.pend n = S.pend n) ∧
      ∀ ps, (T.crash ps).rcd k = S.rcd k ∨ (S.ops + 1 ≤ T.ops ∧ (T.crash ps).rcd k = ⟨true, ((S.rcd k).turn + 1) % 4294967296, (S.rcd k).count + 1, d⟩)) := by
  have hc0 := (S.rcd_is k).2.1
  have he := S.elder_or k
  by_cases hr : S.reads
  · have hX : S.burn.burn.down = false := by rw [St.well_up hr.2.2, St.well_up hr.2.1]; exact hd
    have hs2 : S.store k d = S.burn.burn.putF (S.elder k) (S.nextB k ((S.rcd k).count + 1) d) := by unfold St.store; rw [if_pos hr, if_pos hla]
    have o1 : S.burn.burn.ops = S.ops + 2 := by rw [St.well_ops hr.2.2, St.well_ops hr.2.1]; omega
    have o2 := S.burn.burn.burn_ops
    by_cases h1 : S.burn.burn.well
    · have o3 := (S.burn.burn.burn.wrote (S.elder k) (S.nextB k ((S.rcd k).count + 1) d)).burn_ops
      have o4 : (S.burn.burn.burn.wrote (S.elder k) (S.nextB k ((S.rcd k).count + 1) d)).ops = S.burn.burn.burn.ops := rfl
      by_cases h2 : (S.burn.burn.burn.wrote (S.elder k) (S.nextB k ((S.rcd k).count + 1) d)).well
      · left
        have := putF_good (S := S) (k := k) hk hs hd _ rfl hX (cnt := (S.rcd k).count + 1) (d := d) (by omega) (by omega) hl h1 h2
        refine ⟨_, by rw [hs2, this.1], this.2, ?_⟩
        show S.ops + 1 ≤ (S.burn.burn.burn.wrote (S.elder k) (S.nextB k ((S.rcd k).count + 1) d)).burn.ops
        omega
      · right
        have e : S.store k d = (2, (S.burn.burn.burn.wrote (S.elder k) (S.nextB k ((S.rcd k).count + 1) d)).burn) := by rw [hs2]; unfold St.putF; rw [if_pos h1, if_neg h2]
        refine ⟨_, e, St.unwell h2, rfl, by omega, fun n n1 n2 => ?_, fun ps => ?_⟩
        · show putP S.pend _ _ n = _
          unfold putP
          rw [if_neg (by omega)]
        · rcases putF_stop hk hs hcalm (cnt := (S.rcd k).count + 1) (d := d) (by omega) (by omega) hl _ (.inr rfl) ps with h | h
          · exact .inl h
          · exact .inr ⟨by omega, h⟩
    · right
      have e : S.store k d = (2, S.burn.burn.burn) := by rw [hs2]; unfold St.putF; rw [if_neg h1]
      refine ⟨_, e, St.unwell h1, rfl, by omega, fun n _ _ => rfl, fun ps => ?_⟩
      rcases putF_stop hk hs hcalm (cnt := (S.rcd k).count + 1) (d := d) (by omega) (by omega) hl _ (.inl rfl) ps with h | h
      · exact .inl h
      · exact .inr ⟨by omega, h⟩
  · right
    have e : S.store k d = (2, S.halted) := by unfold St.store; rw [if_neg hr]
    have hp := S.halted_pend
    have hn : ∀ n, S.halted.newest n = S.newest n := fun n => by unfold St.newest; rw [hp, S.halted_safe]
    refine ⟨_, e, St.halted_down hr, S.halted_safe, ?_, fun n _ _ => by rw [hp], fun ps => .inl ?_⟩
    · unfold St.halted
      split
      · exact Int.le_refl _
      split
      · have := S.burn_ops; have := S.burn.burn_ops; omega
      · exact S.burn_ops
    · exact St.rcd_of ((crash_calm _ ps k (by rw [S.halted_safe]; omega) (by rw [hp]; exact hcalm.1)).trans (hn k)) ((crash_calm _ ps (k + 1) (by rw [S.halted_safe]; exact hk) (by rw [hp]; exact hcalm.2)).trans (hn (k + 1)))
end Go.Proofs.YtfnhhjpebilacaaGreat

/-
  DERIVED. The walk of lay.
-/
namespace Go.Proofs.YtfnhhjpebilacaaGreat
open Go.RowKit
set_option linter.unusedVariables false

theorem noughts_listS (n : Nat) : noughts n = (List.replicate n (Value.int .u8 0)).toArray := by simp [noughts]
theorem splice_zero (n : Nat) (l : List UInt8) : splice (List.replicate n (Value.int .u8 0)) 0 (l.map bv) = (l ++ List.replicate (n - l.length) 0).map bv := by simp [splice]
def cur512 : List Value := List.replicate 512 (.int .u8 0)
theorem cur512_len : cur512.length = 512 := by unfold cur512; rw [List.length_replicate]
theorem run_make_bytes512 (w : World) : (Instr.makeSlice 34 (.int .i64 512) (.int .i64 512)).run Tryz.prog w = .ok (.slice (some ⟨w.heap.size, 0, none⟩) 512 512) (w.alloc (.cells (noughts 512) 5)) := by kernel_rfl

set_option maxRecDepth 20000 in
set_option maxHeartbeats 2000000 in
theorem lay_any (s : Slot) (a : Option Addr) (n c : Nat) (at_ : Int) (w : World) (hv : Sl w (.slice a n c) s.data) (hat0 : -9223372036854775808 ≤ at_) (hat1 : at_ ≤ 9223372036854775807) (ht : s.turn < 4294967296) (hc0 : 0 ≤ s.count) (hc1 : s.count ≤ 9223372036854775807) (hd : s.data.length ≤ 400) :
    Calls Tryz.prog 73 #[.agg (slotC s (.slice a n c)), .int .i64 at_] w fun e w' => ∃ g, e = .returned (.tuple #[.slice (some ⟨g, 0, none⟩) 512 512, .int .i64 0]) ∧ w.heap.size ≤ g ∧ w'.heap[g]? = some (.cells ((slotL s at_).map bv).toArray 5 (0, 0)) ∧ Below w.heap.size w w' := by
  have HV := hide hv
  clear hv
  have l1 := lay_len (zig at_)
  have l2 := lay_len (zig s.count)
  have l3 : ∀ x, (le4 x).length = 4 := fun _ => rfl
  obtain ⟨W0, hW0⟩ : ∃ W0, W0 = w.alloc (.cells (slotC s (.slice a n c)) 101) := ⟨_, rfl⟩
  have HW0 : Hid (Below w.heap.size w W0) := hide (by rw [hW0]; exact (Below.refl _ _).alloc (Nat.le_refl _) _)
  have s0 : W0.heap.size = w.heap.size + 1 := by rw [hW0]; simp
  have q1 : W0.cell? ⟨w.heap.size, 1, none⟩ = some (.int .u32 (s.turn : Nat)) := by rw [hW0]; simp
  have q2 : W0.cell? ⟨w.heap.size, 2, none⟩ = some (.int .i64 s.count) := by rw [hW0]; simp
  have q3 : W0.cell? ⟨w.heap.size, 3, none⟩ = some (.slice a n c) := by rw [hW0]; simp
  have HQ := hide (And.intro q1 (And.intro q2 q3))
  clear q1 q2 q3
  go_enter Tryz.func73, Tryz.ntmps73
  go_wp2_with fail
  rw [← hW0]
  refine (PutInt_any _ [] at_ W0 (nil_sl _) hat0 hat1 (by simp)).mono ?_
  rintro e w1 ⟨v1, rfl, o1, b1⟩
  have B1 := hide b1
  have O1 := hide o1
  have s1 := b1.size
  have q1 := (b1.cell (p := ⟨w.heap.size, 1, none⟩) (by show w.heap.size < _; omega)).trans (unhide HQ).1
  clear b1 o1 hW0
  go_wp2_with fail
  refine (Put32_any _ _ _ s.turn w1 (unhide O1).sl ht rfl (by simp; omega)).mono ?_
  rintro e w2 ⟨v2, rfl, o2, b2⟩
  have B2 := hide ((unhide B1).trans (b2.mono s1))
  have O2 := hide o2
  have s2 := b2.size
  have q2 := ((unhide B2).cell (p := ⟨w.heap.size, 2, none⟩) (by show w.heap.size < _; omega)).trans (unhide HQ).2.1
  clear b2 o2 O1 B1 q1
  go_wp2_with fail
  refine (PutInt_any _ _ s.count w2 (unhide O2).sl (by omega) hc1 (by simp [l3]; omega)).mono ?_
  rintro e w3 ⟨v3, rfl, o3, b3⟩
  have B3 := hide ((unhide B2).trans (b3.mono (by omega)))
  have O3 := hide o3
  have s3 := b3.size
  have q3 := ((unhide B3).cell (p := ⟨w.heap.size, 3, none⟩) (by show w.heap.size < _; omega)).trans (unhide HQ).2.2
  have V3 : Hid (Sl w3 (.slice a n c) s.data) := hide ((unhide HV).below ((unhide HW0).trans ((unhide B3).mono (by omega))) (Nat.le_refl _))
  clear b3 o3 O2 B2 q2
  go_wp2_with (first | (at_builtin; refine wpList_append_mine rfl (.tmp 20) (.tmp 22) rfl w2.heap.size _ _ rfl (unhide O3) _ s.data rfl (unhide V3) ?hlen ?hbase ?_) | fail)
  case hlen => simp [l3]; omega
  case hbase => exact s3
  intro v4 w4 o4 b4
  obtain ⟨a4, n4, c4, rfl⟩ := own_slice o4
  have hbody : lay (zig at_) ++ (le4 s.turn ++ (lay (zig s.count) ++ s.data)) = slotB s at_ := by simp [slotB]
  rw [hbody] at o4
  have B4 := hide ((unhide B3).trans (b4.mono (by omega)))
  have O4 := hide o4
  have s4 := b4.size
  have hlB := slotB_len s at_
  have hlF := frLay_len (slotB s at_)
  clear b4 o4 O3 B3 q3 V3 hbody
  go_wp2_with fail
  refine (PutFrame_sl _ [] 83 a4 n4 c4 (slotB s at_) w4 (nil_sl _) (unhide O4).sl (by omega) (by simp)).mono ?_
  rintro e w5 ⟨a5, c5, rfl, o5, b5⟩
  simp only [List.nil_append] at o5 ⊢
  have B5 := hide ((unhide B4).trans (b5.mono (by omega)))
  have O5 := hide o5
  have s5 := b5.size
  clear b5 o5 O4 B4
  have mk := run_make_bytes512 w5
  have HP : Hid (0 < ((frLay 83 (slotB s at_)).map bv).length → (some (⟨w5.heap.size, 0, none⟩ : Addr)) = some ⟨w5.heap.size, 0, none⟩ ∧ ∃ ad, a5 = some ad ∧ ∀ j v, ((frLay 83 (slotB s at_)).map bv)[j]? = some v → (w5.alloc (.cells (noughts 512) 5)).cell? (ad.add j) = some v) := hide (fun hp => by
    refine ⟨rfl, ?_⟩
    rcases ((unhide O5).sl.alloc (.cells (noughts 512) 5)).cases with ⟨h, _⟩ | ⟨b, off, cap, hz, _, _, _, hc⟩
    · rw [h] at hp; simp at hp
    · injection hz with e1 e2 e3
      refine ⟨_, e1, fun j v hj => ?_⟩
      obtain ⟨x, hx, rfl⟩ := by simpa using hj
      obtain ⟨hjl, rfl⟩ := List.getElem?_eq_some_iff.1 hx
      rw [addr_add]
      exact hc j hjl)
  have HG : Hid ((w5.alloc (.cells (noughts 512) 5)).heap[w5.heap.size]? = some (.cells cur512.toArray 5 (0, 0))) := hide (by rw [heap_alloc_self, noughts_listS]; rfl)
  have HSP : Hid (splice cur512 0 ((frLay 83 (slotB s at_)).map bv) = (slotL s at_).map bv) := hide (splice_zero 512 _)
  have hF : (frLay 83 (slotB s at_)).length ≤ 512 := by omega
  have HN : Hid (((frLay 83 (slotB s at_)).map bv).length = Nat.min (frLay 83 (slotB s at_)).length 512) := hide (by rw [List.length_map]; exact (Nat.min_eq_left hF).symm)
  have HFT : Hid (0 + ((frLay 83 (slotB s at_)).map bv).length ≤ cur512.length) := hide (by rw [cur512_len, List.length_map]; omega)
  have HB6 := hide ((Below.refl w5.heap.size w5).alloc (Nat.le_refl _) (.cells (noughts 512) 5))
  go_wp2_with (refine wpList_copy_splice rfl (.tmp 34) (.tmp 35) 34 34 rfl 5 Tryz.underlying34 (by kernel_rfl) _ _ _ _ _ _ rfl rfl w5.heap.size 0 cur512 5 (unhide HG) ((frLay 83 (slotB s at_)).map bv) (unhide HN) (unhide HP) (unhide HFT) (bv_one _) w5.heap.size w5 (unhide HB6) (Nat.le_refl _) ?_)
  intro w7 hg7 b7
  have G7 := hide (And.intro hg7 b7)
  clear hg7 b7
  go_wp2
  go_ret2
  refine ⟨w5.heap.size, rfl, by omega, ?_, ?_⟩
  · rw [← unhide HSP]; exact (unhide G7).1
  · exact (unhide HW0).trans (((unhide B5).mono (by omega)).trans ((unhide G7).2.mono (by omega)))
end Go.Proofs.YtfnhhjpebilacaaGreat

/-
  DERIVED. The walk of read: where the device refuses at once.
-/
namespace Go.Proofs.YtfnhhjpebilacaaGreat
open Go.RowKit
set_option linter.unusedVariables false

abbrev two0 : Array Value := #[.bool false, .int .u32 0, .int .i64 0, .slice none 0 0, .bool false, .int .u32 0, .int .i64 0, .slice none 0 0]
theorem sizeTwo : (Tryz.prog.info? 102).map (·.size) = some 8 := by kernel_rfl
theorem one_two0 : two0.all (·.oneCell') = true := by simp [two0, Value.oneCell']

/-- A row that is answered, and a value beside it. -/
theorem results_row_tmp {fn : Func} {p u : Tmp} {ty : TypeId} (h : fn.results = #[.cell p ty, .tmp u]) (tmps : Array Value) (w : World) (g : Nat) (cs : Array Value) (y : Value)
    (hp : tmps.getD p undef = .pointer (some ⟨g, 0, none⟩)) (hy : tmps.getD u undef = y) (hl : (loadVar ty ⟨g, 0, none⟩).run Tryz.prog w = .ok (.agg cs) w) :
    (results fn tmps).run Tryz.prog w = .ok (.tuple #[.agg cs, y]) w := by
  have hp' : tmps[p]?.getD undef = .pointer (some ⟨g, 0, none⟩) := by simpa using hp
  have hy' : tmps[u]?.getD undef = y := by simpa using hy
  simp [results, h, hp', hy', asAddr, hl]

set_option maxHeartbeats 2000000 in
theorem read_shut {w : World} {b : Nat} {F : Nat → Prop} {N : Nat} {S : St} (h : Dev w b F N S) (k : Nat) (hk : k + 1 < S.safe.length) (hs : S.safe.length ≤ 512) (hd : S.down = false) (hB : burnE S.fused S.fuse ≠ 0) (hN : N < 1000000) (hF : ∀ k, F k → k < w.heap.size) :
    Calls Tryz.prog 62 #[.pointer (some ⟨b, 0, none⟩), .int .i64 k] w fun e w' => e = .returned (.tuple #[.agg two0, .int .i64 2]) ∧ Dev w' b F (N + 1) S.burn ∧ Kept F w w' := by
  have HD := hide h
  clear h
  obtain ⟨W, hW⟩ : ∃ W, W = (w.alloc (.cells two0 102)).alloc (.cells two0 102) := ⟨_, rfl⟩
  have HW : Hid (Below w.heap.size w W) := hide (by rw [hW]; exact ((Below.refl _ _).alloc (Nat.le_refl _) _).alloc (by simp) _)
  have HZ : Hid (W.heap[w.heap.size]? = some (.cells two0 102 (0, 0))) := hide (by rw [hW, Below.heap_alloc _ _ _ (by simp)]; exact heap_alloc_self _ _)
  have sW : W.heap.size = w.heap.size + 2 := by rw [hW]; simp
  go_enter Tryz.func62, Tryz.ntmps62
  go_wp2_with fail
  rw [← hW]
  clear hW
  refine wp_loop_rounds 1 ?_
  rw [rounds_succ]
  go_wp2_with fail
  refine (Read_dev_burnt ((unhide HD).grown (unhide HW)) k (by omega) hd hB hN).mono ?_
  rintro e w1 ⟨rfl, d1, k1⟩
  have HZ1 : Hid (w1.heap[w.heap.size]? = some (.cells two0 102 (0, 0))) := hide ((k1.block _ (by omega) (fun h => by have := hF _ h; omega)).trans (unhide HZ))
  have H1 := hide (And.intro d1 k1)
  clear d1 k1
  go_wp2_with (refine wpList_store_row rfl 102 (.tmp 4) (.tmp 23) rfl w.heap.size two0 rfl rfl 102 two0 (unhide HZ1) sizeTwo rfl one_two0 ?_)
  (try simp only [Exit.inBlock, Exit.then])
  refine bodyPost_ret (v := .tuple #[.agg two0, .int .i64 2]) (results_row_tmp rfl _ _ w.heap.size two0 _ rfl rfl (run_loadVar_row _ w.heap.size 102 102 two0 (0, 0) _ (setRow_heap _ _ _ _ _ _ (unhide HZ1)) Tryz.underlying102 rfl sizeTwo)) rfl ⟨rfl, ?_, ?_⟩
  · exact (unhide H1).1.frame fun j hj _ => setRow_other _ _ _ _ (by have := hF _ hj; omega)
  · have hB1 := unhide HW
    have hK1 := (unhide H1).2
    refine ⟨hK1.os.trans hB1.os, hK1.tape.trans hB1.tape, hK1.output.trans hB1.output, ?_, fun j hj hn => ?_⟩
    · have := hK1.size
      simp [World.setRow]
      omega
    · rw [setRow_other _ _ _ _ (by omega), hK1.block j (by omega) hn, hB1.block j hj]
end Go.Proofs.YtfnhhjpebilacaaGreat
