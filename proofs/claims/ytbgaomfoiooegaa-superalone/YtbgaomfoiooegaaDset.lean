/-
  DERIVED. A block stored into a row of blocks; a map cleared; which blocks have writes.
-/
import Derived.Test.YtbgaomfoiooegaaDpend
import Derived.Maps.RangeWalk
namespace Go.Proofs.Ytbgaomfoiooegaa
open Go.RowKit Go.Maps Go.Sort Go.Shelf
open Go.ChangeMaps (setBlock)
set_option linter.unusedVariables false

theorem grown_setCells (g : Nat) : ∀ (vs : List Value) (o : Nat) (w : World), w.grownBy (w.setCells g o vs) (some g)
  | [], o, w => ⟨rfl, rfl, rfl, Nat.le_refl _, fun _ _ _ => rfl⟩
  | v :: r, o, w => by
    have h : w.grownBy (w.setCell ⟨g, o, none⟩ v) (some g) := ⟨rfl, rfl, rfl, by simp [World.setCell], fun k _ hk => heap_setCell_other _ _ _ _ (fun e => hk (by rw [e]))⟩
    exact h.trans (grown_setCells g r (o + 1) _)

theorem heap_setCells_row (g : Nat) (t : TypeId) : ∀ (vs : List Value) (o : Nat) (w : World) (cur : Array Value), w.heap[g]? = some (.cells cur t (0, 0)) → o + vs.length ≤ cur.size →
    (w.setCells g o vs).heap[g]? = some (.cells (cur.toList.take o ++ vs ++ cur.toList.drop (o + vs.length)).toArray t (0, 0))
  | [], o, w, cur, h, hl => by
    rw [World.setCells, h]
    simp
  | v :: r, o, w, cur, h, hl => by
    rw [List.length_cons] at hl
    have h1 := heap_setCell_same w g o cur t v h
    have h2 := heap_setCells_row g t r (o + 1) _ _ h1 (by rw [Array.size_setIfInBounds]; omega)
    rw [World.setCells, h2, Array.toList_setIfInBounds]
    have hlt : o < cur.toList.length := by rw [Array.length_toList]; omega
    have e1 : (cur.toList.set o v).take (o + 1) = cur.toList.take o ++ [v] := by
      rw [List.take_succ_eq_append_getElem (by rw [List.length_set]; exact hlt), List.getElem_set_self, List.take_set_of_le (Nat.le_refl _)]
    have e2 : (cur.toList.set o v).drop (o + 1 + r.length) = cur.toList.drop (o + (v :: r).length) := by
      rw [List.drop_set_of_lt (by omega), List.length_cons]
      congr 1
      omega
    rw [e1, e2, List.append_assoc, List.append_assoc, List.append_assoc]
    rfl

set_option maxRecDepth 20000 in
theorem Blks.set {w : World} {g c n : Nat} {bs : List (List UInt8)} (h : Blks w (.slice (some ⟨g, 0, none⟩) n c) bs) (hw : Wide bs) (k : Nat) (hk : k < bs.length) (L : List UInt8) (hL : L.length = 512) :
    Blks (w.setCells g (k * 512) (L.map bv)) (.slice (some ⟨g, 0, none⟩) n c) (bs.set k L) := by
  obtain ⟨h1, h2⟩ := h
  rcases h2 with ⟨h2, _⟩ | ⟨g', cap, cur, hv, hb, hg, hn, hm, hs, ht⟩
  · cases h2
  · cases hv
    have hl : (L.map bv).length = 512 := by rw [List.length_map]; exact hL
    have hset := cellsOf_set hw k hk L hL
    have hlen := cellsOf_len hw
    have hlen2 := cellsOf_len (hw.set hL k)
    rw [List.length_set] at hlen2
    have hk2 : k * 512 + 512 ≤ bs.length * 512 := by omega
    have q1 : k * 512 ≤ (cellsOf bs).length := Nat.le_trans (Nat.mul_le_mul_right 512 (Nat.le_of_lt hk)) (Nat.le_of_eq hlen.symm)
    have q2 : k * 512 + 512 ≤ (cellsOf bs).length := Nat.le_trans hk2 (Nat.le_of_eq hlen.symm)
    have hr := heap_setCells_row g 72 (L.map bv) (k * 512) w cur hg (by omega)
    have hcut : cur.toList = cellsOf bs ++ cur.toList.drop (bs.length * 512) := by rw [← ht, List.take_append_drop]
    have e : cur.toList.take (k * 512) ++ L.map bv ++ cur.toList.drop (k * 512 + (L.map bv).length) = cellsOf (bs.set k L) ++ cur.toList.drop (bs.length * 512) := by
      rw [hset, hl]
      conv => lhs; rw [hcut]
      rw [List.take_append_of_le_length q1, List.drop_append_of_le_length q2]
      simp only [List.append_assoc]
    rw [e] at hr
    refine ⟨by rw [List.length_set]; exact hlen2, .inr ⟨g, c, _, by rw [List.length_set], hb, hr, by rw [List.length_set]; exact hn, hm, ?_, ?_⟩⟩
    · have e3 : (cur.toList.drop (bs.length * 512)).length = cur.size - bs.length * 512 := by rw [List.length_drop, Array.length_toList]
      rw [List.size_toArray, List.length_append]
      omega
    · rw [List.length_set, ← hlen2]
      exact List.take_left

theorem Blks.there {w : World} {g c n : Nat} {bs : List (List UInt8)} (h : Blks w (.slice (some ⟨g, 0, none⟩) n c) bs) (hw : Wide bs) (k : Nat) (hk : k < bs.length) : w.there g (k * 512) 512 := by
  intro j hj
  have hr := Blks.range hw h k hk j
  obtain ⟨cur, hc⟩ := Blks.mark h rfl
  have hl : (bs[k].map bv).length = 512 := by rw [List.length_map]; exact hw _ (List.getElem_mem hk)
  refine ⟨?_, frozen_of_row w g _ cur 72 hc⟩
  rw [hr _ (List.getElem?_eq_getElem (by rw [hl]; exact hj))]
  rfl

/-- A map cleared. -/
theorem clear_own {w : World} {m N : Nat} {D : DataW Value} (h : w.ownsMap Try.prog 3 rawE m N D) (ty : TypeId) : ∃ w', (Builtin.clear_ #[56] ty #[.map (some m)]).run Try.prog w = .ok (.tuple #[]) w' ∧ w'.ownsMap Try.prog 3 rawE m 0 (.map []) ∧ w.grownBy w' (some m) := by
  obtain ⟨es, clock, hb, F, hs, rfl⟩ := h
  refine ⟨setBlock w m (.map #[] clock), ?_, ⟨#[], clock, ChangeMaps.heap_setBlock_same hb _, ⟨by simp, MapKept.stamped_empty _, by simp⟩, Nat.le_refl _, rfl⟩, ⟨rfl, rfl, rfl, by simp [setBlock], fun i _ hi => ChangeMaps.heap_setBlock_other hb _ (fun e => hi (by rw [e]))⟩⟩
  simp [Builtin.clear_, run_underlying Try.underlying56, MapKept.run_getObj_map hb, MapKept.run_setObj_map _ hb, Result.andThen, setBlock]

theorem PendAt.cleared {w w' : World} {F : Nat → Prop} {m g n N : Nat} {pend : Nat → List (List UInt8)} {vf : Nat → Value} {D : DataW Value} (h : PendAt w F m g n N pend vf D) (hc : w'.ownsMap Try.prog 3 rawE m 0 (.map [])) :
    PendAt w' F m g n N (fun _ => []) (fun _ => nilS) (.map []) :=
  { own := hc.mono (Nat.zero_le _), at_ := fun _ _ => rfl, has := fun kl => ⟨fun h => (by cases h), fun ⟨k, _, h, _⟩ => absurd rfl h⟩, rows := fun _ => World.ownsRow_nil _ _ _ _, len := fun _ => Nat.zero_le _, foot := fun _ _ h => (by cases h), apart := fun _ _ _ h => (by cases h), wide := fun _ L hL => (by cases hL), out := fun _ _ => rfl }

/-- The blocks with writes, rising. -/
def pk (n : Nat) (pend : Nat → List (List UInt8)) : List Nat := (List.range n).filter fun k => !(pend k).isEmpty
theorem mem_pk {n : Nat} {pend : Nat → List (List UInt8)} {k : Nat} : k ∈ pk n pend ↔ k < n ∧ pend k ≠ [] := by
  simp [pk]
theorem pk_rising (n : Nat) (pend : Nat → List (List UInt8)) : (pk n pend).Pairwise (· < ·) := List.Pairwise.filter _ List.pairwise_lt_range
theorem pk_len (n : Nat) (pend : Nat → List (List UInt8)) : (pk n pend).length ≤ n := by
  have := List.length_filter_le (fun k => !(pend k).isEmpty) (List.range n)
  rw [List.length_range] at this
  exact this

theorem PendAt.keys {w : World} {F : Nat → Prop} {m g n N : Nat} {pend : Nat → List (List UInt8)} {vf : Nat → Value} {D : DataW Value} (h : PendAt w F m g n N pend vf D) (ss : List Int) (hs : ss.Perm (intKeys D)) :
    ss.mergeSort (fun x y => decide (x ≤ y)) = (pk n pend).map Int.ofNat ∧ ss.length = (pk n pend).length := by
  obtain ⟨es, rfl, hp, hk⟩ := h.own.entries keyedInt
  have hk2 : ∀ p ∈ es, ∃ x, p.1 = Lit.int .i64 x := fun p hpe => by
    obtain ⟨k, _, _, e⟩ := (h.has p.1).1 (by rw [has_eq, List.any_eq_true]; exact ⟨p, hpe, WideAt.sameKey_self (hk p hpe)⟩)
    exact ⟨_, e⟩
  have hnd : ((pk n pend).map Int.ofNat).Nodup := List.pairwise_map.2 ((pk_rising n pend).imp fun {a b} hab e => by have : (a : Int) = b := e; omega)
  have hperm : ((pk n pend).map Int.ofNat).Perm (intKeys (.map es)) := perm_intKeys hp hk2 hnd fun x => by
    rw [h.has, List.mem_map]
    constructor
    · rintro ⟨k, hk, rfl⟩
      exact ⟨k, (mem_pk.1 hk).1, (mem_pk.1 hk).2, rfl⟩
    · rintro ⟨k, h1, h2, e⟩
      exact ⟨k, mem_pk.2 ⟨h1, h2⟩, by injection e with _ e; exact e.symm⟩
  have hp3 := hs.trans hperm.symm
  refine ⟨?_, by rw [hp3.length_eq, List.length_map]⟩
  have e := mergeSort_of_perm_i hp3
  rw [show ss.mergeSort (fun x y => decide (x ≤ y)) = ss.mergeSort leI from rfl, e]
  refine List.mergeSort_of_pairwise (List.pairwise_map.2 ((pk_rising n pend).imp fun {a b} hab => ?_))
  simp only [leI, decide_eq_true_eq, Int.ofNat_eq_natCast]
  omega

/-- Pending. -/
theorem Pending_dev {w : World} {b : Nat} {F : Nat → Prop} {N : Nat} {S : St} (h : Dev w b F N S) (hN : N < 1000000) :
    Calls Try.prog 30 #[.pointer (some ⟨b, 0, none⟩)] w fun e w' => ∃ v, e = .returned v ∧ w'.ownsRow w.heap.size 3 1 v (pk S.safe.length S.pend).length ((pk S.safe.length S.pend).map fun k => Value.int .i64 (k : Nat)) ∧ Below w.heap.size w w' := by
  obtain ⟨g, c, m, vf, D, h⟩ := h
  have hz := h.pend.own.size_le
  refine (Pending_map b m N D rawE w h.dev.c1 h.pend.own (by unfold maxLen; omega) (by omega)).mono ?_
  rintro e w' ⟨v, ss, rfl, hs, hrow, hnil, hb⟩
  obtain ⟨e1, e2⟩ := h.pend.keys ss hs
  rw [e1, e2] at hrow
  refine ⟨v, rfl, ?_, hb⟩
  rw [List.map_map] at hrow
  exact hrow
end Go.Proofs.Ytbgaomfoiooegaa
