/-
  DERIVED. What a record is, of a device's blocks; what Format, Store and Load make of it: plain.
-/
import Derived.Test.YtbgaomfoiooegaaScheck
import Derived.Test.YtbgaomfoiooegaaDflush
namespace Go.Proofs.Ytbgaomfoiooegaa
open Go.RowKit
set_option linter.unusedVariables false

/-- The next operation goes well, of a device that is up. -/
def St.well (S : St) : Prop := burnE S.fused S.fuse = 0
instance (S : St) : Decidable S.well := by unfold St.well; infer_instance
theorem St.well_up {S : St} (h : S.well) : S.burn.down = S.down := by
  unfold St.well burnE at h
  show burnD S.fused S.fuse S.down = S.down
  unfold burnD
  split at h
  · cases h
  · rename_i h1; rw [if_neg h1]
theorem St.unwell {S : St} (h : ¬ S.well) : S.burn.down = true := by
  unfold St.well burnE at h
  show burnD S.fused S.fuse S.down = true
  unfold burnD
  split at h
  · rename_i h1; rw [if_pos h1]
  · exact absurd rfl h
theorem St.well_free {S : St} (h : S.fused = false) : S.well := by unfold St.well burnE; rw [h]; rfl

/-- Two blocks can be read. -/
def St.reads (S : St) : Prop := S.down = false ∧ S.well ∧ S.burn.well
instance (S : St) : Decidable S.reads := by unfold St.reads; infer_instance
theorem St.reads_free {S : St} (h : S.fused = false) (hd : S.down = false) : S.reads := ⟨hd, St.well_free h, St.well_free h⟩
/-- A device behind a read that stopped. -/
def St.halted (S : St) : St := if S.down = true then S else if S.well then S.burn.burn else S.burn
theorem St.halted_down {S : St} (h : ¬ S.reads) : S.halted.down = true := by
  unfold St.halted
  by_cases h1 : S.down = true
  · rw [if_pos h1]; exact h1
  rw [if_neg h1]
  by_cases h2 : S.well
  · rw [if_pos h2]
    exact St.unwell fun h3 => h ⟨by simpa using h1, h2, h3⟩
  · rw [if_neg h2]; exact St.unwell h2
theorem St.halted_safe (S : St) : S.halted.safe = S.safe := by
  unfold St.halted
  split
  · rfl
  · split <;> rfl
theorem St.halted_pend (S : St) : S.halted.pend = S.pend := by
  unfold St.halted
  split
  · rfl
  · split <;> rfl

theorem rd4_lt : ∀ l : List UInt8, rd4 l < 4294967296
  | a :: b :: c :: d :: _ => by
    have := a.toNat_lt; have := b.toNat_lt; have := c.toNat_lt; have := d.toNat_lt
    show a.toNat + 256 * b.toNat + 65536 * c.toNat + 16777216 * d.toNat < _
    omega
  | [] => by decide
  | [_] => by simp [rd4]
  | [_, _] => by simp [rd4]
  | [_, _, _] => by simp [rd4]
theorem rdI_hi (l : List UInt8) : rdI l ≤ 9223372036854775807 := by
  have := (rd_facts l).1
  unfold rdI unz
  split
  · split <;> omega
  · omega
theorem unl_is (k : Int) (L : List UInt8) : (unl k L).turn < 4294967296 ∧ 0 ≤ (unl k L).count ∧ (unl k L).count ≤ 9223372036854775807 ∧ (unl k L).data.length ≤ 400 := by
  have h0 : noSlot.turn < 4294967296 ∧ 0 ≤ noSlot.count ∧ noSlot.count ≤ 9223372036854775807 ∧ noSlot.data.length ≤ 400 := by simp [noSlot]
  unfold unl
  split
  · exact h0
  split
  · exact h0
  split
  · exact h0
  split
  · exact h0
  · rename_i h1
    exact ⟨rd4_lt _, by simp only; omega, rdI_hi _, by simp only [List.length_drop] at h1 ⊢; omega⟩

/-- The newer one of two slots. -/
def curS (s t : Slot) : Slot := if newR s t = 1 then t else s
/-- Which of a record's two blocks is the newer one: 0 or 1. -/
def St.side (S : St) (k : Nat) : Nat := newR (unl k (S.newest k)) (unl k (S.newest (k + 1)))
/-- The record. -/
def St.rcd (S : St) (k : Nat) : Slot := curS (unl k (S.newest k)) (unl k (S.newest (k + 1)))
/-- The block that is written next. -/
def St.elder (S : St) (k : Nat) : Nat := k + 1 - S.side k
/-- What is written there. -/
def St.nextB (S : St) (k : Nat) (cnt : Int) (d : List UInt8) : List UInt8 := slotL ⟨false, ((S.rcd k).turn + 1) % 4294967296, cnt, d⟩ k

theorem newR_or (s t : Slot) : newR s t = 0 ∨ newR s t = 1 := by unfold newR; split <;> simp
theorem St.side_or (S : St) (k : Nat) : S.side k = 0 ∨ S.side k = 1 := newR_or _ _
theorem St.rcd_is (S : St) (k : Nat) : (S.rcd k).turn < 4294967296 ∧ 0 ≤ (S.rcd k).count ∧ (S.rcd k).count ≤ 9223372036854775807 ∧ (S.rcd k).data.length ≤ 400 := by
  unfold St.rcd curS
  split <;> exact unl_is _ _
/-- A record hangs on its two blocks alone. -/
theorem St.rcd_of {S T : St} {k : Nat} (h0 : T.newest k = S.newest k) (h1 : T.newest (k + 1) = S.newest (k + 1)) : T.rcd k = S.rcd k := by unfold St.rcd; rw [h0, h1]

theorem St.rcd_put {S T : St} {k : Nat} (hk : k < 1000000) {cnt : Int} {d : List UInt8} (hc0 : 0 ≤ cnt) (hc1 : cnt ≤ 9223372036854775807) (hd : d.length ≤ 400)
    (h1 : T.newest (S.elder k) = S.nextB k cnt d) (h2 : T.newest (k + S.side k) = S.newest (k + S.side k)) : T.rcd k = ⟨true, ((S.rcd k).turn + 1) % 4294967296, cnt, d⟩ := by
  have hu : unl k (S.nextB k cnt d) = ⟨true, ((S.rcd k).turn + 1) % 4294967296, cnt, d⟩ := unl_slot ⟨false, ((S.rcd k).turn + 1) % 4294967296, cnt, d⟩ k (by omega) (by omega) (by simp only; omega) hc0 hc1 hd
  have hR : S.rcd k = curS (unl k (S.newest k)) (unl k (S.newest (k + 1))) := rfl
  obtain ⟨s, hs⟩ : ∃ s, s = unl k (S.newest k) := ⟨_, rfl⟩
  obtain ⟨t, ht⟩ : ∃ t, t = unl k (S.newest (k + 1)) := ⟨_, rfl⟩
  have ts : s.turn < 4294967296 := by rw [hs]; exact (unl_is _ _).1
  have tt : t.turn < 4294967296 := by rw [ht]; exact (unl_is _ _).1
  have hS : S.side k = newR s t := by rw [hs, ht]; rfl
  rw [← hs, ← ht] at hR
  unfold St.elder at h1
  rcases newR_or s t with h0 | h0
  · rw [hS, h0] at h1 h2
    have e1 : T.newest (k + 1) = S.nextB k cnt d := h1
    have e0 : T.newest k = S.newest k := h2
    have hr : S.rcd k = s := by rw [hR]; unfold curS; rw [if_neg (by rw [h0]; decide)]
    rw [hr] at hu ⊢
    have hn : newR s ⟨true, (s.turn + 1) % 4294967296, cnt, d⟩ = 1 := by
      unfold newR
      rw [if_pos]
      refine ⟨rfl, .inr ?_⟩
      simp only
      omega
    unfold St.rcd curS
    rw [e1, e0, hu, ← hs, if_pos hn]
  · rw [hS, h0] at h1 h2
    have e0 : T.newest k = S.nextB k cnt d := h1
    have e1 : T.newest (k + 1) = S.newest (k + 1) := h2
    have hr : S.rcd k = t := by rw [hR]; unfold curS; rw [if_pos h0]
    rw [hr] at hu ⊢
    have hn : newR ⟨true, (t.turn + 1) % 4294967296, cnt, d⟩ t ≠ 1 := by
      unfold newR
      rw [if_neg]
      · decide
      · rintro ⟨_, h | h⟩
        · cases h
        · simp only at h
          omega
    unfold St.rcd curS
    rw [e1, e0, hu, ← ht, if_neg hn]

/-! ### What the operations make of the blocks -/
theorem St.newest_burn (S : St) (n : Nat) : S.burn.newest n = S.newest n := rfl
theorem St.newest_wrote' (S : St) (k n : Nat) (L : List UInt8) : (S.wrote k L).newest n = if n = k then L else S.newest n := by
  unfold St.newest
  show ((putP S.pend k L n).getLast?).getD _ = _
  unfold putP
  by_cases e : n = k
  · subst e; simp
  · simp only [if_neg e]; rfl
theorem St.newest_flushed' (S : St) (n : Nat) (hn : n < S.safe.length) : S.flushed.newest n = S.newest n := by
  show (((List.range S.safe.length).map S.newest)[n]?).getD [] = _
  rw [List.getElem?_map, List.getElem?_range hn]
  rfl
theorem St.flushed_len (S : St) : S.flushed.safe.length = S.safe.length := by unfold St.flushed; simp

/-- What a crash keeps is one of what was there. -/
theorem crashTo_memS (S : St) (ps : List Int) : ∀ i n, n < S.safe.length → ((S.crashTo ps i)[n]?).getD [] = (S.safe[n]?).getD [] ∨ ((S.crashTo ps i)[n]?).getD [] ∈ S.pend n
  | 0, n, hn => .inl rfl
  | i + 1, n, hn => by
    have ih := crashTo_memS S ps i n hn
    rw [St.crashTo]
    obtain ⟨k, hk⟩ : ∃ k, k = (S.keys[i]?).getD 0 := ⟨_, rfl⟩
    rw [← hk]
    by_cases e : k = n
    · rw [e]
      have hl : n < (S.crashTo ps i).length := by rw [St.crashTo_len]; exact hn
      rw [List.getElem?_set_self hl, Option.getD_some]
      unfold St.keptB
      simp only
      have hlt := pickR_lt (pickAt ps i) (S.pend n).length
      split
      · exact ih
      · rename_i hne
        right
        rw [List.getElem?_eq_getElem (by omega), Option.getD_some]
        exact List.getElem_mem _
    · rw [List.getElem?_set_ne e]
      exact ih
theorem crash_memS (S : St) (ps : List Int) (n : Nat) (hn : n < S.safe.length) : (S.crash ps).newest n = (S.safe[n]?).getD [] ∨ (S.crash ps).newest n ∈ S.pend n := crashTo_memS S ps _ n hn
theorem crash_calm (S : St) (ps : List Int) (n : Nat) (hn : n < S.safe.length) (hp : S.pend n = []) : (S.crash ps).newest n = S.newest n := by
  rcases crash_memS S ps n hn with h | h
  · rw [h]; unfold St.newest; rw [hp]; rfl
  · rw [hp] at h; cases h
theorem crash_len (S : St) (ps : List Int) : (S.crash ps).safe.length = S.safe.length := St.crashTo_len S ps _

/-- A block that is written and flushed, as far as the device goes. -/
def St.putF (S : St) (j : Nat) (L : List UInt8) : Int × St :=
  if S.well then (if (S.burn.wrote j L).well then (0, (S.burn.wrote j L).burn.flushed) else (2, (S.burn.wrote j L).burn)) else (2, S.burn)
def St.format (S : St) (k : Nat) (d : List UInt8) : Int × St := if S.reads then S.burn.burn.putF (S.elder k) (S.nextB k 0 d) else (2, S.halted)
def St.store (S : St) (k : Nat) (d : List UInt8) : Int × St :=
  if S.reads then (if (S.rcd k).laid = true then S.burn.burn.putF (S.elder k) (S.nextB k ((S.rcd k).count + 1) d) else (30, S.burn.burn)) else (2, S.halted)
def St.loadT (S : St) : St := if S.reads then S.burn.burn else S.halted

/-- The two blocks of a record are as they are flushed. -/
def St.calm (S : St) (k : Nat) : Prop := S.pend k = [] ∧ S.pend (k + 1) = []

/-- A device behind a change of a record that went well. -/
structure Put (S T : St) (k : Nat) (cnt : Int) (d : List UInt8) : Prop where
  fused : T.fused = S.fused
  up : T.down = false
  len : T.safe.length = S.safe.length
  pend : ∀ n, T.pend n = []
  rec_ : T.rcd k = ⟨true, ((S.rcd k).turn + 1) % 4294967296, cnt, d⟩
  other : ∀ n, n < S.safe.length → n ≠ k → n ≠ k + 1 → T.newest n = S.newest n

theorem St.elder_or (S : St) (k : Nat) : S.elder k = k ∨ S.elder k = k + 1 := by
  unfold St.elder
  rcases S.side_or k with h | h <;> rw [h] <;> simp
theorem St.elder_ne (S : St) (k : Nat) : S.elder k ≠ k + S.side k := by
  unfold St.elder
  rcases S.side_or k with h | h <;> rw [h] <;> omega

theorem putF_good {S : St} {k : Nat} (hk : k + 1 < S.safe.length) (hs : S.safe.length ≤ 512) (hd : S.down = false) (X : St) (hX : X = S.burn.burn) (hXd : X.down = false) {cnt : Int} {d : List UInt8} (hc0 : 0 ≤ cnt) (hc1 : cnt ≤ 9223372036854775807) (hl : d.length ≤ 400)
    (h1 : X.well) (h2 : (X.burn.wrote (S.elder k) (S.nextB k cnt d)).well) : X.putF (S.elder k) (S.nextB k cnt d) = (0, (X.burn.wrote (S.elder k) (S.nextB k cnt d)).burn.flushed) ∧ Put S (X.burn.wrote (S.elder k) (S.nextB k cnt d)).burn.flushed k cnt d := by
  refine ⟨by unfold St.putF; rw [if_pos h1, if_pos h2], ?_⟩
  subst hX
  have hn : ∀ n, n < S.safe.length → (S.burn.burn.burn.wrote (S.elder k) (S.nextB k cnt d)).burn.flushed.newest n = if n = S.elder k then S.nextB k cnt d else S.newest n := fun n hn => by
    refine (St.newest_flushed' (S.burn.burn.burn.wrote (S.elder k) (S.nextB k cnt d)).burn n hn).trans ?_
    refine (St.newest_wrote' S.burn.burn.burn (S.elder k) n (S.nextB k cnt d)).trans ?_
    rfl
  have he := S.elder_or k
  have hsd := S.side_or k
  refine ⟨rfl, ?_, St.flushed_len _, fun _ => rfl, ?_, fun n h1 h2 h3 => ?_⟩
  · show (S.burn.burn.burn.wrote (S.elder k) (S.nextB k cnt d)).burn.down = false
    rw [St.well_up h2]
    show S.burn.burn.burn.down = false
    rw [St.well_up h1, hXd]
  · refine St.rcd_put (by omega) hc0 hc1 hl ?_ ?_
    · rw [hn _ (by omega), if_pos rfl]
    · rw [hn _ (by omega), if_neg (fun h => S.elder_ne k h.symm)]
  · rw [hn n h1, if_neg (by omega)]

/-- A device that stopped while a record was changed: a crash keeps the old one or the new one. -/
theorem putF_stop {S : St} {k : Nat} (hk : k + 1 < S.safe.length) (hs : S.safe.length ≤ 512) (hcalm : S.calm k) {cnt : Int} {d : List UInt8} (hc0 : 0 ≤ cnt) (hc1 : cnt ≤ 9223372036854775807) (hl : d.length ≤ 400)
    (T : St) (hT : T = S.burn.burn.burn ∨ T = (S.burn.burn.burn.wrote (S.elder k) (S.nextB k cnt d)).burn) (ps : List Int) :
    (T.crash ps).rcd k = S.rcd k ∨ (T.crash ps).rcd k = ⟨true, ((S.rcd k).turn + 1) % 4294967296, cnt, d⟩ := by
  have he := S.elder_or k
  have hsd := S.side_or k
  rcases hT with rfl | rfl
  · left
    refine St.rcd_of ?_ ?_
    · exact crash_calm S.burn.burn.burn ps k (by show k < S.safe.length; omega) hcalm.1
    · exact crash_calm S.burn.burn.burn ps (k + 1) (by show k + 1 < S.safe.length; omega) hcalm.2
  · obtain ⟨T, hT⟩ : ∃ T, T = (S.burn.burn.burn.wrote (S.elder k) (S.nextB k cnt d)).burn := ⟨_, rfl⟩
    have hp : ∀ n, T.pend n = if n = S.elder k then S.pend (S.elder k) ++ [S.nextB k cnt d] else S.pend n := fun n => by rw [hT]; rfl
    have hsf : T.safe = S.safe := by rw [hT]; rfl
    rw [← hT]
    have hcl : ∀ n, n = k ∨ n = k + 1 → S.pend n = [] := fun n h => h.elim (fun e => e ▸ hcalm.1) (fun e => e ▸ hcalm.2)
    have hst : ∀ n, n = k ∨ n = k + 1 → n ≠ S.elder k → (T.crash ps).newest n = S.newest n := fun n h1 h2 => by
      rw [crash_calm _ _ _ (by rw [hsf]; omega) (by rw [hp, if_neg h2, hcl n h1])]
      unfold St.newest
      rw [hp, if_neg h2, hsf]
    have hel : (T.crash ps).newest (S.elder k) = S.newest (S.elder k) ∨ (T.crash ps).newest (S.elder k) = S.nextB k cnt d := by
      rcases crash_memS T ps (S.elder k) (by rw [hsf]; omega) with h | h
      · left; rw [h, hsf]; unfold St.newest; rw [hcl _ he]; rfl
      · right; rw [hp, if_pos rfl, hcl _ he] at h; simpa using h
    rcases hel with h | h
    · left
      refine St.rcd_of ?_ ?_
      · by_cases e : k = S.elder k
        · have h' := h; rw [← e] at h'; exact h'
        · exact hst k (.inl rfl) e
      · by_cases e : k + 1 = S.elder k
        · have h' := h; rw [← e] at h'; exact h'
        · exact hst (k + 1) (.inr rfl) e
    · right
      refine St.rcd_put (by omega) hc0 hc1 hl h ?_
      exact hst _ (by omega) (fun h => S.elder_ne k h.symm)
end Go.Proofs.Ytbgaomfoiooegaa
