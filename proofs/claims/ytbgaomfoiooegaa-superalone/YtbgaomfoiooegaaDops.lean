/-
  DERIVED. newest, kept, Read, Write, Flush where it stops, Fuse: over a device in memory.
-/
import Derived.Test.YtbgaomfoiooegaaDset
import Derived.Test.YtbgaomfoiooegaaDstop
namespace Go.Proofs.Ytbgaomfoiooegaa
open Go.RowKit Go.Maps
set_option linter.unusedVariables false

theorem Blks.form {w : World} {v : Value} {bs : List (List UInt8)} (h : Blks w v bs) : ∃ ao cap, v = .slice ao bs.length cap ∧ (bs ≠ [] → ∃ q, ao = some ⟨q, 0, none⟩) := by
  rcases h.2 with ⟨rfl, h0⟩ | ⟨q, cap, cur, rfl, _⟩
  · exact ⟨none, 0, by rw [h0], fun hne => absurd (List.eq_nil_of_length_eq_zero h0) hne⟩
  · exact ⟨_, cap, rfl, fun _ => ⟨q, rfl⟩⟩

theorem PendAt.lookA {w : World} {F : Nat → Prop} {m g n N : Nat} {pend : Nat → List (List UInt8)} {vf : Nat → Value} {D : DataW Value} (h : PendAt w F m g n N pend vf D) (k : Nat) (hk : k < n) (hn : n ≤ 512) (o : Obj) :
    (Instr.lookup 56 (.map (some m)) (.int .i64 k) false).run Try.prog (w.alloc o) = .ok (vf k) (w.alloc o) := look_of (h.own.alloc o) k (by omega) (h.at_ k hk)

/-- A block as it was written last. -/
def St.newest (S : St) (k : Nat) : List UInt8 := ((S.pend k).getLast?).getD ((S.safe)[k]?.getD [])
theorem St.newest_len {w : World} {b : Nat} {F : Nat → Prop} {N : Nat} {S : St} {g c m : Nat} {vf : Nat → Value} {D : DataW Value} (h : DevIn w b F N S g c m vf D) (k : Nat) (hk : k < S.safe.length) : (S.newest k).length = 512 := by
  unfold St.newest
  by_cases e : S.pend k = []
  · rw [e, List.getLast?_nil, Option.getD_none, List.getElem?_eq_getElem hk, Option.getD_some]
    exact h.wide _ (List.getElem_mem hk)
  · rw [List.getLast?_eq_some_getLast e, Option.getD_some]
    exact h.pend.wide k _ (List.getLast_mem e)

theorem newest_dev {w : World} {b : Nat} {F : Nat → Prop} {N : Nat} {S : St} {g c m : Nat} {vf : Nat → Value} {D : DataW Value} (h : DevIn w b F N S g c m vf D) (k : Nat) (hk : k < S.safe.length) (hN : N < 2000000) :
    Calls Try.prog 34 #[.pointer (some ⟨b, 0, none⟩), .int .i64 k] w fun e w' => e = .returned (.agg ((S.newest k).map bv).toArray) ∧ Below w.heap.size w w' := by
  have hl5 : ((S.newest k).map bv).length = 512 := by rw [List.length_map]; exact St.newest_len h k hk
  obtain ⟨ao, cap, hv, hne⟩ := Blks.form (h.pend.rows k)
  by_cases e : S.pend k = []
  · refine newest_old w k ao cap _ h.dev hk (fun o => ?_) ?_ hl5 (bv_one _)
    · rw [h.pend.lookA k hk h.n2 o, hv, e]; rfl
    · have he : S.newest k = S.safe[k] := by unfold St.newest; rw [e, List.getLast?_nil, Option.getD_none, List.getElem?_eq_getElem hk, Option.getD_some]
      rw [he]
      exact Blks.range h.wide h.safe k hk
  · obtain ⟨q, rfl⟩ := hne e
    have hpos : 0 < (S.pend k).length := List.length_pos_iff.2 e
    obtain ⟨j, hj⟩ : ∃ j, (S.pend k).length = j + 1 := ⟨(S.pend k).length - 1, by omega⟩
    have hr := h.pend.rows k
    rw [hv] at hr
    have hjl := h.pend.len k
    refine newest_new (g := 0) (n := 0) (c := 0) w k q j cap _ h.dev (by omega) (fun o => ?_) ?_ hl5 (bv_one _)
    · rw [h.pend.lookA k hk h.n2 o, hv, hj]
    · have he : S.newest k = (S.pend k)[j]'(by omega) := by
        unfold St.newest
        rw [List.getLast?_eq_some_getLast e, Option.getD_some, List.getLast_eq_getElem]
        simp [hj]
      rw [he]
      exact Blks.range (h.pend.wide k) hr j (by omega)

/-- What a crash keeps of a block. -/
def St.keptB (S : St) (k : Nat) (p : Int) : List UInt8 := if pickR p (S.pend k).length = 0 then (S.safe)[k]?.getD [] else ((S.pend k)[pickR p (S.pend k).length - 1]?).getD []
theorem pickR_lt (p : Int) (L : Nat) : pickR p L < L + 1 := Nat.mod_lt _ (by omega)
theorem St.keptB_len {w : World} {b : Nat} {F : Nat → Prop} {N : Nat} {S : St} {g c m : Nat} {vf : Nat → Value} {D : DataW Value} (h : DevIn w b F N S g c m vf D) (k : Nat) (hk : k < S.safe.length) (p : Int) : (S.keptB k p).length = 512 := by
  unfold St.keptB
  have hlt := pickR_lt p (S.pend k).length
  split
  · rw [List.getElem?_eq_getElem hk, Option.getD_some]
    exact h.wide _ (List.getElem_mem hk)
  · rw [List.getElem?_eq_getElem (by omega), Option.getD_some]
    exact h.pend.wide k _ (List.getElem_mem _)

theorem kept_dev {w : World} {b : Nat} {F : Nat → Prop} {N : Nat} {S : St} {g c m : Nat} {vf : Nat → Value} {D : DataW Value} (h : DevIn w b F N S g c m vf D) (k : Nat) (hk : k < S.safe.length) (p : Int) (p1 : -9223372036854775808 ≤ p) (p2 : p < 9223372036854775808) (hN : N < 2000000) :
    Calls Try.prog 31 #[.pointer (some ⟨b, 0, none⟩), .int .i64 k, .int .i64 p] w fun e w' => e = .returned (.agg ((S.keptB k p).map bv).toArray) ∧ Below w.heap.size w w' := by
  have hl5 : ((S.keptB k p).map bv).length = 512 := by rw [List.length_map]; exact St.keptB_len h k hk p
  obtain ⟨ao, cap, hv, hne⟩ := Blks.form (h.pend.rows k)
  have hlt := pickR_lt p (S.pend k).length
  have hjl := h.pend.len k
  by_cases e : pickR p (S.pend k).length = 0
  · refine kept_old w k p ao (S.pend k).length cap _ h.dev hk p1 p2 (by omega) (fun o => ?_) e ?_ hl5 (bv_one _)
    · rw [h.pend.lookA k hk h.n2 o, hv]
    · have he : S.keptB k p = S.safe[k] := by unfold St.keptB; rw [if_pos e, List.getElem?_eq_getElem hk, Option.getD_some]
      rw [he]
      exact Blks.range h.wide h.safe k hk
  · have e2 : S.pend k ≠ [] := fun e2 => by rw [e2] at hlt e; simp at hlt; exact e (by simpa using hlt)
    obtain ⟨q, rfl⟩ := hne e2
    obtain ⟨j, hj⟩ : ∃ j, pickR p (S.pend k).length = j + 1 := ⟨pickR p (S.pend k).length - 1, by omega⟩
    have hr := h.pend.rows k
    rw [hv] at hr
    refine kept_new w k p q (S.pend k).length cap j _ h.dev p1 p2 (by omega) (fun o => ?_) hj ?_ hl5 (bv_one _)
    · rw [h.pend.lookA k hk h.n2 o, hv]
    · have he : S.keptB k p = (S.pend k)[j]'(by omega) := by
        unfold St.keptB
        rw [if_neg e, hj, Nat.add_sub_cancel, List.getElem?_eq_getElem (by omega), Option.getD_some]
      rw [he]
      exact Blks.range (h.pend.wide k) hr j (by omega)

/-- Where a block can be reached. -/
theorem St.open_ok (S : St) (k : Nat) (hk : k < S.safe.length) (hd : S.down = false) : openE S.safe.length S.down k = 0 := by
  unfold openE; rw [hd, if_neg (by simp), if_pos (by omega)]

theorem Read_dev {w : World} {b : Nat} {F : Nat → Prop} {N : Nat} {S : St} (h : Dev w b F N S) (k : Nat) (hk : k < S.safe.length) (hd : S.down = false) (hB : burnE S.fused S.fuse = 0) (hN : N < 1000000) :
    Calls Try.prog 22 #[.pointer (some ⟨b, 0, none⟩), .int .i64 k] w fun e w' => ∃ q, e = .returned (.tuple #[.slice (some ⟨q, 0, none⟩) 512 512, .int .i64 0]) ∧ w.heap.size ≤ q ∧ w'.heap[q]? = some (.cells ((S.newest k).map bv).toArray 72 (0, 0)) ∧ Dev w' b F (N + 1) S.burn ∧ Kept F w w' := by
  obtain ⟨g, c, m, vf, D, h⟩ := h
  have hl5 : ((S.newest k).map bv).length = 512 := by rw [List.length_map]; exact St.newest_len h k hk
  refine (Read_ok k ((S.newest k).map bv) h.dev (S.open_ok k hk hd) hB h.f1 h.f2 h.o1 (by have := h.o2; omega) hl5 (bv_one _) (fun w1 o1 d1 => ?_)).mono ?_
  · exact newest_dev (h.burn o1 d1) k hk (by omega)
  · rintro e w' ⟨w1, q, rfl, o1, d1, b1, hq, hg⟩
    exact ⟨q, rfl, by rw [o1.size] at hq; exact hq, hg, ⟨g, c, m, vf, D, (h.burn o1 d1).frame fun j _ hj => b1.block j hj⟩, (Kept.of_only o1 h.fb).trans (Kept.of_below b1)⟩

theorem Read_dev_burnt {w : World} {b : Nat} {F : Nat → Prop} {N : Nat} {S : St} (h : Dev w b F N S) (k : Nat) (hk : k < S.safe.length) (hd : S.down = false) (hB : burnE S.fused S.fuse ≠ 0) (hN : N < 1000000) :
    Calls Try.prog 22 #[.pointer (some ⟨b, 0, none⟩), .int .i64 k] w fun e w' => e = .returned (.tuple #[.slice none 0 0, .int .i64 2]) ∧ Dev w' b F (N + 1) S.burn ∧ Kept F w w' := by
  obtain ⟨g, c, m, vf, D, h⟩ := h
  have h2 : burnE S.fused S.fuse = 2 := by unfold burnE at hB ⊢; split at hB <;> simp_all
  refine (Read_burnt k h.dev (S.open_ok k hk hd) hB h.f1 h.f2 h.o1 (by have := h.o2; omega)).mono ?_
  rintro e w' ⟨rfl, d1, o1⟩
  exact ⟨by rw [h2], ⟨g, c, m, vf, D, h.burn o1 d1⟩, Kept.of_only o1 h.fb⟩

theorem Read_dev_shut {w : World} {b : Nat} {F : Nat → Prop} {N : Nat} {S : St} (h : Dev w b F N S) (k : Int) (hE : openE S.safe.length S.down k ≠ 0) :
    Calls Try.prog 22 #[.pointer (some ⟨b, 0, none⟩), .int .i64 k] w fun e w' => e = .returned (.tuple #[.slice none 0 0, .int .i64 (openE S.safe.length S.down k)]) ∧ w = w' := by
  obtain ⟨g, c, m, vf, D, h⟩ := h
  exact Read_closed k h.dev hE

theorem Write_dev {w : World} {b : Nat} {F : Nat → Prop} {N : Nat} {S : St} (h : Dev w b F N S) (k : Nat) (L : List UInt8) (v : Value) (hk : k < S.safe.length) (hd : S.down = false) (hB : burnE S.fused S.fuse = 0)
    (hv : Sl w v L) (hL : L.length = 512) (hN : N < 1000000) (hF : ∀ j, w.heap.size ≤ j → F j) :
    Calls Try.prog 21 #[.pointer (some ⟨b, 0, none⟩), .int .i64 k, v] w fun e w' => e = .returned (.int .i64 0) ∧ Dev w' b F (N + 2) (S.burn.wrote k L) ∧ Kept F w w' := by
  obtain ⟨g, c, m, vf, D, h⟩ := h
  exact Write_in k L v h hk hd hB hv hL hN hF

theorem Write_dev_burnt {w : World} {b : Nat} {F : Nat → Prop} {N : Nat} {S : St} (h : Dev w b F N S) (k : Nat) (a' : Option Addr) (c' : Nat) (hk : k < S.safe.length) (hd : S.down = false) (hB : burnE S.fused S.fuse ≠ 0) (hN : N < 1000000) :
    Calls Try.prog 21 #[.pointer (some ⟨b, 0, none⟩), .int .i64 k, .slice a' 512 c'] w fun e w' => e = .returned (.int .i64 2) ∧ Dev w' b F (N + 1) S.burn ∧ Kept F w w' := by
  obtain ⟨g, c, m, vf, D, h⟩ := h
  have h2 : burnE S.fused S.fuse = 2 := by unfold burnE at hB ⊢; split at hB <;> simp_all
  refine (Write_burnt k a' c' h.dev (S.open_ok k hk hd) hB h.f1 h.f2 h.o1 (by have := h.o2; omega)).mono ?_
  rintro e w' ⟨rfl, d1, o1⟩
  exact ⟨by rw [h2], ⟨g, c, m, vf, D, h.burn o1 d1⟩, Kept.of_only o1 h.fb⟩

theorem Flush_dev_burnt {w : World} {b : Nat} {F : Nat → Prop} {N : Nat} {S : St} (h : Dev w b F N S) (hd : S.down = false) (hB : burnE S.fused S.fuse ≠ 0) (hN : N < 1000000) :
    Calls Try.prog 38 #[.pointer (some ⟨b, 0, none⟩)] w fun e w' => e = .returned (.int .i64 2) ∧ Dev w' b F (N + 1) S.burn ∧ Kept F w w' := by
  obtain ⟨g, c, m, vf, D, h⟩ := h
  have h2 : burnE S.fused S.fuse = 2 := by unfold burnE at hB ⊢; split at hB <;> simp_all
  have h3 := h.dev
  rw [hd] at h3
  refine (Flush_burnt h3 hB h.f1 h.f2 h.o1 (by have := h.o2; omega)).mono ?_
  rintro e w' ⟨rfl, d1, o1⟩
  exact ⟨by rw [h2], ⟨g, c, m, vf, D, h.burn o1 (by rw [hd]; exact d1)⟩, Kept.of_only o1 h.fb⟩

/-- A device with a fuse. -/
def St.fuseK (S : St) (k : Int) : St := if S.down then S else { S with fused := decide (0 ≤ k), fuse := max k 0 }
theorem Fuse_devS {w : World} {b : Nat} {F : Nat → Prop} {N : Nat} {S : St} (h : Dev w b F N S) (k : Int) (k1 : -9223372036854775808 ≤ k) (k2 : k < 9223372036854775808) :
    Calls Try.prog 15 #[.pointer (some ⟨b, 0, none⟩), .int .i64 k] w fun e w' => e = .returned (.int .i64 (if S.down then 2 else 0)) ∧ Dev w' b F N (S.fuseK k) ∧ Kept F w w' := by
  obtain ⟨g, c, m, vf, D, h⟩ := h
  refine (Fuse_dev k h.dev k1 k2).mono ?_
  rintro e w' ⟨rfl, d1, o1⟩
  refine ⟨rfl, ⟨g, c, m, vf, D, ?_⟩, Kept.of_only o1 h.fb⟩
  unfold St.fuseK
  cases hd : S.down
  · simp only [hd, Bool.false_eq_true, if_false] at d1 ⊢
    exact h.turn o1 (Nat.le_refl _) d1 rfl rfl (by show 0 ≤ max k 0; omega) (by show max k 0 < _; omega) h.o1 h.o2
  · simp only [hd, if_true] at d1 ⊢
    exact h.turn o1 (Nat.le_refl _) (by rw [hd]; exact d1) rfl rfl h.f1 h.f2 h.o1 h.o2
end Go.Proofs.Ytbgaomfoiooegaa
