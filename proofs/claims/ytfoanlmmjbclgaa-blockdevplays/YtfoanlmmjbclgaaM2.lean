/-
  DERIVED. Read.
-/
import Derived.Test.YtfoanlmmjbclgaaM1
import Derived.Test.YtfoanlmmjbclgaaRows
import Derived.OpenShut
import Derived.ShutString
import Derived.SizedLaws
import Derived.Deep.Slices
import Derived.Deep.Lists
import Derived.Deep.RegionLaw
import Derived.Deep.AppendLies
import Derived.Deep.QuietTactic
import Derived.BigQuiet
import Derived.BigRegion
namespace Go.Proofs.Ytfoanlmmjbclgaa
open Go.RowKit
set_option linter.unusedVariables false

section
variable {w : World} {b : Nat} {pm : Value} {fused : Bool} {fuse : Int} {down : Bool} {ops : Int} {a : Option Addr} {n c : Nat}

theorem Read_closed (k : Int) (h : DevAt w b (.slice a n c) pm fused fuse down ops) (hE : openE n down k ≠ 0) :
    Calls Try.prog 15 #[.pointer (some ⟨b, 0, none⟩), .int .i64 k] w fun e w' => e = .returned (.tuple #[.slice none 0 0, .int .i64 (openE n down k)]) ∧ w = w' := by
  have HD := hide h
  clear h
  have hne : (openE n down k != 0) = true := by rw [bne_iff_ne]; exact hE
  go_enter Try.func15, Try.ntmps15
  go_wp2_with (go_at_call 32; refine (open_dev k (unhide HD)).mono ?_; rintro e w' ⟨rfl, rfl⟩)
  go_ret2
  exact ⟨rfl, rfl⟩

theorem Read_burnt (k : Int) (h : DevAt w b (.slice a n c) pm fused fuse down ops) (hE : openE n down k = 0) (hB : burnE fused fuse ≠ 0) (f1 : 0 ≤ fuse) (f2 : fuse < 9223372036854775808) (o1 : 0 ≤ ops) (o2 : ops < 9223372036854775807) :
    Calls Try.prog 15 #[.pointer (some ⟨b, 0, none⟩), .int .i64 k] w fun e w' => e = .returned (.tuple #[.slice none 0 0, .int .i64 (burnE fused fuse)]) ∧ DevAt w' b (.slice a n c) pm fused (burnF fused fuse) (burnD fused fuse down) (burnO fused fuse ops) ∧ Only b w w' := by
  have HD := hide h
  clear h
  have hne : (burnE fused fuse != 0) = true := by rw [bne_iff_ne]; exact hB
  go_enter Try.func15, Try.ntmps15
  go_wp2_with (first | (go_at_call 32; refine (open_dev k (unhide HD)).mono ?_; rintro e w' ⟨rfl, rfl⟩; rw [hE]) | fail)
  refine (burn_dev (unhide HD) f1 f2 o1 o2).mono ?_
  rintro e w1 ⟨rfl, d1, o1⟩
  have H1 := hide (And.intro d1 o1)
  clear d1 o1
  go_wp2
  go_ret2
  exact ⟨rfl, unhide H1⟩

theorem Read_ok (k : Int) (cs : List Value) (h : DevAt w b (.slice a n c) pm fused fuse down ops) (hE : openE n down k = 0) (hB : burnE fused fuse = 0) (f1 : 0 ≤ fuse) (f2 : fuse < 9223372036854775808) (o1 : 0 ≤ ops) (o2 : ops < 9223372036854775807)
    (hc : cs.length = 512) (h1 : ∀ v ∈ cs, v.oneCell' = true)
    (hnew : ∀ w1, Only b w w1 → DevAt w1 b (.slice a n c) pm fused (burnF fused fuse) (burnD fused fuse down) (burnO fused fuse ops) → Calls Try.prog 34 #[.pointer (some ⟨b, 0, none⟩), .int .i64 k] w1 fun e w' => e = .returned (.agg cs.toArray) ∧ Below w1.heap.size w1 w') :
    Calls Try.prog 15 #[.pointer (some ⟨b, 0, none⟩), .int .i64 k] w fun e w' => ∃ w1 g, e = .returned (.tuple #[.slice (some ⟨g, 0, none⟩) 512 512, .int .i64 0]) ∧ Only b w w1 ∧ DevAt w1 b (.slice a n c) pm fused (burnF fused fuse) (burnD fused fuse down) (burnO fused fuse ops) ∧ Below w1.heap.size w1 w' ∧ w1.heap.size ≤ g ∧ w'.heap[g]? = some (.cells cs.toArray 60 (0, 0)) := by
  have HD := hide h
  have HN := hide hnew
  clear h hnew
  have HS : Hid (cs.toArray.size = 512) := hide (by simpa using hc)
  go_enter Try.func15, Try.ntmps15
  go_wp2_with (first | (go_at_call 32; refine (open_dev k (unhide HD)).mono ?_; rintro e w' ⟨rfl, rfl⟩; rw [hE]) | fail)
  refine (burn_dev (unhide HD) f1 f2 o1 o2).mono ?_
  rintro e w1 ⟨rfl, d1, o1⟩
  rw [hB]
  have HN1 := hide (unhide HN w1 o1 d1)
  have H1 := hide (And.intro o1 d1)
  clear d1 o1
  go_wp2_with fail
  refine (unhide HN1).mono ?_
  rintro e w2 ⟨rfl, b2⟩
  have H0 := hide (heap_alloc_self w2 (.cells (noughts 512) 60))
  have HB := hide (b2.trans ((Below.refl w1.heap.size w2).alloc b2.size (.cells (noughts 512) 60)))
  have s2 := b2.size
  clear b2
  go_wp2_with (first | (refine wpList_alloc_block rfl rfl ?_) | (refine wpList_store_row rfl 60 (.tmp 8) (.tmp 22) rfl w2.heap.size cs.toArray rfl rfl 60 (noughts 512) (unhide H0) (by rw [unhide HS]; exact sizeBlock) (by rw [unhide HS, size_noughts]) (all_oneCell_toArray h1) ?_))
  go_ret2
  exact ⟨w1, w2.heap.size, rfl, (unhide H1).1, (unhide H1).2, (unhide HB).trans (below_setRowD _ _ _ _ s2), s2, setRow_heap _ _ _ _ _ _ (unhide H0)⟩
end
end Go.Proofs.Ytfoanlmmjbclgaa

/-
  DERIVED. Write and Flush where they stop.
-/
namespace Go.Proofs.Ytfoanlmmjbclgaa
open Go.RowKit
set_option linter.unusedVariables false

section
variable {w : World} {b : Nat} {fl pm : Value} {fused : Bool} {fuse : Int} {down : Bool} {ops : Int} {a : Option Addr} {n c : Nat}

theorem Write_closed (k : Int) (v : Value) (h : DevAt w b (.slice a n c) pm fused fuse down ops) (hE : openE n down k ≠ 0) :
    Calls Try.prog 13 #[.pointer (some ⟨b, 0, none⟩), .int .i64 k, v] w fun e w' => e = .returned (.int .i64 (openE n down k)) ∧ w = w' := by
  have HD := hide h
  clear h
  have hne : (openE n down k != 0) = true := by rw [bne_iff_ne]; exact hE
  go_enter Try.func13, Try.ntmps13
  go_wp2_with (go_at_call 32; refine (open_dev k (unhide HD)).mono ?_; rintro e w' ⟨rfl, rfl⟩)
  go_ret
  exact ⟨rfl, rfl⟩

theorem Write_sized (k : Int) (a' : Option Addr) (n' c' : Nat) (h : DevAt w b (.slice a n c) pm fused fuse down ops) (hE : openE n down k = 0) (hn : n' ≠ 512) :
    Calls Try.prog 13 #[.pointer (some ⟨b, 0, none⟩), .int .i64 k, .slice a' n' c'] w fun e w' => e = .returned (.int .i64 21) ∧ w = w' := by
  have HD := hide h
  clear h
  have hne : ((n' : Int) != 512) = true := by rw [bne_iff_ne]; omega
  go_enter Try.func13, Try.ntmps13
  go_wp2_with (go_at_call 32; refine (open_dev k (unhide HD)).mono ?_; rintro e w' ⟨rfl, rfl⟩; rw [hE])
  go_ret
  exact ⟨rfl, rfl⟩

theorem Write_burnt (k : Int) (a' : Option Addr) (c' : Nat) (h : DevAt w b (.slice a n c) pm fused fuse down ops) (hE : openE n down k = 0) (hB : burnE fused fuse ≠ 0) (f1 : 0 ≤ fuse) (f2 : fuse < 9223372036854775808) (o1 : 0 ≤ ops) (o2 : ops < 9223372036854775807) :
    Calls Try.prog 13 #[.pointer (some ⟨b, 0, none⟩), .int .i64 k, .slice a' 512 c'] w fun e w' => e = .returned (.int .i64 (burnE fused fuse)) ∧ DevAt w' b (.slice a n c) pm fused (burnF fused fuse) (burnD fused fuse down) (burnO fused fuse ops) ∧ Only b w w' := by
  have HD := hide h
  clear h
  have hne : (burnE fused fuse != 0) = true := by rw [bne_iff_ne]; exact hB
  go_enter Try.func13, Try.ntmps13
  go_wp2_with (first | (go_at_call 32; refine (open_dev k (unhide HD)).mono ?_; rintro e w' ⟨rfl, rfl⟩; rw [hE]) | fail)
  refine (burn_dev (unhide HD) f1 f2 o1 o2).mono ?_
  rintro e w1 ⟨rfl, d1, o1⟩
  have H1 := hide (And.intro d1 o1)
  clear d1 o1
  go_wp2
  go_ret
  exact ⟨rfl, unhide H1⟩

theorem Flush_down (h : DevAt w b fl pm fused fuse true ops) :
    Calls Try.prog 22 #[.pointer (some ⟨b, 0, none⟩)] w fun e w' => e = .returned (.int .i64 2) ∧ w = w' := by
  have HD := hide h
  clear h
  go_enter Try.func22, Try.ntmps22
  go_wp2_with (go_at_call 38; refine (up_dev (unhide HD)).mono ?_; rintro e w' ⟨rfl, rfl⟩)
  go_ret
  exact ⟨rfl, rfl⟩

theorem Flush_burnt (h : DevAt w b fl pm fused fuse false ops) (hB : burnE fused fuse ≠ 0) (f1 : 0 ≤ fuse) (f2 : fuse < 9223372036854775808) (o1 : 0 ≤ ops) (o2 : ops < 9223372036854775807) :
    Calls Try.prog 22 #[.pointer (some ⟨b, 0, none⟩)] w fun e w' => e = .returned (.int .i64 (burnE fused fuse)) ∧ DevAt w' b fl pm fused (burnF fused fuse) (burnD fused fuse false) (burnO fused fuse ops) ∧ Only b w w' := by
  have HD := hide h
  clear h
  have hne : (burnE fused fuse != 0) = true := by rw [bne_iff_ne]; exact hB
  go_enter Try.func22, Try.ntmps22
  go_wp2_with (first | (go_at_call 38; refine (up_dev (unhide HD)).mono ?_; rintro e w' ⟨rfl, rfl⟩) | fail)
  refine (burn_dev (unhide HD) f1 f2 o1 o2).mono ?_
  rintro e w1 ⟨rfl, d1, o1⟩
  have H1 := hide (And.intro d1 o1)
  clear d1 o1
  go_wp2
  go_ret
  exact ⟨rfl, unhide H1⟩
end
end Go.Proofs.Ytfoanlmmjbclgaa

/-
  DERIVED. newest, kept, Read, Write, Flush where it stops, Fuse: over a device in memory.
-/
namespace Go.Proofs.Ytfoanlmmjbclgaa
open Go.RowKit Go.Maps
set_option linter.unusedVariables false

theorem Blks.form {w : World} {v : Value} {bs : List (List UInt8)} (h : Blks w v bs) : ∃ ao cap, v = .slice ao bs.length cap ∧ (bs ≠ [] → ∃ q, ao = some ⟨q, 0, none⟩) := by
  rcases h.2 with ⟨rfl, h0⟩ | ⟨q, cap, cur, rfl, _⟩
  · exact ⟨none, 0, by rw [h0], fun hne => absurd (List.eq_nil_of_length_eq_zero h0) hne⟩
  · exact ⟨_, cap, rfl, fun _ => ⟨q, rfl⟩⟩

theorem PendAt.lookA {w : World} {F : Nat → Prop} {m g n N : Nat} {pend : Nat → List (List UInt8)} {vf : Nat → Value} {D : DataW Value} (h : PendAt w F m g n N pend vf D) (k : Nat) (hk : k < n) (hn : n ≤ 512) (o : Obj) :
    (Instr.lookup 54 (.map (some m)) (.int .i64 k) false).run Try.prog (w.alloc o) = .ok (vf k) (w.alloc o) := look_of (h.own.alloc o) k (by omega) (h.at_ k hk)

/-- A block as it was written last. -/
def St.newest (S : St) (k : Nat) : List UInt8 := ((S.pend k).getLast?).getD ((S.safe)[k]?.getD [])
theorem St.newest_len {w : World} {b : Nat} {F : Nat → Prop} {N : Nat} {S : St} {g c m : Nat} {vf : Nat → Value} {D : DataW Value} (h : DevIn w b F N S g c m vf D) (k : Nat) (hk : k < S.safe.length) : (S.newest k).length = 512 := by
  unfold St.newest
  by_cases e : S.pend k = []
  · rw [e, List.getLast?_nil, Option.getD_none, List.getElem?_eq_getElem hk, Option.getD_some]
    exact h.wide _ (List.getElem_mem hk)
  · rw [List.getLast?_eq_some_getLast e, Option.getD_some]
    exact h.pend.wide k _ (List.getLast_mem e)

theorem newest_dev {w : World} {b : Nat} {F : Nat → Prop} {N : Nat} {S : St} {g c m : Nat} {vf : Nat → Value} {D : DataW Value} (h : DevIn w b F N S g c m vf D) (k : Nat) (hk : k < S.safe.length) (hN : N < 2000000) :
    Calls Try.prog 34 #[.pointer (some ⟨b, 0, none⟩), .int .i64 k] w fun e w' => e = .returned (.agg ((S.newest k).map bv).toArray) ∧ Below w.heap.size w w' := by
  have hl5 : ((S.newest k).map bv).length = 512 := by rw [List.length_map]; exact St.newest_len h k hk
  obtain ⟨ao, cap, hv, hne⟩ := Blks.form (h.pend.rows k)
  by_cases e : S.pend k = []
  · refine newest_old w k ao cap _ h.dev hk (fun o => ?_) ?_ hl5 (bv_one _)
    · rw [h.pend.lookA k hk h.n2 o, hv, e]; rfl
    · have he : S.newest k = S.safe[k] := by unfold St.newest; rw [e, List.getLast?_nil, Option.getD_none, List.getElem?_eq_getElem hk, Option.getD_some]
      rw [he]
      exact Blks.range h.wide h.safe k hk
  · obtain ⟨q, rfl⟩ := hne e
    have hpos : 0 < (S.pend k).length := List.length_pos_iff.2 e
    obtain ⟨j, hj⟩ : ∃ j, (S.pend k).length = j + 1 := ⟨(S.pend k).length - 1, by omega⟩
    have hr := h.pend.rows k
    rw [hv] at hr
    have hjl := h.pend.len k
    refine newest_new (g := 0) (n := 0) (c := 0) w k q j cap _ h.dev (by omega) (fun o => ?_) ?_ hl5 (bv_one _)
    · rw [h.pend.lookA k hk h.n2 o, hv, hj]
    · have he : S.newest k = (S.pend k)[j]'(by omega) := by
        unfold St.newest
        rw [List.getLast?_eq_some_getLast e, Option.getD_some, List.getLast_eq_getElem]
        simp [hj]
      rw [he]
      exact Blks.range (h.pend.wide k) hr j (by omega)

/-- What a crash keeps of a block. -/
def St.keptB (S : St) (k : Nat) (p : Int) : List UInt8 := if pickR p (S.pend k).length = 0 then (S.safe)[k]?.getD [] else ((S.pend k)[pickR p (S.pend k).length - 1]?).getD []
theorem pickR_lt (p : Int) (L : Nat) : pickR p L < L + 1 := Nat.mod_lt _ (by omega)
theorem St.keptB_len {w : World} {b : Nat} {F : Nat → Prop} {N : Nat} {S : St} {g c m : Nat} {vf : Nat → Value} {D : DataW Value} (h : DevIn w b F N S g c m vf D) (k : Nat) (hk : k < S.safe.length) (p : Int) : (S.keptB k p).length = 512 := by
  unfold St.keptB
  have hlt := pickR_lt p (S.pend k).length
  split
  · rw [List.getElem?_eq_getElem hk, Option.getD_some]
    exact h.wide _ (List.getElem_mem hk)
  · rw [List.getElem?_eq_getElem (by omega), Option.getD_some]
    exact h.pend.wide k _ (List.getElem_mem _)

theorem kept_dev {w : World} {b : Nat} {F : Nat → Prop} {N : Nat} {S : St} {g c m : Nat} {vf : Nat → Value} {D : DataW Value} (h : DevIn w b F N S g c m vf D) (k : Nat) (hk : k < S.safe.length) (p : Int) (p1 : -9223372036854775808 ≤ p) (p2 : p < 9223372036854775808) (hN : N < 2000000) :
    Calls Try.prog 30 #[.pointer (some ⟨b, 0, none⟩), .int .i64 k, .int .i64 p] w fun e w' => e = .returned (.agg ((S.keptB k p).map bv).toArray) ∧ Below w.heap.size w w' := by
  have hl5 : ((S.keptB k p).map bv).length = 512 := by rw [List.length_map]; exact St.keptB_len h k hk p
  obtain ⟨ao, cap, hv, hne⟩ := Blks.form (h.pend.rows k)
  have hlt := pickR_lt p (S.pend k).length
  have hjl := h.pend.len k
  by_cases e : pickR p (S.pend k).length = 0
  · refine kept_old w k p ao (S.pend k).length cap _ h.dev hk p1 p2 (by omega) (fun o => ?_) e ?_ hl5 (bv_one _)
    · rw [h.pend.lookA k hk h.n2 o, hv]
    · have he : S.keptB k p = S.safe[k] := by unfold St.keptB; rw [if_pos e, List.getElem?_eq_getElem hk, Option.getD_some]
      rw [he]
      exact Blks.range h.wide h.safe k hk
  · have e2 : S.pend k ≠ [] := fun e2 => by rw [e2] at hlt e; simp at hlt; exact e (by simpa using hlt)
    obtain ⟨q, rfl⟩ := hne e2
    obtain ⟨j, hj⟩ : ∃ j, pickR p (S.pend k).length = j + 1 := ⟨pickR p (S.pend k).length - 1, by omega⟩
    have hr := h.pend.rows k
    rw [hv] at hr
    refine kept_new w k p q (S.pend k).length cap j _ h.dev p1 p2 (by omega) (fun o => ?_) hj ?_ hl5 (bv_one _)
    · rw [h.pend.lookA k hk h.n2 o, hv]
    · have he : S.keptB k p = (S.pend k)[j]'(by omega) := by
        unfold St.keptB
        rw [if_neg e, hj, Nat.add_sub_cancel, List.getElem?_eq_getElem (by omega), Option.getD_some]
      rw [he]
      exact Blks.range (h.pend.wide k) hr j (by omega)

/-- Where a block can be reached. -/
theorem St.open_ok (S : St) (k : Nat) (hk : k < S.safe.length) (hd : S.down = false) : openE S.safe.length S.down k = 0 := by
  unfold openE; rw [hd, if_neg (by simp), if_pos (by omega)]

theorem Read_dev {w : World} {b : Nat} {F : Nat → Prop} {N : Nat} {S : St} (h : Dev w b F N S) (k : Nat) (hk : k < S.safe.length) (hd : S.down = false) (hB : burnE S.fused S.fuse = 0) (hN : N < 1000000) :
    Calls Try.prog 15 #[.pointer (some ⟨b, 0, none⟩), .int .i64 k] w fun e w' => ∃ q, e = .returned (.tuple #[.slice (some ⟨q, 0, none⟩) 512 512, .int .i64 0]) ∧ w.heap.size ≤ q ∧ w'.heap[q]? = some (.cells ((S.newest k).map bv).toArray 60 (0, 0)) ∧ Dev w' b F (N + 1) S.burn ∧ Kept F w w' := by
  obtain ⟨g, c, m, vf, D, h⟩ := h
  have hl5 : ((S.newest k).map bv).length = 512 := by rw [List.length_map]; exact St.newest_len h k hk
  refine (Read_ok k ((S.newest k).map bv) h.dev (S.open_ok k hk hd) hB h.f1 h.f2 h.o1 (by have := h.o2; omega) hl5 (bv_one _) (fun w1 o1 d1 => ?_)).mono ?_
  · exact newest_dev (h.burn o1 d1) k hk (by omega)
  · rintro e w' ⟨w1, q, rfl, o1, d1, b1, hq, hg⟩
    exact ⟨q, rfl, by rw [o1.size] at hq; exact hq, hg, ⟨g, c, m, vf, D, (h.burn o1 d1).frame fun j _ hj => b1.block j hj⟩, (Kept.of_only o1 h.fb).trans (Kept.of_below b1)⟩

theorem Read_dev_burnt {w : World} {b : Nat} {F : Nat → Prop} {N : Nat} {S : St} (h : Dev w b F N S) (k : Nat) (hk : k < S.safe.length) (hd : S.down = false) (hB : burnE S.fused S.fuse ≠ 0) (hN : N < 1000000) :
    Calls Try.prog 15 #[.pointer (some ⟨b, 0, none⟩), .int .i64 k] w fun e w' => e = .returned (.tuple #[.slice none 0 0, .int .i64 2]) ∧ Dev w' b F (N + 1) S.burn ∧ Kept F w w' := by
  obtain ⟨g, c, m, vf, D, h⟩ := h
  have h2 : burnE S.fused S.fuse = 2 := by unfold burnE at hB ⊢; split at hB <;> simp_all
  refine (Read_burnt k h.dev (S.open_ok k hk hd) hB h.f1 h.f2 h.o1 (by have := h.o2; omega)).mono ?_
  rintro e w' ⟨rfl, d1, o1⟩
  exact ⟨by rw [h2], ⟨g, c, m, vf, D, h.burn o1 d1⟩, Kept.of_only o1 h.fb⟩

theorem Read_dev_shut {w : World} {b : Nat} {F : Nat → Prop} {N : Nat} {S : St} (h : Dev w b F N S) (k : Int) (hE : openE S.safe.length S.down k ≠ 0) :
    Calls Try.prog 15 #[.pointer (some ⟨b, 0, none⟩), .int .i64 k] w fun e w' => e = .returned (.tuple #[.slice none 0 0, .int .i64 (openE S.safe.length S.down k)]) ∧ w = w' := by
  obtain ⟨g, c, m, vf, D, h⟩ := h
  exact Read_closed k h.dev hE

theorem Write_dev {w : World} {b : Nat} {F : Nat → Prop} {N : Nat} {S : St} (h : Dev w b F N S) (k : Nat) (L : List UInt8) (v : Value) (hk : k < S.safe.length) (hd : S.down = false) (hB : burnE S.fused S.fuse = 0)
    (hv : Sl w v L) (hL : L.length = 512) (hN : N < 1000000) (hF : ∀ j, w.heap.size ≤ j → F j) :
    Calls Try.prog 13 #[.pointer (some ⟨b, 0, none⟩), .int .i64 k, v] w fun e w' => e = .returned (.int .i64 0) ∧ Dev w' b F (N + 2) (S.burn.wrote k L) ∧ Kept F w w' := by
  obtain ⟨g, c, m, vf, D, h⟩ := h
  exact Write_in k L v h hk hd hB hv hL hN hF

theorem Write_dev_burnt {w : World} {b : Nat} {F : Nat → Prop} {N : Nat} {S : St} (h : Dev w b F N S) (k : Nat) (a' : Option Addr) (c' : Nat) (hk : k < S.safe.length) (hd : S.down = false) (hB : burnE S.fused S.fuse ≠ 0) (hN : N < 1000000) :
    Calls Try.prog 13 #[.pointer (some ⟨b, 0, none⟩), .int .i64 k, .slice a' 512 c'] w fun e w' => e = .returned (.int .i64 2) ∧ Dev w' b F (N + 1) S.burn ∧ Kept F w w' := by
  obtain ⟨g, c, m, vf, D, h⟩ := h
  have h2 : burnE S.fused S.fuse = 2 := by unfold burnE at hB ⊢; split at hB <;> simp_all
  refine (Write_burnt k a' c' h.dev (S.open_ok k hk hd) hB h.f1 h.f2 h.o1 (by have := h.o2; omega)).mono ?_
  rintro e w' ⟨rfl, d1, o1⟩
  exact ⟨by rw [h2], ⟨g, c, m, vf, D, h.burn o1 d1⟩, Kept.of_only o1 h.fb⟩

theorem Flush_dev_burnt {w : World} {b : Nat} {F : Nat → Prop} {N : Nat} {S : St} (h : Dev w b F N S) (hd : S.down = false) (hB : burnE S.fused S.fuse ≠ 0) (hN : N < 1000000) :
    Calls Try.prog 22 #[.pointer (some ⟨b, 0, none⟩)] w fun e w' => e = .returned (.int .i64 2) ∧ Dev w' b F (N + 1) S.burn ∧ Kept F w w' := by
  obtain ⟨g, c, m, vf, D, h⟩ := h
  have h2 : burnE S.fused S.fuse = 2 := by unfold burnE at hB ⊢; split at hB <;> simp_all
  have h3 := h.dev
  rw [hd] at h3
  refine (Flush_burnt h3 hB h.f1 h.f2 h.o1 (by have := h.o2; omega)).mono ?_
  rintro e w' ⟨rfl, d1, o1⟩
  exact ⟨by rw [h2], ⟨g, c, m, vf, D, h.burn o1 (by rw [hd]; exact d1)⟩, Kept.of_only o1 h.fb⟩

/-- A device with a fuse. -/
def St.fuseK (S : St) (k : Int) : St := if S.down then S else { S with fused := decide (0 ≤ k), fuse := max k 0 }
theorem Fuse_devS {w : World} {b : Nat} {F : Nat → Prop} {N : Nat} {S : St} (h : Dev w b F N S) (k : Int) (k1 : -9223372036854775808 ≤ k) (k2 : k < 9223372036854775808) :
    Calls Try.prog 24 #[.pointer (some ⟨b, 0, none⟩), .int .i64 k] w fun e w' => e = .returned (.int .i64 (if S.down then 2 else 0)) ∧ Dev w' b F N (S.fuseK k) ∧ Kept F w w' := by
  obtain ⟨g, c, m, vf, D, h⟩ := h
  refine (Fuse_dev k h.dev k1 k2).mono ?_
  rintro e w' ⟨rfl, d1, o1⟩
  refine ⟨rfl, ⟨g, c, m, vf, D, ?_⟩, Kept.of_only o1 h.fb⟩
  unfold St.fuseK
  cases hd : S.down
  · simp only [hd, Bool.false_eq_true, if_false] at d1 ⊢
    exact h.turn o1 (Nat.le_refl _) d1 rfl rfl (by show 0 ≤ max k 0; omega) (by show max k 0 < _; omega) h.o1 h.o2
  · simp only [hd, if_true] at d1 ⊢
    exact h.turn o1 (Nat.le_refl _) (by rw [hd]; exact d1) rfl rfl h.f1 h.f2 h.o1 h.o2
end Go.Proofs.Ytfoanlmmjbclgaa

/-
  DERIVED. Crash.
-/
namespace Go.Proofs.Ytfoanlmmjbclgaa
open Go.RowKit Go.Maps
set_option linter.unusedVariables false

/-- A slice of numbers. -/
def Ints (w : World) (v : Value) (l : List Int) : Prop :=
  ∃ ao cap, v = .slice ao l.length cap ∧ l.length ≤ 9223372036854775807 ∧ (∀ x ∈ l, -9223372036854775808 ≤ x ∧ x < 9223372036854775808) ∧ (l ≠ [] → ∃ pb off, ao = some ⟨pb, off, none⟩ ∧ pb < w.heap.size ∧ ∀ i, (h : i < l.length) → w.cell? ⟨pb, off + i, none⟩ = some (.int .i64 l[i]))

theorem idx_ints (ao : Option Addr) (n cap pb off j : Nat) (h : ao = some ⟨pb, off, none⟩) (hj : j < n) (W : World) : (Instr.indexAt 35 (.slice ao n cap) (.int .i64 (j : Nat))).run Try.prog W = .ok (.pointer (some ⟨pb, off + j, none⟩)) W := by
  subst h
  have hu : Try.prog.underlying 35 = some (.slice (Try.prog.elem 35)) := by kernel_rfl
  rw [run_indexAt_slice (h := hu), if_pos (by omega)]
  have e : Try.prog.elem 35 = 3 := by kernel_rfl
  have e2 : (sizeOf 3).run Try.prog W = .ok 1 W := by kernel_rfl
  rw [e, e2, Result.andThen_ok, Nat.mul_one, Int.toNat_natCast, addr_add]

theorem DevIn.setSafe {w : World} {b : Nat} {F : Nat → Prop} {N : Nat} {S : St} {g c m : Nat} {vf : Nat → Value} {D : DataW Value} (h : DevIn w b F N S g c m vf D) (k : Nat) (hk : k < S.safe.length) (L : List UInt8) (hL : L.length = 512) :
    DevIn (w.setCells g (k * 512) (L.map bv)) b F N { S with safe := S.safe.set k L } g c m vf D := by
  obtain ⟨n1, n2, n3⟩ := h.ne_map
  have hg := grown_setCells g (L.map bv) (k * 512) w
  have hsl : (S.safe.set k L).length = S.safe.length := List.length_set
  exact { dev := by
            show DevAt _ b (.slice _ (S.safe.set k L).length c) _ _ _ _ _
            rw [hsl]
            exact (hg.block b h.dev.lt (fun e => n3 (Option.some.inj e).symm)).trans h.dev
          safe := by
            show Blks _ (.slice _ (S.safe.set k L).length c) (S.safe.set k L)
            rw [hsl]
            exact Blks.set h.safe h.wide k hk L hL
          wide := h.wide.set hL k
          pend := by
            show PendAt _ F m g (S.safe.set k L).length N S.pend vf D
            rw [hsl]
            exact h.pend.frame' (hg.block m h.pend.own.lt (fun e => n2 (Option.some.inj e).symm)) fun j q hq hlt => hg.block q hlt fun e => (h.pend.foot j q hq).2 (Option.some.inj e)
          fb := h.fb, fg := h.fg, fm := h.fm, f1 := h.f1, f2 := h.f2, o1 := h.o1, o2 := h.o2
          n1 := by show 64 ≤ (S.safe.set k L).length; rw [hsl]; exact h.n1
          n2 := by show (S.safe.set k L).length ≤ 512; rw [hsl]; exact h.n2 }

def pickAt (ps : List Int) (i : Nat) : Int := (ps[i]?).getD 0
/-- The blocks with writes. -/
def St.keys (S : St) : List Nat := pk S.safe.length S.pend
/-- What is flushed, so far in a crash. -/
def St.crashTo (S : St) (ps : List Int) : Nat → List (List UInt8)
  | 0 => S.safe
  | i + 1 => (St.crashTo S ps i).set ((S.keys[i]?).getD 0) (St.keptB { S with safe := St.crashTo S ps i } ((S.keys[i]?).getD 0) (pickAt ps i))
theorem St.crashTo_len (S : St) (ps : List Int) : ∀ i, (S.crashTo ps i).length = S.safe.length
  | 0 => rfl
  | i + 1 => by rw [St.crashTo, List.length_set, St.crashTo_len S ps i]
def St.crashAt (S : St) (ps : List Int) (i : Nat) : St := { S with safe := S.crashTo ps i }
/-- A device behind a crash. -/
def St.crash (S : St) (ps : List Int) : St := { safe := S.crashTo ps S.keys.length, pend := fun _ => [], fused := false, fuse := 0, down := false, ops := S.ops }

theorem mem_keys {S : St} {k : Nat} (h : k ∈ S.keys) : k < S.safe.length := (mem_pk.1 h).1

/-- The device behind the clearing, its cells set. -/
theorem DevIn.cleared {w w' : World} {b : Nat} {F : Nat → Prop} {N : Nat} {S : St} {g c m : Nat} {vf : Nat → Value} {D : DataW Value} (h : DevIn w b F N S g c m vf D) (hc : w'.ownsMap Try.prog 3 rawE m 0 (.map [])) (hg : w.grownBy w' (some m)) :
    DevIn w' b F N { S with pend := fun _ => [] } g c m (fun _ => nilS) (.map []) := by
  obtain ⟨n1, n2, n3⟩ := h.ne_map
  obtain ⟨cur, hcur⟩ := Blks.mark h.safe rfl
  exact { h with
    dev := (hg.block b h.dev.lt (fun e => n1 (Option.some.inj e))).trans h.dev
    safe := Blks.frame h.safe fun q hq hlt => by cases hq; exact hg.block g hlt (fun e => n2 (Option.some.inj e))
    pend := h.pend.cleared hc }

theorem Pending_form {w : World} {b : Nat} {F : Nat → Prop} {N : Nat} {S : St} {g c m : Nat} {vf : Nat → Value} {D : DataW Value} (h : DevIn w b F N S g c m vf D) (hN : N < 1000000) :
    Calls Try.prog 16 #[.pointer (some ⟨b, 0, none⟩)] w fun e w' => ∃ ao cap, e = .returned (.slice ao S.keys.length cap) ∧ (∀ i, (hi : i < S.keys.length) → ∃ q, ao = some ⟨q, 0, none⟩ ∧ w.heap.size ≤ q ∧ q < w'.heap.size ∧ w'.cell? ⟨q, 0 + i, none⟩ = some (.int .i64 (S.keys[i] : Nat))) ∧ Below w.heap.size w w' := by
  refine (Pending_dev ⟨g, c, m, vf, D, h⟩ hN).mono ?_
  rintro e w' ⟨v, rfl, hrow, hb⟩
  rcases hrow.2 with ⟨rfl, h0⟩ | ⟨q, cap, cur, rfl, hq, hcur, _⟩
  · exact ⟨none, 0, by show _ = Ending.returned (.slice none (pk S.safe.length S.pend).length 0); rw [h0], fun i hi => by have : i < (pk S.safe.length S.pend).length := hi; omega, hb⟩
  · refine ⟨_, cap, rfl, fun i hi => ⟨q, rfl, hq, lt_of_block hcur, ?_⟩, hb⟩
    have := hrow.cells (g := q) rfl i (.int .i64 (S.keys[i] : Nat)) (by rw [List.getElem?_map]; show Option.map _ (S.keys[i]?) = _; rw [List.getElem?_eq_getElem hi]; rfl)
    rw [addr_add] at this
    exact this

set_option maxRecDepth 100000 in
set_option maxHeartbeats 3200000 in
theorem Crash_in {w : World} {b : Nat} {F : Nat → Prop} {N : Nat} {S : St} {g c m : Nat} {vf : Nat → Value} {D : DataW Value} (h : DevIn w b F N S g c m vf D) (hN : N < 1000000) (ps : List Int) (v : Value) (hv : Ints w v ps) (hvo : ps ≠ [] → ∀ pb, v.ownBlock = some pb → ¬ F pb) :
    Calls Try.prog 11 #[.pointer (some ⟨b, 0, none⟩), v] w fun e w' => e = .returned (.tuple #[]) ∧ Dev w' b F N (S.crash ps) ∧ Kept F w w' := by
  obtain ⟨ap, cp, rfl, hpl, hpr, hpc⟩ := hv
  have HD := hide h
  have HP := hide hpc
  have HR := hide hpr
  have hkl : S.keys.length ≤ 512 := Nat.le_trans (pk_len _ _) h.n2
  have hblt := h.dev.lt
  have hglt : g < w.heap.size := lt_of_block (Blks.mark h.safe rfl).choose_spec
  clear h hpc hpr
  go_enter Try.func11, Try.ntmps11
  go_wp2_with (first | (go_at_call 16; refine (Pending_form (unhide HD) hN).mono ?_; rintro e w2 ⟨ao, cap, rfl, hao, hb2⟩) | fail)
  have HA := hide hao
  have HB := hide hb2
  clear hao hb2
  go_wp2_with fail
  go_loopw [12] (fun i wr => ∃ j : Nat, j ≤ S.keys.length ∧ i = .int .i64 j ∧ DevIn wr b F N (S.crashAt ps j) g c m vf D ∧ w2.grownBy wr (some g)) (fun i _ => S.keys.length - (intOf i).toNat)
  case atStart => exact ⟨0, Nat.zero_le _, rfl, (unhide HD).frame fun j _ hj => (unhide HB).block j hj, ⟨rfl, rfl, rfl, Nat.le_refl _, fun _ _ _ => rfl⟩⟩
  case round =>
    obtain ⟨j, hj, rfl, hdv, hgr⟩ := hrel
    have HV := hide hdv
    have HG := hide hgr
    have hws : w.heap.size ≤ wr.heap.size := Nat.le_trans (unhide HB).size hgr.size
    clear hdv hgr
    by_cases hlt : j < S.keys.length
    · obtain ⟨q, hq, hqw, hq2, hqc⟩ := unhide HA j hlt
      have hix := idx_ints ao S.keys.length cap q 0 j hq hlt
      have hcl : wr.cell? ⟨q, 0 + j, none⟩ = some (.int .i64 (S.keys[j] : Nat)) := ((unhide HG).cell_far ⟨q, 0 + j, none⟩ hq2 (fun e => by have : q = g := Option.some.inj e; omega)).trans hqc
      obtain ⟨k, hk⟩ : ∃ k, k = S.keys[j] := ⟨_, rfl⟩
      have hkn : k < S.safe.length := by rw [hk]; exact mem_keys (List.getElem_mem hlt)
      rw [← hk, Nat.zero_add] at hcl
      simp only [Nat.zero_add] at hix
      have HK := hide hk
      clear hk hq hqc
      have hkn2 : k < (S.crashAt ps j).safe.length := by show k < (S.crashTo ps j).length; rw [St.crashTo_len]; exact hkn
      obtain ⟨p, hp⟩ : ∃ p, p = pickAt ps j := ⟨_, rfl⟩
      have hpb : -9223372036854775808 ≤ p ∧ p < 9223372036854775808 := by
        rw [hp]
        unfold pickAt
        by_cases e : j < ps.length
        · rw [List.getElem?_eq_getElem e, Option.getD_some]; exact unhide HR _ (List.getElem_mem e)
        · rw [List.getElem?_eq_none (by omega)]; decide
      obtain ⟨cs, hcs⟩ : ∃ cs, cs = ((S.crashAt ps j).keptB k p).map bv := ⟨_, rfl⟩
      have hc5 : cs.length = 512 := by rw [hcs, List.length_map]; exact St.keptB_len (unhide HV) k hkn2 p
      have h1c : ∀ v ∈ cs, v.oneCell' = true := by rw [hcs]; exact bv_one _
      have hkept := fun W hW => kept_dev ((unhide HV).frame (w' := W) hW) k hkn2 p hpb.1 hpb.2 (by omega)
      rw [← hcs] at hkept
      have HKP := hide hkept
      have HCS := hide hcs
      have HPP := hide hp
      clear hkept hcs
      have hn : (S.crashAt ps j).safe.length = S.safe.length := St.crashTo_len S ps j
      have c0 := (unhide HV).dev.c0
      rw [hn] at c0
      have th : wr.there g (k * 512) 512 := Blks.there (unhide HV).safe (unhide HV).wide k hkn2
      have HTH := hide th
      clear hn th hkn2
      have hi : (Try.prog.info? 60).map (·.size) = some cs.length := by rw [hc5]; exact sizeBlock
      have hu := Try.underlying60
      have hk0 : (0 : Int) ≤ (k : Int) := Int.natCast_nonneg _
      have hk1 : (k : Int) < (S.safe.length : Int) := by omega
      have hbg : b ≠ g := fun e => (unhide HV).ne_map.2.2 e.symm
      have hbr : b < wr.heap.size := (unhide HV).dev.lt
      have hgr : g < wr.heap.size := lt_of_block (Blks.mark (unhide HV).safe rfl).choose_spec
      have HS3 : Hid (∀ W, Below wr.heap.size wr W → W.cell? ⟨b, 0, none⟩ = some (.slice (some ⟨g, 0, none⟩) S.safe.length c) ∧ W.there g (k * 512) 512) := hide fun W hW => ⟨(hW.cell (p := ⟨b, 0, none⟩) hbr).trans c0, fun i hi => by
        rw [hW.cell (p := ⟨g, k * 512 + i, none⟩) hgr, hW.frozen (p := ⟨g, k * 512 + i, none⟩) hgr]; exact unhide HTH i hi⟩
      have HS4 : Hid (∀ W, Below wr.heap.size wr W → (W.setCells g (k * 512) cs).cell? ⟨b, 0, none⟩ = some (.slice (some ⟨g, 0, none⟩) S.safe.length c) ∧ (W.setCells g (k * 512) cs).there g (k * 512) 512) := hide fun W hW => by
        obtain ⟨q1, q2⟩ := unhide HS3 W hW
        exact ⟨(World.cell?_setCells_out g cs _ W ⟨b, 0, none⟩ (fun e => absurd e hbg)).trans q1, World.there_setCells q2 _ _ _⟩
      have HFIN : Hid (∀ W, Below wr.heap.size wr W → DevIn (W.setCells g (k * 512) cs) b F N (S.crashAt ps (j + 1)) g c m vf D ∧ w2.grownBy (W.setCells g (k * 512) cs) (some g)) := hide fun W hW => by
        have h1 := ((unhide HV).frame (w' := W) fun i _ hi => hW.block i hi).setSafe k (by show k < (S.crashTo ps j).length; rw [St.crashTo_len]; exact hkn) ((S.crashAt ps j).keptB k p) (St.keptB_len (unhide HV) k (by show k < (S.crashTo ps j).length; rw [St.crashTo_len]; exact hkn) p)
        rw [← unhide HCS] at h1
        have e : S.crashAt ps (j + 1) = { S.crashAt ps j with safe := (S.crashAt ps j).safe.set k ((S.crashAt ps j).keptB k p) } := by
          have ek : (S.keys[j]?).getD 0 = k := by rw [List.getElem?_eq_getElem hlt, Option.getD_some, ← unhide HK]
          unfold St.crashAt
          rw [St.crashTo, ek, ← unhide HPP]
        refine ⟨by rw [e]; exact h1, (unhide HG).trans (World.grownBy.trans ?_ (grown_setCells g cs _ W))⟩
        exact ⟨hW.os, hW.tape, hW.output, hW.size, fun i hi _ => hW.block i hi⟩
      by_cases hj2 : j < ps.length
      · obtain ⟨pb, off, hap, hpw, hpcl⟩ := unhide HP (fun e => by rw [e] at hj2; simp at hj2)
        have hix2 := idx_ints ap ps.length cp pb off j hap hj2
        have hpg : pb ≠ g := fun e => hvo (fun e2 => by rw [e2] at hj2; simp at hj2) pb (by rw [hap]; rfl) (e ▸ (unhide HD).fg)
        have hcl2 : wr.cell? ⟨pb, off + j, none⟩ = some (.int .i64 p) := by
          rw [(unhide HG).cell_far ⟨pb, off + j, none⟩ (by have := (unhide HB).size; show pb < w2.heap.size; omega) (fun e => hpg (Option.some.inj e)), (unhide HB).cell (p := ⟨pb, off + j, none⟩) hpw, hpcl j hj2, hp]
          unfold pickAt
          rw [List.getElem?_eq_getElem hj2, Option.getD_some]
        clear hp hpcl hap
        go_wp2_with fail
        go_region_held3 (fun w' => w'.cell? ⟨b, 0, none⟩ = some (.slice (some ⟨g, 0, none⟩) S.safe.length c) ∧ w'.there g (k * 512) 512)
          (first | exact ⟨c0, unhide HTH⟩ | exact unhide HS3 _ hb3 | exact unhide HS4 _ hb3)
          (first | (go_at_call 30; refine (unhide HKP wr.drew (fun _ _ _ => rfl)).mono ?_; rintro e w3 ⟨rfl, hb0⟩; have hb3 : Below wr.heap.size wr w3 := after_drew hb0))
        have HX := hide (unhide HFIN w3 hb3)
        clear hb0 hb3
        go_wp2
        refine ⟨⟨j + 1, by omega, rfl, (unhide HX).1, (unhide HX).2⟩, ?_⟩
        simp [intOf]
        omega
      · obtain rfl : p = 0 := by rw [hp]; unfold pickAt; rw [List.getElem?_eq_none (by omega)]; rfl
        clear hp
        go_wp2_with fail
        go_region_held3 (fun w' => w'.cell? ⟨b, 0, none⟩ = some (.slice (some ⟨g, 0, none⟩) S.safe.length c) ∧ w'.there g (k * 512) 512)
          (first | exact ⟨c0, unhide HTH⟩ | exact unhide HS3 _ hb3 | exact unhide HS4 _ hb3)
          (first | (go_at_call 30; refine (unhide HKP wr.drew (fun _ _ _ => rfl)).mono ?_; rintro e w3 ⟨rfl, hb0⟩; have hb3 : Below wr.heap.size wr w3 := after_drew hb0))
        have HX := hide (unhide HFIN w3 hb3)
        clear hb0 hb3
        go_wp2
        refine ⟨⟨j + 1, by omega, rfl, (unhide HX).1, (unhide HX).2⟩, ?_⟩
        simp [intOf]
        omega
    · obtain rfl : j = S.keys.length := by omega
      obtain ⟨w4, hcl, hcm, hcg⟩ := clear_own (unhide HV).pend.own 0
      have h4 := (unhide HV).cleared hcm hcg
      have c1 := (unhide HV).dev.c1
      have d4 := h4.dev
      have c4 := d4.c4
      have n4 := d4.nf 4
      have H4 := hide (d4.s4 false)
      have c2 := (unhide H4).c2
      have n2 := (unhide H4).nf 2
      have H2 := hide ((unhide H4).s2 false)
      have c3 := (unhide H2).c3
      have n3 := (unhide H2).nf 3
      have HO := hide ((((Only.refl b w4).set 4 (.bool false)).set 2 (.bool false)).set 3 (.int .i64 0))
      have HF : Hid (Dev (((w4.setCell ⟨b, 4, none⟩ (.bool false)).setCell ⟨b, 2, none⟩ (.bool false)).setCell ⟨b, 3, none⟩ (.int .i64 0)) b F N (S.crash ps) ∧ Kept F w (((w4.setCell ⟨b, 4, none⟩ (.bool false)).setCell ⟨b, 2, none⟩ (.bool false)).setCell ⟨b, 3, none⟩ (.int .i64 0))) := hide ⟨⟨g, c, m, _, _, h4.turn (T := S.crash ps) (unhide HO) (Nat.le_refl _) ((unhide H2).s3 0) rfl rfl (by show (0 : Int) ≤ 0; omega) (by show (0 : Int) < 9223372036854775808; omega) h4.o1 h4.o2⟩,
        (((Kept.of_below (unhide HB)).trans (Kept.of_grown (unhide HG) fun i hi => by cases hi; exact (unhide HD).fg)).trans (Kept.of_grown hcg fun i hi => by cases hi; exact (unhide HD).fm)).trans (Kept.of_only (unhide HO) (unhide HD).fb)⟩
      clear h4 d4 hcm hcg
      go_wp2
      go_end0
      exact ⟨rfl, unhide HF⟩

theorem Crash_dev {w : World} {b : Nat} {F : Nat → Prop} {N : Nat} {S : St} (h : Dev w b F N S) (hN : N < 1000000) (ps : List Int) (v : Value) (hv : Ints w v ps) (hvo : ps ≠ [] → ∀ pb, v.ownBlock = some pb → ¬ F pb) :
    Calls Try.prog 11 #[.pointer (some ⟨b, 0, none⟩), v] w fun e w' => e = .returned (.tuple #[]) ∧ Dev w' b F N (S.crash ps) ∧ Kept F w w' := by
  obtain ⟨g, c, m, vf, D, h⟩ := h
  exact Crash_in h hN ps v hv hvo

/-- The device's blocks are there. -/
theorem Dev.cap {w : World} {b : Nat} {F : Nat → Prop} {N : Nat} {S : St} (h : Dev w b F N S) : Dev w b (fun k => F k ∧ k < w.heap.size) N S := by
  obtain ⟨g, c, m, vf, D, h⟩ := h
  have hg : g < w.heap.size := lt_of_block (Blks.mark h.safe rfl).choose_spec
  exact ⟨g, c, m, vf, D, { h with fb := ⟨h.fb, h.dev.lt⟩, fg := ⟨h.fg, hg⟩, fm := ⟨h.fm, h.pend.own.lt⟩, pend := { h.pend with foot := fun k q hq => ⟨⟨(h.pend.foot k q hq).1, lt_of_block (Blks.mark (h.pend.rows k) hq).choose_spec⟩, (h.pend.foot k q hq).2⟩ } }⟩

/-- F, and what is new between two worlds. -/
def ext (F : Nat → Prop) (w w' : World) : Nat → Prop := fun k => F k ∨ (w.heap.size ≤ k ∧ k < w'.heap.size)

theorem Write_ext {w : World} {b : Nat} {F : Nat → Prop} {N : Nat} {S : St} (h : Dev w b F N S) (k : Nat) (L : List UInt8) (v : Value) (hk : k < S.safe.length) (hd : S.down = false) (hB : burnE S.fused S.fuse = 0)
    (hv : Sl w v L) (hL : L.length = 512) (hN : N < 1000000) :
    Calls Try.prog 13 #[.pointer (some ⟨b, 0, none⟩), .int .i64 k, v] w fun e w' => e = .returned (.int .i64 0) ∧ Dev w' b (ext F w w') (N + 2) (S.burn.wrote k L) ∧ Kept F w w' := by
  have h2 : Dev w b (fun k => F k ∨ w.heap.size ≤ k) N S := h.mono (fun k hk => .inl hk) (Nat.le_refl _)
  refine (Write_dev h2 k L v hk hd hB hv hL hN (fun j hj => .inr hj)).mono ?_
  rintro e w' ⟨rfl, hd', hk'⟩
  refine ⟨rfl, hd'.cap.mono (fun j hj => ?_) (Nat.le_refl _), hk'.mono fun j hj hf => ?_⟩
  · rcases hj with ⟨h1 | h1, h2⟩
    · exact .inl h1
    · exact .inr ⟨h1, h2⟩
  · rcases hf with h1 | h1
    · exact h1
    · omega

/-- A new device. -/
def St.new (n : Nat) : St := { safe := List.replicate n (List.replicate 512 0), pend := fun _ => [], fused := false, fuse := 0, down := false, ops := 0 }
theorem cells_new : ∀ n, cellsOf (List.replicate n (List.replicate 512 (0 : UInt8))) = List.replicate (n * 512) (.int .u8 0)
  | 0 => by simp [cellsOf]
  | n + 1 => by
    rw [List.replicate_succ, cellsOf_cons, cells_new n, List.map_replicate]
    have e : (n + 1) * 512 = 512 + n * 512 := by omega
    rw [e, List.replicate_append_replicate.symm]
    rfl
theorem New_dev (n : Nat) (w : World) (h1 : 64 ≤ n) (h2 : n ≤ 512) :
    Calls Try.prog 5 #[.int .i64 n] w fun e w' => e = .returned (.tuple #[.pointer (some ⟨w.heap.size + 2, 0, none⟩), .int .i64 0]) ∧ Dev w' (w.heap.size + 2) (fun k => w.heap.size ≤ k ∧ k < w'.heap.size) 0 (St.new n) ∧ Below w.heap.size w w' := by
  refine (New_ok n w h1 h2).mono ?_
  rintro e w' ⟨rfl, rfl⟩
  have hb : Below w.heap.size w (newW w n) := newW_below w n
  have hl : (St.new n).safe.length = n := List.length_replicate
  have hrow := newW_row w n
  have hwd : Wide (St.new n).safe := fun L hL => by rw [List.eq_of_mem_replicate hL]; exact List.length_replicate
  refine ⟨rfl, ?_, hb⟩
  refine Dev.cap ⟨w.heap.size, n, w.heap.size + 1, fun _ => nilS, .map [], { dev := by rw [hl]; exact newW_dev w n, safe := ?_, wide := hwd, pend := ?_, fb := by show w.heap.size ≤ w.heap.size + 2; omega, fg := Nat.le_refl _, fm := by show w.heap.size ≤ w.heap.size + 1; omega, f1 := Int.le_refl _, f2 := by show (0 : Int) < 9223372036854775808; omega, o1 := Int.le_refl _, o2 := Int.le_refl _, n1 := by rw [hl]; exact h1, n2 := by rw [hl]; exact h2 }⟩
  · refine ⟨cellsOf_len hwd, .inr ⟨w.heap.size, n, noughts (n * 512), rfl, Nat.zero_le _, hrow, by rw [hl]; exact Nat.le_refl _, by unfold maxLen; omega, size_noughts _, ?_⟩⟩
    show (noughts (n * 512)).toList.take ((St.new n).safe.length * 512) = cellsOf (List.replicate n (List.replicate 512 0))
    rw [cells_new, hl]
    simp [noughts]
  · have hown : (newW w n).ownsMap Try.prog 3 rawE (w.heap.size + 1) 0 (.map []) := by
      refine ⟨#[], 0, newW_map w n, ⟨by simp, MapKept.stamped_empty _, by simp⟩, Nat.le_refl _, rfl⟩
    exact { own := hown, at_ := fun _ _ => rfl, has := fun kl => ⟨fun h => (by cases h), fun ⟨k, _, h, _⟩ => absurd rfl h⟩, rows := fun _ => World.ownsRow_nil _ _ _ _, len := fun _ => Nat.zero_le _, foot := fun _ _ h => (by cases h), apart := fun _ _ _ h => (by cases h), wide := fun _ L hL => (by cases hL), out := fun _ _ => rfl }
end Go.Proofs.Ytfoanlmmjbclgaa

/-
  DERIVED. A block's bytes read; a write, and which blocks of memory the device has then.
-/
namespace Go.Proofs.Ytfoanlmmjbclgaa
open Go.RowKit Go.Maps
set_option linter.unusedVariables false

theorem Row.sl {w : World} {g : Nat} {L : List UInt8} (h : Row w g L) (hL : L.length = 512) : Sl w (.slice (some ⟨g, 0, none⟩) 512 512) L := by
  refine ⟨some ⟨g, 0, none⟩, 512, by rw [hL], by rw [hL]; exact Nat.le_refl _, by unfold maxLen; omega, fun _ => ⟨g, 0, rfl, lt_of_block h, fun i hi => ?_⟩⟩
  rw [Nat.zero_add]
  exact h.cell i hi
theorem headL_len (s : ByteArray) (x : UInt8) : (headL s (fillL x 512)).length = 512 := by
  unfold headL
  have := fillL_len x 512 (Nat.le_refl _)
  have hs : s.data.toList.length = s.size := Array.length_toList
  rw [List.length_append, List.length_take, List.length_drop, this, hs]
  omega

/-- The law's Block, whose slice can be read. -/
theorem Block_sl (p : Int) (s : ByteArray) (w : World) (p1 : -9223372036854775808 ≤ p) (p2 : p < 9223372036854775808) :
    Calls Try.prog 14 #[.int .i64 p, .string s] w fun e w' => e = .returned (.slice (some ⟨w.heap.size, 0, none⟩) 512 512) ∧ Sl w' (.slice (some ⟨w.heap.size, 0, none⟩) 512 512) (headL s (fillL (UInt8.ofNat (pickR p 255)) 512)) ∧ Below w.heap.size w w' :=
  (Block_any p s w p1 p2).mono fun e w' ⟨h1, h2, h3⟩ => ⟨h1, h2.sl (headL_len _ _), h3⟩

theorem Write_own {w : World} {b base : Nat} {F : Nat → Prop} {N : Nat} {S : St} (h : Dev w b F N S) (hF : ∀ k, F k → base ≤ k ∧ k < w.heap.size) (hbs : base ≤ w.heap.size) (k : Nat) (L : List UInt8) (v : Value) (hk : k < S.safe.length) (hd : S.down = false) (hB : burnE S.fused S.fuse = 0)
    (hv : Sl w v L) (hL : L.length = 512) (hN : N < 1000000) :
    Calls Try.prog 13 #[.pointer (some ⟨b, 0, none⟩), .int .i64 k, v] w fun e w' => e = .returned (.int .i64 0) ∧ (∃ F', (∀ k, F' k → base ≤ k ∧ k < w'.heap.size) ∧ (∀ k, F' k → F k ∨ w.heap.size ≤ k) ∧ Dev w' b F' (N + 2) (S.burn.wrote k L)) ∧ Kept F w w' := by
  refine (Write_ext h k L v hk hd hB hv hL hN).mono ?_
  rintro e w' ⟨rfl, hd', hk'⟩
  refine ⟨rfl, ⟨_, fun j hj => ?_, fun j hj => hj.imp id And.left, hd'⟩, hk'⟩
  have := hk'.size
  rcases hj with h1 | h1
  · have := hF j h1; omega
  · omega

end Go.Proofs.Ytfoanlmmjbclgaa

/-
  DERIVED. How a slice of ints that came in is opened.
-/
namespace Go.Proofs.Ytfoanlmmjbclgaa
open Go.ChangeShapes Go.WideShapes Go.ChangeAt Go.RowKit

theorem own_knob : ownKnob Try.prog.godebug = none := by kernel_rfl
theorem laid_out : laidOutB Try.prog = true := by kernel_rfl
theorem Try.cellsInt : Try.prog.cellsOf 3 = 1 := by kernel_rfl

theorem open_intl {H : Type} {enc : TypeId × Value → H} {W : World} {a : Option Addr} {n c : Nat} {d : DataW H} {p : List MemPlace}
    (h : DataW.Trod enc Try.prog W 0 (fun _ => true) true 35 (.slice a n c) d p) : ∃ l : List Int, Ints W (.slice a n c) l := by
  obtain ⟨fuel, hf⟩ := h
  rcases open_ints Try.underlying35 Try.underlying3 Try.cellsInt hf with ⟨hcs, hx⟩ | ⟨x, l, cp, zs, hcs, _, hl, hm, hz, hx, hcell, hwz⟩
  · simp [Value.cells] at hcs
    obtain ⟨rfl, rfl, rfl⟩ := hcs
    exact ⟨[], none, 0, rfl, by simp, by simp, fun h => absurd rfl h⟩
  · simp [Value.cells] at hcs
    obtain ⟨rfl, rfl, rfl⟩ := hcs
    rw [if_pos rfl] at hz
    unfold maxLen at hm
    have hlen : (zs.take n).length = n := by simp; omega
    refine ⟨zs.take n, some x, c, by rw [hlen], by rw [hlen]; omega, fun y hy => ?_, fun hne => ?_⟩
    · have := bounds_i64 (hwz y (List.mem_of_mem_take hy)); omega
    · have hn0 : 0 < n := by rw [← hlen]; exact List.length_pos_iff.2 hne
      have h0 := hcell 0 (by omega)
      have hsp := World.cell?_spot h0
      obtain ⟨b, off, sp⟩ := x
      have hsp' : sp = none := by
        cases sp with
        | none => rfl
        | some k => simp [Addr.add] at hsp
      subst hsp'
      refine ⟨b, off, rfl, ?_, fun i hi => ?_⟩
      · rw [addr_add] at h0
        exact World.block_lt_of_cell? W ⟨b, off + 0, none⟩ h0
      · have hi' : i < n := by rw [hlen] at hi; exact hi
        have := hcell i (by omega)
        rw [addr_add] at this
        rw [this]
        simp [List.getD_eq_getElem?_getD, List.getElem?_eq_getElem (show i < zs.length by omega)]
end Go.Proofs.Ytfoanlmmjbclgaa

/-
  DERIVED. Bytes as a string; a list that holds one number.
-/
namespace Go.Proofs.Ytfoanlmmjbclgaa
open Go.RowKit
set_option linter.unusedVariables false

theorem Sl.str {w : World} {v : Value} {l : List UInt8} (h : Sl w v l) : (convert 47 9 v).run Try.prog w = .ok (.string ⟨l.toArray⟩) w := by
  rcases h.cases with ⟨rfl, ao, rfl⟩ | ⟨b, off, cap, rfl, h1, h2, hb, hc⟩
  · cases ao with
    | none => exact run_convert_bytes_nil w 47 5 Try.underlying47 Try.underlying5 0 0 9 Try.underlying9
    | some a => exact run_convert_bytes_back w 47 9 5 a 0 [] Try.underlying47 Try.underlying5 Try.underlying9 (fun j hj => by simp at hj)
  · exact run_convert_bytes_back w 47 9 5 ⟨b, off, none⟩ cap l Try.underlying47 Try.underlying5 Try.underlying9 (fun j hj => by rw [addr_add]; exact hc j hj)

theorem one_of {l : List Nat} {k : Nat} (hr : l.Pairwise (· < ·)) (hm : ∀ x, x ∈ l ↔ x = k) : l = [k] := by
  cases l with
  | nil => exact absurd ((hm k).2 rfl) (by simp)
  | cons a r =>
    obtain rfl : a = k := (hm a).1 (by simp)
    obtain ⟨h1, _⟩ := List.pairwise_cons.1 hr
    have hr : r = [] := List.eq_nil_iff_forall_not_mem.2 fun x hx => by
      have := h1 x hx
      have e := (hm x).1 (by simp [hx])
      omega
    rw [hr]
theorem none_of {l : List Nat} (hm : ∀ x, ¬ x ∈ l) : l = [] := List.eq_nil_iff_forall_not_mem.2 hm

/-- Where one block alone has writes. -/
theorem keys_one {S : St} {k : Nat} (hk : k < S.safe.length) (h1 : S.pend k ≠ []) (h2 : ∀ j, j ≠ k → S.pend j = []) : S.keys = [k] :=
  one_of (pk_rising _ _) fun x => by
    unfold St.keys
    rw [mem_pk]
    constructor
    · rintro ⟨_, h⟩
      by_cases e : x = k
      · exact e
      · exact absurd (h2 x e) h
    · rintro rfl
      exact ⟨hk, h1⟩
theorem keys_none {S : St} (h2 : ∀ j, S.pend j = []) : S.keys = [] :=
  none_of fun x hx => (mem_pk.1 hx).2 (h2 x)

theorem crash_none {S : St} (h2 : ∀ j, S.pend j = []) (ps : List Int) : (S.crash ps).safe = S.safe := by
  unfold St.crash
  rw [keys_none h2]
  rfl
theorem crash_one {S : St} {k : Nat} (hk : k < S.safe.length) (h1 : S.pend k ≠ []) (h2 : ∀ j, j ≠ k → S.pend j = []) (ps : List Int) : (S.crash ps).safe = S.safe.set k (S.keptB k (pickAt ps 0)) := by
  have e := keys_one hk h1 h2
  unfold St.crash
  simp only [e, List.length_singleton]
  show St.crashTo S ps (0 + 1) = _
  rw [St.crashTo, e]
  rfl
theorem St.newest_crash (S : St) (ps : List Int) (k : Nat) : (S.crash ps).newest k = ((S.crash ps).safe[k]?).getD [] := rfl
end Go.Proofs.Ytfoanlmmjbclgaa

/-
  DERIVED. Flush, where it flushes.
-/
namespace Go.Proofs.Ytfoanlmmjbclgaa
open Go.RowKit Go.Maps
set_option linter.unusedVariables false

/-- A step of the loop over the pending writes. -/
theorem wpList_next_pend (w : World) {ops : Array Oper} {rest : List Oper} {o : Oper} {a : Act} {Q : Exit → Act → World → Prop} (hg : o.guard = none) (it : Operand) (hop : o.op = Op.next it false)
    {F : Nat → Prop} {m g n N M : Nat} {pend : Nat → List (List UInt8)} {vf : Nat → Value} {D : DataW Value} {left : Lit → Bool} {cnt r : Nat} (hp : PendAt w F m g n M pend vf D)
    (h : w.ranges Try.prog 3 rawE m r N D left cnt) (hit : a.eval it = .pointer (some ⟨r, 0, none⟩))
    (hDone : cnt = 0 → (∀ kl, left kl = false) → wpList Try.prog ops Q rest (a.put o.dst (.tuple #[.bool false])) w)
    (hMore : ∀ (k q cap j L : Nat) (w' : World) (cnt' : Nat), L = j + 1 → k < n → (pend k).length = j + 1 → vf k = .slice (some ⟨q, 0, none⟩) L cap → left (.int .i64 k) = true →
      w'.ranges Try.prog 3 rawE m r N D (fun z => left z && !z.sameKey (.int .i64 k)) cnt' → cnt' < cnt → w.grownBy w' (some r) → w'.heap.size = w.heap.size →
      (Instr.entry (.pointer (some ⟨r, 0, none⟩))).run Try.prog w' = .ok (.tuple #[.int .i64 k, .slice (some ⟨q, 0, none⟩) L cap]) w' →
      wpList Try.prog ops Q rest (a.put o.dst (.tuple #[.bool true, .int .i64 k, .slice (some ⟨q, 0, none⟩) L cap])) w') :
    wpList Try.prog ops Q (o :: rest) a w := by
  refine wpList_plain hg fun K' hK' => ?_
  unfold Oper.wp
  rcases h.next keyedInt o.type with ⟨h0, hl, hrun⟩ | ⟨key, v, kl, y, w', cnt', hkey, hlk, hv, hat, hrun, hrg, hlt, hgr, hsz, hen⟩
  · simp [execOp, hop, hit, hrun, Result.andThen]
    exact hK' _ _ (hDone h0 hl)
  · obtain ⟨x, rfl, rfl, hwx⟩ := Maps.keyOf_int_inv Try.underlying3 hkey
    obtain ⟨k, hk, hne, e⟩ := (hp.has _).1 (has_true_of_atKey hat)
    obtain rfl : x = (k : Int) := by injection e
    have hvf : v = vf k := by
      have h1 := hat (.held nilS)
      rw [hp.at_ k hk] at h1
      have hv2 : y.1 = .held v := by
        unfold rawE at hv
        rw [← Option.some.inj hv]
      rw [hv2] at h1
      exact (DataW.held.inj h1).symm
    obtain ⟨ao, cap, hf, hq⟩ := Blks.form (hp.rows k)
    obtain ⟨q, rfl⟩ := hq hne
    obtain ⟨j, hj⟩ : ∃ j, (pend k).length = j + 1 := ⟨(pend k).length - 1, by have := List.length_pos_iff.2 hne; omega⟩
    rw [hvf, hf] at hrun hen
    simp [execOp, hop, hit, hrun, Result.andThen]
    exact hK' _ _ (hMore k q cap j _ w' cnt' hj hk hj hf hlk hrg hlt hgr hsz hen)

/-- What is flushed, as far as 'left' says. -/
def St.flT (S : St) (left : Lit → Bool) : List (List UInt8) := (List.range S.safe.length).map fun (k : Nat) => if left (.int .i64 (k : Int)) then (S.safe[k]?).getD [] else S.newest k
/-- A device behind a flush. -/
def St.flushed (S : St) : St := { S with safe := (List.range S.safe.length).map S.newest, pend := fun _ => [] }
theorem St.flT_len (S : St) (left : Lit → Bool) : (S.flT left).length = S.safe.length := by simp [St.flT]
theorem St.newest_none (S : St) (k : Nat) (h : S.pend k = []) : S.newest k = (S.safe[k]?).getD [] := by unfold St.newest; rw [h]; rfl
theorem St.flT_start {w : World} {b : Nat} {F : Nat → Prop} {N : Nat} {S : St} {g c m : Nat} {vf : Nat → Value} {D : DataW Value} (h : DevIn w b F N S g c m vf D) : S.flT (Maps.has D) = S.safe := by
  apply List.ext_getElem (S.flT_len _)
  intro k h1 h2
  simp only [St.flT, List.getElem_map, List.getElem_range]
  split
  · rw [List.getElem?_eq_getElem h2]; rfl
  · rename_i hn
    have : S.pend k = [] := by
      by_cases e : S.pend k = []
      · exact e
      · exact absurd ((h.pend.has _).2 ⟨k, h2, e, rfl⟩) hn
    rw [S.newest_none k this, List.getElem?_eq_getElem h2]
    rfl
theorem St.flT_end (S : St) (left : Lit → Bool) (h : ∀ kl, left kl = false) : S.flT left = (List.range S.safe.length).map S.newest := by
  unfold St.flT
  apply List.map_congr_left
  intro k _
  rw [h]; rfl
theorem sameKey_int (a b : Nat) : (Lit.int .i64 (a : Int)).sameKey (.int .i64 (b : Int)) = decide (a = b) := by
  by_cases e : a = b
  · subst e; simp [Lit.sameKey]
  · rw [decide_eq_false e]
    exact sameKey_ne (fun h => e (by injection h with _ h; omega))
theorem St.flT_step (S : St) (left : Lit → Bool) (k : Nat) (hk : k < S.safe.length) : S.flT (fun z => left z && !z.sameKey (.int .i64 k)) = (S.flT left).set k (S.newest k) := by
  apply List.ext_getElem (by rw [List.length_set, S.flT_len, S.flT_len])
  intro i h1 h2
  rw [List.getElem_set]
  simp only [St.flT, List.getElem_map, List.getElem_range, sameKey_int]
  by_cases e : k = i
  · subst e; simp
  · have : decide (i = k) = false := decide_eq_false (fun h => e h.symm)
    simp [this, e]

/-- The device stands while the iterator goes on. -/
theorem DevIn.frameR {w w' : World} {b : Nat} {F : Nat → Prop} {N : Nat} {S : St} {g c m : Nat} {vf : Nat → Value} {D : DataW Value} (h : DevIn w b F N S g c m vf D) {r n cnt : Nat} {left : Lit → Bool} (hr : w.ranges Try.prog 3 rawE m r n D left cnt) (hk : w.grownBy w' (some r)) : DevIn w' b F N S g c m vf D := by
  obtain ⟨es, clock, since, seen, c0, hb, _, _, _, hi, _⟩ := hr
  have hne : ∀ q, (∃ A t fr, w.heap[q]? = some (Obj.cells A t fr)) → w'.heap[q]? = w.heap[q]? := fun q ⟨A, t, fr, hq⟩ => hk.block q (lt_of_block hq) (fun e => by cases e; rw [hq] at hi; cases hi)
  have hm : w'.heap[m]? = w.heap[m]? := hk.block m (lt_of_block hb) (fun e => by cases e; rw [hb] at hi; cases hi)
  exact { h with dev := (hne b ⟨_, _, _, h.dev⟩).trans h.dev, safe := Blks.frame h.safe fun q hq _ => by obtain ⟨cur, hc⟩ := Blks.mark h.safe hq; exact hne q ⟨_, _, _, hc⟩, pend := h.pend.frame' hm fun k q hq _ => by obtain ⟨cur, hc⟩ := Blks.mark (h.pend.rows k) hq; exact hne q ⟨_, _, _, hc⟩ }

theorem St.newest_last (S : St) (k j : Nat) (h : (S.pend k).length = j + 1) : S.newest k = (S.pend k)[j]'(by omega) := by
  unfold St.newest
  have e : (S.pend k).length - 1 = j := by omega
  rw [List.getLast?_eq_getElem?, e, List.getElem?_eq_getElem (by omega), Option.getD_some]

def St.flAt (S : St) (left : Lit → Bool) : St := { S with safe := S.flT left }

set_option maxRecDepth 100000 in
set_option maxHeartbeats 3200000 in
theorem Flush_in {w : World} {b : Nat} {F : Nat → Prop} {N : Nat} {S : St} {g c m : Nat} {vf : Nat → Value} {D : DataW Value} (h : DevIn w b F N S g c m vf D) (hd : S.down = false) (hB : burnE S.fused S.fuse = 0) (hN : N < 1000000) :
    Calls Try.prog 22 #[.pointer (some ⟨b, 0, none⟩)] w fun e w' => e = .returned (.int .i64 0) ∧ Dev w' b F (N + 1) S.burn.flushed ∧ Kept F w w' := by
  have HD := hide h
  have hdd := h.dev
  rw [hd] at hdd
  have HDD := hide hdd
  clear h hdd
  go_enter Try.func22, Try.ntmps22
  go_wp2_with (first | (go_at_call 38; refine (up_dev (unhide HDD)).mono ?_; rintro e w' ⟨rfl, rfl⟩) | fail)
  refine (burn_dev (unhide HD).dev (unhide HD).f1 (unhide HD).f2 (unhide HD).o1 (by have := (unhide HD).o2; omega)).mono ?_
  rintro e w1 ⟨rfl, d1, o1⟩
  rw [hB]
  have h1 := (unhide HD).burn o1 d1
  have HK := hide (Kept.of_only (F := F) o1 (unhide HD).fb)
  have c1 := h1.dev.c1
  have hown := h1.pend.own
  have H1 := hide h1
  clear d1 o1 h1
  go_wp2_with (first | (at_range; refine wpList_range_own _ rfl _ 54 rfl 3 53 keyedInt Try.underlying54 _ m (N + 1) D rfl hown ?_; intro w0 hrg0 hg0 hs0) | fail)
  go_frame
  obtain ⟨r, hr⟩ : ∃ r, r = w1.heap.size := ⟨_, rfl⟩
  rw [← hr] at hrg0 ⊢
  have HG0 := hide hg0
  have HR0 := hide hrg0
  have HRR := hide hr
  have hs1 : w1.heap.size ≤ w0.heap.size := hg0.size
  clear hg0 hrg0 hr hs0 hown
  go_loopw [5] (fun _ wr => ∃ left cnt, wr.ranges Try.prog 3 rawE m r (N + 1) D left cnt ∧ DevIn wr b F (N + 1) (S.burn.flAt left) g c m vf D ∧ w1.grownBy wr (some g)) (fun _ wr => wr.rangeLeft m r)
  case atStart =>
    refine ⟨_, _, unhide HR0, ?_, (unhide HG0).but _⟩
    have e : S.burn.flAt (Maps.has D) = S.burn := by unfold St.flAt; rw [St.flT_start (unhide H1)]
    rw [e]
    exact (unhide H1).frame fun k _ hk => (unhide HG0).block k hk (by simp)
  case round =>
    obtain ⟨left, cnt, hrg, hdv, hgr⟩ := hrel
    have HV := hide hdv
    have HG := hide hgr
    have HRG := hide hrg
    clear hdv hgr hrg
    have hn : (S.burn.flAt left).safe.length = S.safe.length := S.burn.flT_len left
    go_wp2_with (first | (at_next; refine wpList_next_pend _ rfl _ rfl (unhide HV).pend (unhide HRG) rfl ?_ ?_) | fail)
    · intro hc0 hl0
      obtain ⟨w4, hcl, hcm, hcg⟩ := clear_own (unhide HV).pend.own 0
      have h4 := (unhide HV).cleared hcm hcg
      have c1r := (unhide HV).dev.c1
      have HF : Hid (Dev w4 b F (N + 1) S.burn.flushed ∧ Kept F w w4) := hide ⟨⟨g, c, m, _, _, by
          have e : S.burn.flushed = { S.burn.flAt left with pend := fun _ => [] } := by unfold St.flushed St.flAt; rw [S.burn.flT_end left hl0]
          rw [e]; exact h4⟩, ((unhide HK).trans (Kept.of_grown (unhide HG) fun i hi => by cases hi; exact (unhide HD).fg)).trans (Kept.of_grown hcg fun i hi => by cases hi; exact (unhide HD).fm)⟩
      clear h4 hcm hcg hl0 hc0
      go_wp2
      go_ret
      exact ⟨rfl, unhide HF⟩
    · intro k q cap j L w2 cnt2 hL hk hj hvf hlk hrg2 hlt hgr2 hsz2 hen
      have hk : k < S.safe.length := by first | exact hk | (rw [hn] at hk; exact hk)
      have h2 := (unhide HV).frameR (unhide HRG) hgr2
      have hnew : (S.burn.flAt left).pend k = S.pend k := rfl
      obtain ⟨cs, hcs⟩ : ∃ cs, cs = ((S.burn.newest k).map bv) := ⟨_, rfl⟩
      have hnl : (S.burn.newest k).length = 512 := St.newest_len (unhide H1) k hk
      have hc5 : cs.length = 512 := by rw [hcs, List.length_map]; exact hnl
      have h1c : ∀ v ∈ cs, v.oneCell' = true := by rw [hcs]; exact bv_one _
      have hjS : (S.pend k).length = j + 1 := hj
      have hrow := h2.pend.rows k
      rw [hvf, hnew] at hrow
      have hrq : w2.rangeAt q (j * 512) cs := by
        have h3 := Blks.range ((unhide H1).pend.wide k) hrow j (by show j < (S.pend k).length; omega)
        have e : S.burn.newest k = (S.burn.pend k)[j]'(by show j < (S.pend k).length; omega) := S.burn.newest_last k j hjS
        rw [hcs, e]
        exact h3
      have th : w2.there g (k * 512) 512 := Blks.there h2.safe h2.wide k (by rw [hn]; exact hk)
      have c0 := h2.dev.c0
      rw [hn] at c0
      have hqg : q ≠ g := (h2.pend.foot k q (by rw [hvf]; rfl)).2
      have hqb : g ≠ b := h2.ne_map.2.2
      have HTH := hide th
      have HRQ := hide hrq
      have HFIN : Hid (∀ X : World, X = w2.drew → (X.setCells g (k * 512) cs).ranges Try.prog 3 rawE m r (N + 1) D (fun z => left z && !z.sameKey (.int .i64 k)) cnt2 ∧ DevIn (X.setCells g (k * 512) cs) b F (N + 1) (S.burn.flAt (fun z => left z && !z.sameKey (.int .i64 k))) g c m vf D ∧ w1.grownBy (X.setCells g (k * 512) cs) (some g)) := hide fun X hX => by
        subst hX
        have hgs := grown_setCells g cs (k * 512) w2.drew
        have hgm : g ≠ m := h2.ne_map.2.1
        have hgr3 : g ≠ r := by
          rintro rfl
          obtain ⟨cur, hc⟩ := Blks.mark h2.safe rfl
          obtain ⟨_, _, _, _, _, _, _, _, _, hi, _⟩ := hrg2
          rw [hc] at hi; cases hi
        refine ⟨World.ranges.kept (w := w2.drew) hrg2 hgs (fun e => hgm (Option.some.inj e).symm) (fun e => hgr3 (Option.some.inj e).symm), ?_, ?_⟩
        · have h3 := (h2.frame (w' := w2.drew) fun _ _ _ => rfl).setSafe k (by rw [hn]; exact hk) (S.burn.newest k) hnl
          rw [← hcs] at h3
          have e : S.burn.flAt (fun z => left z && !z.sameKey (.int .i64 k)) = { S.burn.flAt left with safe := (S.burn.flAt left).safe.set k (S.burn.newest k) } := by
            unfold St.flAt; rw [S.burn.flT_step left k hk]
          rw [e]; exact h3
        · have h4 : w1.grownBy w2 (some g) := (unhide HG).andThen hgr2 fun i hi => by
            cases hi
            exact .inl (by rw [unhide HRR]; exact Nat.le_refl _)
          exact World.grownBy.trans (b := w2.drew) ⟨h4.os, h4.tape, h4.output, h4.size, h4.block⟩ hgs
      have HLT := hide hlt
      have hjN : j < 2000000 := by have := (unhide H1).pend.len k; have h5 : S.burn.pend k = S.pend k := rfl; rw [h5] at this; omega
      have hwr2 : IntKind.i64.wrap ((L : Int) - 1) = (j : Int) := by rw [IntKind.wrap_i64]; omega
      clear hcs hrow h2 hrq th hrg2 hgr2 hlk hvf hj hjS hlt hnew hn hnl
      have hi : (Try.prog.info? 60).map (·.size) = some cs.length := by rw [hc5]; exact sizeBlock
      have hu := Try.underlying60
      have hk0 : (0 : Int) ≤ (k : Int) := Int.natCast_nonneg _
      have hk1 : (k : Int) < (S.safe.length : Int) := by omega
      have hj0 : (0 : Int) ≤ (j : Int) := Int.natCast_nonneg _
      have hj1 : (j : Int) < (L : Int) := by omega
      clear hL
      go_wp2_with fail
      go_region_held3 (fun w' => w'.cell? ⟨b, 0, none⟩ = some (.slice (some ⟨g, 0, none⟩) S.safe.length c) ∧ w'.rangeAt q (j * 512) cs ∧ w'.there g (k * 512) 512)
        (first | exact ⟨c0, unhide HRQ, unhide HTH⟩ | exact ⟨(World.cell?_setCells_out g cs _ _ ⟨b, 0, none⟩ (fun e => absurd e (Ne.symm hqb))).trans c0, World.rangeAt_setCells_apart (w := w2.drew) (unhide HRQ) _ _ _ (.inl hqg), World.there_setCells (w := w2.drew) (unhide HTH) _ _ _⟩)
        (first | fail)
      have HX := hide (unhide HFIN _ rfl)
      go_wp2
      refine ⟨⟨_, _, (unhide HX).1, (unhide HX).2.1, (unhide HX).2.2⟩, ?_⟩
      rw [(unhide HX).1.left_eq, (unhide HRG).left_eq]
      exact unhide HLT

theorem Flush_dev {w : World} {b : Nat} {F : Nat → Prop} {N : Nat} {S : St} (h : Dev w b F N S) (hd : S.down = false) (hB : burnE S.fused S.fuse = 0) (hN : N < 1000000) :
    Calls Try.prog 22 #[.pointer (some ⟨b, 0, none⟩)] w fun e w' => e = .returned (.int .i64 0) ∧ Dev w' b F (N + 1) S.burn.flushed ∧ Kept F w w' := by
  obtain ⟨g, c, m, vf, D, h⟩ := h
  exact Flush_in h hd hB hN
end Go.Proofs.Ytfoanlmmjbclgaa

/-
  DERIVED. Copy: another device that stands as this one.
-/
namespace Go.Proofs.Ytfoanlmmjbclgaa
open Go.RowKit Go.Maps
set_option linter.unusedVariables false

set_option maxRecDepth 100000 in
theorem Clone_blks (w : World) (g c : Nat) (bs : List (List UInt8)) (hw : Wide bs) (h : Blks w (.slice (some ⟨g, 0, none⟩) bs.length c) bs) (hpos : 0 < bs.length) (hlen : bs.length ≤ 2000000) :
    Calls Try.prog 19 #[.slice (some ⟨g, 0, none⟩) bs.length c] w fun e w' => ∃ q cap, e = .returned (.slice (some ⟨q, 0, none⟩) bs.length cap) ∧ w.heap.size ≤ q ∧ Blks w' (.slice (some ⟨q, 0, none⟩) bs.length cap) bs ∧ Below w.heap.size w w' := by
  have hnil := fun (w : World) => Lib.run_eql_slice_nil (P := Try.prog) (w := w) 53
  obtain ⟨i0, hi0, hz0, hz1, hz2⟩ := infoBlk
  have hl := cellsOf_len hw
  have HC := hide (World.ownsRow.cells (World.ownsRow.alloc h (.cells #[] 60)) (g := g) rfl)
  have HL := hide hl
  clear h hl
  go_enter Try.func19, Try.ntmps19
  go_wp2_with (at_builtin; refine wpList_append_grows _ rfl (.tmp 5) (.tmp 6) _ rfl 60 i0 _ 512 512 Try.underlying53 hi0 hz0 hz1 hz2 (by rfl) (by omega) _ 0 0 [] rfl (fun h => ⟨rfl, rfl⟩) (by simp) (fun b hb j u hj => by simp at hj) ⟨g, 0, none⟩ bs.length c (cellsOf bs) rfl (unhide HL) (unhide HC) (cellsOf_one bs) ?hfull ?b1 ?b2 ?_)
  case hfull => omega
  case b1 => unfold maxLen; omega
  case b2 => omega
  intro v' w1 hown hgr
  have hex : ∃ q cap, v' = .slice (some ⟨q, 0, none⟩) bs.length cap ∧ w.heap.size ≤ q ∧ Blks w1 (.slice (some ⟨q, 0, none⟩) bs.length cap) bs ∧ Below w.heap.size w w1 := by
    obtain ⟨h1, h2⟩ := hown
    rcases h2 with ⟨_, h0⟩ | ⟨q, cap, cur, rfl, hb, hg, r1, r2, r3, r4⟩
    · omega
    · refine ⟨q, cap, by first | rfl | rw [Nat.zero_add], by (try simp at hb); omega, ⟨unhide HL, .inr ⟨q, cap, cur, rfl, Nat.zero_le _, hg, by omega, r2, r3, ?_⟩⟩, ?_⟩
      · simpa using r4
      · exact (((Below.refl _ _).alloc (Nat.le_refl _) _).trans ⟨hgr.os, hgr.tape, hgr.output, hgr.size, fun k hk => hgr.block k (by simp; omega) (by simp)⟩)
  obtain ⟨q, cap, hv, hX⟩ := hex
  rw [hv]
  clear hown hgr hnil
  go_wp2
  go_ret
  exact ⟨q, cap, rfl, hX⟩

/-- Pending writes with one block's laid anew. -/
def layP (pend : Nat → List (List UInt8)) (k : Nat) (bs : List (List UInt8)) : Nat → List (List UInt8) := fun j => if j = k then bs else pend j

theorem PendAt.lay {w w1 w2 : World} {F : Nat → Prop} {m g n N : Nat} {pend : Nat → List (List UInt8)} {vf : Nat → Value} {D : DataW Value} (h : PendAt w F m g n N pend vf D) (k : Nat) (hk : k < n) (bs : List (List UInt8)) (hbs : bs ≠ []) (hwd : Wide bs) (hln : bs.length ≤ N + 1) (q cap : Nat)
    (hF : ∀ j, w.heap.size ≤ j → F j) (hg : g < w.heap.size) (hn : n ≤ 512)
    (hnew : Blks w1 (.slice (some ⟨q, 0, none⟩) bs.length cap) bs) (hgr : Below w.heap.size w w1) (hat : w.heap.size ≤ q)
    (hown : w2.ownsMap Try.prog 3 rawE m (N + 1) (D.put (.int .i64 k) (.held (.slice (some ⟨q, 0, none⟩) bs.length cap)))) (hgr2 : w1.grownBy w2 (some m)) :
    PendAt w2 F m g n (N + 1) (layP pend k bs) (fun j => if j = k then .slice (some ⟨q, 0, none⟩) bs.length cap else vf j) (D.put (.int .i64 k) (.held (.slice (some ⟨q, 0, none⟩) bs.length cap))) := by
  have hmap : IsMap D := by obtain ⟨es, clock, _, _, _, e⟩ := h.own; exact ⟨_, e⟩
  have hkl : WideAt.IsKeyLit (.int .i64 (k : Int)) := keyedInt.key (key_int k (by omega))
  have hne : ∀ j : Nat, j ≠ k → (Lit.int .i64 (j : Int)) ≠ .int .i64 (k : Int) := fun j hj e => hj (by injection e with _ e; omega)
  have hltq : ∀ j p, (vf j).ownBlock = some p → p < w.heap.size := fun j p hp => lt_of_block (Blks.mark (h.rows j) hp).choose_spec
  have hm1 : ∀ j p, (vf j).ownBlock = some p → w2.heap[p]? = w.heap[p]? := fun j p hp => by
    have h2 : p ≠ m := by
      rintro rfl
      obtain ⟨cur, hc⟩ := Blks.mark (h.rows j) hp
      obtain ⟨es, clock, hb, _⟩ := h.own
      rw [hc] at hb; cases hb
    exact (hgr2.block p (Nat.lt_of_lt_of_le (hltq j p hp) hgr.size) (by simpa using h2)).trans (hgr.block p (hltq j p hp))
  have hqm : q ≠ m := by have := h.own.lt; omega
  have hq2 : w2.heap[q]? = w1.heap[q]? := hgr2.block q (lt_of_block (Blks.mark hnew rfl).choose_spec) (by simpa using hqm)
  have hqo : ∀ j, (vf j).ownBlock ≠ some q := fun j e => by have := hltq j q e; omega
  refine { own := hown, at_ := ?_, has := ?_, rows := ?_, len := ?_, foot := ?_, apart := ?_, wide := ?_, out := ?_ }
  · intro j hj
    by_cases e : j = k
    · subst e
      rw [atKey_put_same hmap hkl, if_pos rfl]
    · rw [atKey_put_other (hne j e), if_neg e]; exact h.at_ j hj
  · intro kl
    by_cases e : kl = .int .i64 (k : Int)
    · subst e
      refine ⟨fun _ => ⟨k, hk, by simpa [layP] using hbs, rfl⟩, fun _ => has_put_same hmap hkl _⟩
    · rw [has_put_other e, h.has]
      constructor
      · rintro ⟨j, h1, h2, rfl⟩
        have hj : j ≠ k := fun e2 => e (by rw [e2])
        exact ⟨j, h1, by simpa [layP, hj] using h2, rfl⟩
      · rintro ⟨j, h1, h2, rfl⟩
        have hj : j ≠ k := fun e2 => e (by rw [e2])
        exact ⟨j, h1, by simpa [layP, hj] using h2, rfl⟩
  · intro j
    by_cases e : j = k
    · subst e
      simp only [layP, if_true]
      exact Blks.frame hnew fun p hp _ => by cases hp; exact hq2
    · simp only [layP, if_neg e]
      exact Blks.frame (h.rows j) fun p hp _ => hm1 j p hp
  · intro j
    by_cases e : j = k
    · subst e
      simp only [layP, if_true]
      exact hln
    · simp only [layP, if_neg e]
      have := h.len j; omega
  · intro j p hp
    by_cases e : j = k
    · subst e
      simp only [if_true] at hp
      cases hp
      exact ⟨hF q hat, show q ≠ g by omega⟩
    · simp only [if_neg e] at hp
      exact h.foot j p hp
  · intro j j' p hp hp'
    by_cases e : j = k
    · by_cases e' : j' = k
      · rw [e, e']
      · simp only [if_neg e'] at hp'
        rw [if_pos e] at hp
        cases hp
        exact absurd hp' (hqo j')
    · by_cases e' : j' = k
      · simp only [if_neg e] at hp
        rw [if_pos e'] at hp'
        cases hp'
        exact absurd hp (hqo j)
      · simp only [if_neg e] at hp
        simp only [if_neg e'] at hp'
        exact h.apart j j' p hp hp'
  · intro j
    by_cases e : j = k
    · subst e
      simp only [layP, if_true]
      exact hwd
    · simp only [layP, if_neg e]
      exact h.wide j
  · intro j hj
    have e : j ≠ k := by omega
    simp only [layP, if_neg e]
    exact h.out j hj

/-- The writes that are copied, as far as 'left' says. -/
def St.cpT (S : St) (left : Lit → Bool) : Nat → List (List UInt8) := fun k => if left (.int .i64 (k : Int)) then [] else S.pend k
def St.cpAt (S : St) (left : Lit → Bool) : St := { S with pend := S.cpT left }
theorem St.cpT_start {w : World} {F : Nat → Prop} {m g n N : Nat} {S : St} {vf : Nat → Value} {D : DataW Value} (h : PendAt w F m g n N S.pend vf D) : S.cpT (Maps.has D) = fun _ => [] := by
  funext k
  unfold St.cpT
  split
  · rfl
  · rename_i hn
    by_cases hk : k < n
    · by_cases e : S.pend k = []
      · exact e
      · exact absurd ((h.has _).2 ⟨k, hk, e, rfl⟩) hn
    · exact h.out k (by omega)
theorem St.cpT_end (S : St) (left : Lit → Bool) (h : ∀ kl, left kl = false) : S.cpAt left = S := by
  unfold St.cpAt St.cpT
  simp only [h]
  rfl
theorem St.cpT_step (S : St) (left : Lit → Bool) (k : Nat) : S.cpT (fun z => left z && !z.sameKey (.int .i64 k)) = layP (S.cpT left) k (S.pend k) := by
  funext i
  unfold St.cpT layP
  simp only [sameKey_int]
  by_cases e : i = k
  · subst e; simp
  · simp [e]

theorem run_makeMap_hint (k : Nat) (w : World) : (Instr.makeMap 54 (some (.int .i64 (k : Nat)))).run Try.prog w = .ok (.map (some w.heap.size)) (w.alloc (.map #[] 0)) := by
  simp [Instr.makeMap, run_underlying Try.underlying54, asInt, asIntOf]

set_option maxRecDepth 100000 in
set_option maxHeartbeats 3200000 in
theorem Copy_in {w : World} {b : Nat} {F : Nat → Prop} {N : Nat} {S : St} {g c m : Nat} {vf : Nat → Value} {D : DataW Value} (h : DevIn w b F N S g c m vf D) (hN : N < 1000000) :
    Calls Try.prog 7 #[.pointer (some ⟨b, 0, none⟩)] w fun e w' => ∃ b2, e = .returned (.pointer (some ⟨b2, 0, none⟩)) ∧ Dev w' b2 (fun k => w.heap.size ≤ k ∧ k < w'.heap.size) (N + N) S ∧ Below w.heap.size w w' := by
  have HD := hide h
  have c0 := h.dev.c0
  have c1 := h.dev.c1
  have c2 := h.dev.c2
  have c3 := h.dev.c3
  have c4 := h.dev.c4
  have c5 := h.dev.c5
  have hblt := h.dev.lt
  clear h
  go_enter Try.func7, Try.ntmps7
  go_wp2_with fail
  have hbA : Below w.heap.size w (w.alloc (.cells #[.slice (some ⟨g, 0, none⟩) S.safe.length c, .map (some m), .bool S.fused, .int .i64 S.fuse, .bool S.down, .int .i64 S.ops] 56)) := (Below.refl _ _).alloc (Nat.le_refl _) _
  have hAd : DevAt (w.alloc (.cells #[.slice (some ⟨g, 0, none⟩) S.safe.length c, .map (some m), .bool S.fused, .int .i64 S.fuse, .bool S.down, .int .i64 S.ops] 56)) w.heap.size (.slice (some ⟨g, 0, none⟩) S.safe.length c) (.map (some m)) S.fused S.fuse S.down S.ops := heap_alloc_self _ _
  have n1 := (unhide HD).n1
  have n2 := (unhide HD).n2
  refine (Clone_blks _ g c S.safe (unhide HD).wide (Blks.frame (unhide HD).safe fun q _ hq => hbA.block q hq) (by omega) (by omega)).mono ?_
  rintro e w1 ⟨q, cap, rfl, hq, hrow, hb1⟩
  simp only [World.size_alloc] at hq hb1
  have hs1 : w.heap.size + 1 ≤ w1.heap.size := by have := hb1.size; simpa using this
  have hd1 : DevAt w1 w.heap.size (.slice (some ⟨g, 0, none⟩) S.safe.length c) (.map (some m)) S.fused S.fuse S.down S.ops := hAd.below hb1 (by omega)
  have hbw1 : Below w.heap.size w w1 := hbA.trans (hb1.mono (by omega))
  have HR1 := hide hrow
  have HW1 := hide hbw1
  have HD1 := hide hd1
  clear hrow hb1 hbA hAd c0 c1 c2 c3 c4 c5 hbw1
  have x0 := hd1.c0
  have z0 := hd1.nf 0
  have x1 := hd1.c1
  have z1 := hd1.nf 1
  clear hd1
  have y1 : w1.cell? ⟨b, 1, none⟩ = some (.map (some m)) := ((unhide HW1).cell (p := ⟨b, 1, none⟩) hblt).trans (unhide HD).dev.c1
  have hmlt := (unhide HD).pend.own.lt
  have HOWN : Hid (∀ W : World, W.heap[m]? = w.heap[m]? → W.ownsMap Try.prog 3 rawE m N D) := hide fun W hW => ownsMap_frame (unhide HD).pend.own hW
  have hm2 : (w1.setCell ⟨w.heap.size, 0, none⟩ (.slice (some ⟨q, 0, none⟩) S.safe.length cap)).heap[m]? = w.heap[m]? := (heap_setCell_other _ _ _ _ (by show m ≠ w.heap.size; omega)).trans ((unhide HW1).block m hmlt)
  have hl1 : w.heap.size < w1.heap.size := by omega
  have hl2 : b < w1.heap.size := by omega
  have hln := fun ty => (unhide HOWN _ hm2).len Try.underlying54 ty
  have hmm := fun W => run_makeMap_hint (Maps.size D) W
  obtain ⟨wB, hwB⟩ : ∃ wB, wB = (w1.setCell ⟨w.heap.size, 0, none⟩ (.slice (some ⟨q, 0, none⟩) S.safe.length cap)).setCell ⟨w.heap.size, 1, none⟩ (.map (some w1.heap.size)) := ⟨_, rfl⟩
  have hoB : Only w.heap.size w1 wB := by rw [hwB]; exact ((Only.refl _ _).set 0 _).set 1 _
  have hm4 : (wB.alloc (.map #[] 0)).heap[m]? = w.heap[m]? := (Below.heap_alloc _ _ _ (by rw [hoB.size]; omega)).trans ((hoB.other m (by omega)).trans ((unhide HW1).block m hmlt))
  have hdB : DevAt wB w.heap.size (.slice (some ⟨q, 0, none⟩) S.safe.length cap) (.map (some w1.heap.size)) S.fused S.fuse S.down S.ops := by
    rw [hwB]; exact heap_setCell_same _ _ 1 _ _ _ (heap_setCell_same w1 w.heap.size 0 _ _ _ (unhide HD1))
  have HNEW : Hid (DevIn (wB.alloc (.map #[] 0)) w.heap.size (fun k => w.heap.size ≤ k) N { S with pend := fun _ => [] } q cap w1.heap.size (fun _ => nilS) (.map [])) := hide (by
    have hsz := hoB.size
    have hbl : Below wB.heap.size wB (wB.alloc (.map #[] 0)) := (Below.refl _ _).alloc (Nat.le_refl _) _
    have hqn : q ≠ w.heap.size := by omega
    have hql : q < w1.heap.size := lt_of_block (Blks.mark (unhide HR1) rfl).choose_spec
    have hown : (wB.alloc (.map #[] 0)).ownsMap Try.prog 3 rawE w1.heap.size 0 (.map []) := by
      have := World.ownsMap_made wB Try.prog 3 rawE
      rw [hsz] at this
      exact this
    exact { dev := hdB.below hbl (by rw [hsz]; omega)
            safe := Blks.frame (unhide HR1) fun x hx hl => by cases hx; exact (hbl.block q (by rw [hsz]; exact hql)).trans (hoB.other q hqn)
            wide := (unhide HD).wide
            pend := { own := hown.mono (Nat.zero_le _), at_ := fun _ _ => rfl, has := fun kl => ⟨fun h => (by cases h), fun ⟨k, _, h, _⟩ => absurd rfl h⟩, rows := fun _ => World.ownsRow_nil _ _ _ _, len := fun _ => Nat.zero_le _, foot := fun _ _ h => (by cases h), apart := fun _ _ _ h => (by cases h), wide := fun _ L hL => (by cases hL), out := fun _ _ => rfl }
            fb := Nat.le_refl _, fg := by show w.heap.size ≤ q; omega, fm := by show w.heap.size ≤ w1.heap.size; omega
            f1 := (unhide HD).f1, f2 := (unhide HD).f2, o1 := (unhide HD).o1, o2 := (unhide HD).o2, n1 := (unhide HD).n1, n2 := (unhide HD).n2 })
  have HBB : Hid (Below w.heap.size w (wB.alloc (.map #[] 0))) := hide (((unhide HW1).trans (hoB.below _ (Nat.le_refl _))).alloc (by rw [hoB.size]; omega) _)
  have hsB : wB.heap.size = w1.heap.size := hoB.size
  have HSB := hide hsB
  rw [hwB] at hm4 HNEW HBB HSB
  clear hwB hoB hdB hsB
  go_wp2_with (first | (at_range; refine wpList_range_own _ rfl _ 54 rfl 3 53 keyedInt Try.underlying54 _ m N D rfl (unhide HOWN _ hm4) ?_; intro w0 hrg0 hg0 hs0) | fail)
  go_frame
  obtain ⟨W4, hW4⟩ : ∃ W4, W4 = ((w1.setCell ⟨w.heap.size, 0, none⟩ (.slice (some ⟨q, 0, none⟩) S.safe.length cap)).setCell ⟨w.heap.size, 1, none⟩ (.map (some w1.heap.size))).alloc (.map #[] 0) := ⟨_, rfl⟩
  rw [← hW4] at HNEW HBB hrg0 hg0 hs0 ⊢
  obtain ⟨r, hr⟩ : ∃ r, r = W4.heap.size := ⟨_, rfl⟩
  rw [← hr] at hrg0 ⊢
  have hrw : w.heap.size < r := by rw [hr, hW4]; simp [World.setCell]; omega
  obtain ⟨m2, hm2e⟩ : ∃ m2, m2 = w1.heap.size := ⟨_, rfl⟩
  have hmr : m2 < r := by rw [hm2e, hr, hW4]; simp [World.setCell]
  rw [← hm2e] at HNEW
  have hmw : w.heap.size < m2 := by omega
  clear hm2e hW4 hr hm4 hm2 hln x0 z0 x1 z1 y1
  have hz0 : Maps.size D - Maps.size D = 0 := Nat.sub_self _
  have HR0 := hide hrg0
  have HG0 := hide hg0
  have hmlw : m < w.heap.size := hmlt
  clear hrg0 hg0
  go_loopw [4] (fun _ wr => ∃ left cnt vf2 D2, wr.ranges Try.prog 3 rawE m r N D left cnt ∧ DevIn wr w.heap.size (fun k => w.heap.size ≤ k) (N + (Maps.size D - cnt)) (S.cpAt left) q cap m2 vf2 D2 ∧ Below w.heap.size w wr ∧ cnt ≤ Maps.size D) (fun _ wr => wr.rangeLeft m r)
  case atStart =>
    have hb0 : Below W4.heap.size W4 w0 := ⟨(unhide HG0).os, (unhide HG0).tape, (unhide HG0).output, (unhide HG0).size, fun k hk => (unhide HG0).block k hk (by simp)⟩
    have e : S.cpAt (Maps.has D) = { S with pend := fun _ => [] } := by unfold St.cpAt; rw [St.cpT_start (unhide HD).pend]
    refine ⟨Maps.has D, Maps.size D, fun _ => nilS, .map [], unhide HR0, ?_, (unhide HBB).trans (hb0.mono (unhide HBB).size), Nat.le_refl _⟩
    rw [e, hz0]
    exact (unhide HNEW).frame fun k _ hk => hb0.block k hk
  case round =>
    obtain ⟨left, cnt, vf2, D2, hrg, hdv, hbl, hcnt⟩ := hrel
    have HV := hide hdv
    have HB := hide hbl
    have HRG := hide hrg
    have hswr := hbl.size
    have HOLD := hide ((unhide HD).frame (w' := wr) fun k _ hk => hbl.block k hk)
    clear hdv hbl hrg
    go_wp2_with (first | (at_next; refine wpList_next_pend _ rfl _ rfl (unhide HOLD).pend (unhide HRG) rfl ?_ ?_) | fail)
    · intro hc0 hl0
      subst hc0
      have hsz := (unhide HD).pend.own.size_le
      have HF : Hid (Dev wr w.heap.size (fun k => w.heap.size ≤ k ∧ k < wr.heap.size) (N + N) S) := hide (by
        have e := S.cpT_end left hl0
        have h1 := unhide HV
        rw [e] at h1
        exact (Dev.cap ⟨_, _, _, _, _, h1⟩).mono (fun _ h => h) (by omega))
      clear hl0
      go_wp2
      go_ret
      exact ⟨w.heap.size, rfl, unhide HF, unhide HB⟩
    · intro k p cp j L w2 cnt2 hL hk hj hvf hlk hrg2 hlt hgr2 hsz2 hen
      have h2 := (unhide HOLD).frameR (unhide HRG) hgr2
      have hr2 : ∀ x, (∃ A t fr, wr.heap[x]? = some (Obj.cells A t fr)) → w2.heap[x]? = wr.heap[x]? := fun x ⟨A, t, fr, hx⟩ => hgr2.block x (lt_of_block hx) (fun e => by
        cases e
        obtain ⟨_, _, _, _, _, _, _, _, _, hi, _⟩ := unhide HRG
        rw [hx] at hi; cases hi)
      have hm2r : m2 ≠ r := by omega
      have hn2 : DevIn w2 w.heap.size (fun k => w.heap.size ≤ k) (N + (Maps.size D - cnt)) (S.cpAt left) q cap m2 vf2 D2 := { unhide HV with
        dev := (hr2 w.heap.size ⟨_, _, _, (unhide HV).dev⟩).trans (unhide HV).dev
        safe := Blks.frame (unhide HV).safe fun x hx _ => by obtain ⟨cur, hc⟩ := Blks.mark (unhide HV).safe hx; exact hr2 x ⟨_, _, _, hc⟩
        pend := (unhide HV).pend.frame' (hgr2.block m2 (unhide HV).pend.own.lt (fun e => hm2r (Option.some.inj e))) fun i x hx _ => by obtain ⟨cur, hc⟩ := Blks.mark ((unhide HV).pend.rows i) hx; exact hr2 x ⟨_, _, _, hc⟩ }
      have hrow := h2.pend.rows k
      have hjS : (S.pend k).length = L := by rw [hL]; exact hj
      rw [hvf, ← hjS] at hrow
      have hwk := (unhide HD).pend.wide k
      have hlk2 := (unhide HD).pend.len k
      have hpos : 0 < (S.pend k).length := by rw [hjS, hL]; omega
      have hk5 : k < 512 := by omega
      have cC := Clone_blks w2.drew p cp (S.pend k) hwk hrow hpos (by omega)
      rw [hjS] at cC
      have CC := hide cC
      have c1 := hn2.dev.c1
      have HN2 := hide hn2
      have hw2s : w.heap.size ≤ w2.heap.size := by rw [hsz2]; exact hswr
      have hlw : w.heap.size < w2.heap.size := hn2.dev.lt
      have HU : Hid (∀ (W3 : World) (u : Value), Below w2.heap.size w2 W3 → ∃ W4, (Instr.mapUpdate 54 (.map (some m2)) (.int .i64 k) u).run Try.prog W3 = .ok () W4 ∧ W4.ownsMap Try.prog 3 rawE m2 (N + (Maps.size D - cnt) + 1) (D2.put (.int .i64 k) (.held u)) ∧ W3.grownBy W4 (some m2)) := hide fun W3 u hW => by
        have hsz := (unhide HD).pend.own.size_le
        exact (ownsMap_frame hn2.pend.own (hW.block m2 hn2.pend.own.lt)).update keyedInt Try.underlying54 (by unfold maxLen; omega) (key_int k (by omega)) rfl
      have HRG2 := hide hrg2
      have HLT := hide hlt
      have HFIN : Hid (∀ (W3 W5 : World) (x cx : Nat), Below w2.heap.size w2 W3 → w2.heap.size ≤ x → Blks W3 (.slice (some ⟨x, 0, none⟩) L cx) (S.pend k) → W5.ownsMap Try.prog 3 rawE m2 (N + (Maps.size D - cnt) + 1) (D2.put (.int .i64 k) (.held (.slice (some ⟨x, 0, none⟩) L cx))) → W3.grownBy W5 (some m2) →
          ∃ vf3 D3, W5.ranges Try.prog 3 rawE m r N D (fun z => left z && !z.sameKey (.int .i64 k)) cnt2 ∧ DevIn W5 w.heap.size (fun k => w.heap.size ≤ k) (N + (Maps.size D - cnt2)) (S.cpAt (fun z => left z && !z.sameKey (.int .i64 k))) q cap m2 vf3 D3 ∧ Below w.heap.size w W5) := hide fun W3 W5 x cx hb3 hx hbx hox hg5 => by
        have hn3 := unhide HN2
        have hmne : m ≠ m2 := by omega
        have hrl : r < w2.heap.size := (unhide HRG2).lt
        have hqlt : q < w2.heap.size := lt_of_block (Blks.mark hn3.safe rfl).choose_spec
        obtain ⟨e1, e2, e3⟩ := hn3.ne_map
        have hg3 : w2.grownBy W3 none := ⟨hb3.os, hb3.tape, hb3.output, hb3.size, fun i hi _ => hb3.block i hi⟩
        rw [← hjS] at hbx hox
        obtain ⟨vf3, D3, hp⟩ : ∃ vf3 D3, PendAt W5 (fun k => w.heap.size ≤ k) m2 q (S.cpAt left).safe.length (N + (Maps.size D - cnt) + 1) (layP (S.cpAt left).pend k (S.pend k)) vf3 D3 := ⟨_, _, hn3.pend.lay k hk (S.pend k) (List.length_pos_iff.1 hpos) hwk (by omega) x cx (fun y hy => by show w.heap.size ≤ y; omega) hqlt hn3.n2 hbx hb3 hx hox hg5⟩
        have hb5 : ∀ y, y < w2.heap.size → y ≠ m2 → W5.heap[y]? = w2.heap[y]? := fun y hy hne => (hg5.block y (Nat.lt_of_lt_of_le hy hb3.size) (by simpa using hne)).trans (hb3.block y hy)
        have hrgF := ((unhide HRG2).kept hg3 (by simp) (by simp)).kept hg5 (by simpa using hmne) (by simpa using Ne.symm hm2r)
        have hp2 : PendAt W5 (fun k => w.heap.size ≤ k) m2 q S.safe.length (N + (Maps.size D - cnt) + 1) (S.cpAt (fun z => left z && !z.sameKey (.int .i64 k))).pend vf3 D3 := by
          have e : (S.cpAt (fun z => left z && !z.sameKey (.int .i64 k))).pend = layP (S.cpAt left).pend k (S.pend k) := S.cpT_step left k
          rw [e]; exact hp
        have h9 := unhide HLT
        have hle : N + (Maps.size D - cnt) + 1 ≤ N + (Maps.size D - cnt2) := by omega
        have h6 : S.ops ≤ ((N + (Maps.size D - cnt) : Nat) : Int) := hn3.o2
        have hdev : DevIn W5 w.heap.size (fun k => w.heap.size ≤ k) (N + (Maps.size D - cnt2)) (S.cpAt (fun z => left z && !z.sameKey (.int .i64 k))) q cap m2 vf3 D3 :=
          { dev := (hb5 w.heap.size hlw (by omega)).trans hn3.dev
            safe := Blks.frame hn3.safe fun y hy _ => by cases hy; exact hb5 q hqlt e2
            wide := hn3.wide
            pend := hp2.mono (fun _ h => h) hle
            fb := hn3.fb, fg := hn3.fg, fm := hn3.fm, f1 := hn3.f1, f2 := hn3.f2, o1 := hn3.o1
            o2 := by show S.ops ≤ _; omega
            n1 := hn3.n1, n2 := hn3.n2 }
        refine ⟨vf3, D3, hrgF, hdev, ?_⟩
        refine ((unhide HB).trans ?_).trans (((Below.mono hb3 hw2s)).trans ⟨hg5.os, hg5.tape, hg5.output, hg5.size, fun y hy => hg5.block y (by have := hb3.size; omega) (by simp; omega)⟩)
        exact ⟨hgr2.os, hgr2.tape, hgr2.output, hgr2.size, fun y hy => hgr2.block y (by omega) (by simp; omega)⟩
      clear hrg2 hlt h2 hr2 hn2 hrow hgr2 hvf cC hlk hj hL hjS hpos hwk hlk2
      go_wp2_with fail
      go_region_held3 (fun w' => w'.cell? ⟨w.heap.size, 1, none⟩ = some (.map (some m2)))
        (first | exact c1 | exact (hb3.cell (p := ⟨w.heap.size, 1, none⟩) hlw).trans c1 | exact (hmg.cell_far ⟨w.heap.size, 1, none⟩ (by have := hb3.size; show w.heap.size < w3.heap.size; omega) (fun e => by have : w.heap.size = m2 := Option.some.inj e; omega)).trans ((hb3.cell (p := ⟨w.heap.size, 1, none⟩) hlw).trans c1))
        (first | (go_at_call 19; refine (unhide CC).mono ?_; rintro e w3 ⟨x, cx, rfl, hx, hbx, hb0⟩; have hb3 : Below w2.heap.size w2 w3 := after_drew hb0; obtain ⟨W5, hmu, hmo, hmg⟩ := unhide HU w3 (.slice (some ⟨x, 0, none⟩) L cx) hb3))
      obtain ⟨vf3, D3, q1, q2, q3⟩ := unhide HFIN w3 W5 x cx hb3 hx hbx hmo hmg
      have HX := hide q1
      have HY := hide q2
      have HZ := hide q3
      have h9 := unhide HLT
      clear q1 q2 q3 hmu hmo hmg hbx hb0 hb3
      go_wp2
      refine ⟨⟨_, cnt2, vf3, D3, unhide HX, unhide HY, unhide HZ, by omega⟩, ?_⟩
      rw [(unhide HX).left_eq, (unhide HRG).left_eq]
      exact h9

theorem Copy_dev {w : World} {b : Nat} {F : Nat → Prop} {N : Nat} {S : St} (h : Dev w b F N S) (hN : N < 1000000) :
    Calls Try.prog 7 #[.pointer (some ⟨b, 0, none⟩)] w fun e w' => ∃ b2, e = .returned (.pointer (some ⟨b2, 0, none⟩)) ∧ Dev w' b2 (fun k => w.heap.size ≤ k ∧ k < w'.heap.size) (N + N) S ∧ Below w.heap.size w w' := by
  obtain ⟨g, c, m, vf, D, h⟩ := h
  exact Copy_in h hN
end Go.Proofs.Ytfoanlmmjbclgaa

/-
  DERIVED. The law's awake: the chapter's examples.
-/
namespace Go.Proofs.Ytfoanlmmjbclgaa
open Go.RowKit Go.Maps
set_option linter.unusedVariables false

/-- Two writes, of one block. -/
def twice (L M : List UInt8) : St := (((St.new 64).burn.wrote 3 L).burn.wrote 3 M).burn
theorem twice_keys (L M : List UInt8) : (twice L M).keys = [3] := by rfl
theorem twice_new (L M : List UInt8) : ((((St.new 64).burn.wrote 3 L).burn.wrote 3 M)).newest 3 = M := by rfl
theorem twice_crash (L M : List UInt8) : ((twice L M).crash [1]).newest 3 = L := by rfl

set_option maxRecDepth 100000 in
set_option maxHeartbeats 3200000 in
theorem awake_any (w : World) : Calls Try.prog 4 #[] w fun e w' => e = .returned (.bool true) ∧ Below w.heap.size w w' := by
  obtain ⟨L, hL⟩ : ∃ L, L = headL ⟨#[]⟩ (fillL (UInt8.ofNat (pickR 1 255)) 512) := ⟨_, rfl⟩
  obtain ⟨M, hM⟩ : ∃ M, M = headL ⟨#[]⟩ (fillL (UInt8.ofNat (pickR 2 255)) 512) := ⟨_, rfl⟩
  have cB1 := fun W => Block_sl 1 ⟨#[]⟩ W (by omega) (by omega)
  have cB2 := fun W => Block_sl 2 ⟨#[]⟩ W (by omega) (by omega)
  have hL5 : L.length = 512 := by rw [hL]; exact headL_len _ _
  have hM5 : M.length = 512 := by rw [hM]; exact headL_len _ _
  have hL9 : L[9]? = some 1 := by rw [hL]; rfl
  have hM9 : M[9]? = some 2 := by rw [hM]; rfl
  rw [← hL] at cB1
  rw [← hM] at cB2
  have HB1 := hide cB1
  have HB2 := hide cB2
  clear cB1 cB2 hL hM
  go_enter Try.func4, Try.ntmps4
  go_wp2_with fail
  refine (New_dev 64 w (by omega) (by omega)).mono ?_
  rintro e w1 ⟨rfl, d1, b1⟩
  have s1 := b1.size
  have H1 := hide d1
  have K1 := hide b1
  clear d1 b1
  go_wp2_with fail
  refine (unhide HB1 w1).mono ?_
  rintro e w2 ⟨rfl, l2, b2⟩
  have s2 := b2.size
  have H2 := hide ((unhide H1).grown b2)
  have L2 := hide l2
  have K2 := hide ((unhide K1).trans (b2.mono s1))
  clear l2 b2
  go_wp2_with fail
  refine (Write_own (base := w.heap.size) (unhide H2) (fun k hk => ⟨hk.1, by omega⟩) (by omega) 3 L _ (by decide) rfl rfl (unhide L2) hL5 (by omega)).mono ?_
  rintro e w3 ⟨rfl, ⟨F3, f3, _, d3⟩, k3⟩
  have s3 := k3.size
  have H3 := hide d3
  have G3 := hide f3
  have K3 := hide ((unhide K2).trans (k3.below (by omega) fun k hk => hk.1))
  clear d3 f3 k3
  go_wp2_with fail
  refine (unhide HB2 w3).mono ?_
  rintro e w4 ⟨rfl, l4, b4⟩
  have s4 := b4.size
  have H4 := hide ((unhide H3).grown b4)
  have L4 := hide l4
  have K4 := hide ((unhide K3).trans (b4.mono (by omega)))
  clear l4 b4
  go_wp2_with fail
  refine (Write_own (base := w.heap.size) (unhide H4) (fun k hk => ⟨(unhide G3 k hk).1, by have := (unhide G3 k hk).2; omega⟩) (by omega) 3 M _ (by simp [St.wrote, St.burn, St.new]) rfl rfl (unhide L4) hM5 (by omega)).mono ?_
  rintro e w5 ⟨rfl, ⟨F5, f5, _, d5⟩, k5⟩
  have s5 := k5.size
  have H5 := hide d5
  have G5 := hide f5
  have K5 := hide ((unhide K4).trans (k5.below (by omega) fun k hk => (unhide G3 k hk).1))
  clear d5 f5 k5
  go_wp2_with fail
  refine (Read_dev (unhide H5) 3 (by simp [St.wrote, St.burn, St.new]) rfl rfl (by omega)).mono ?_
  rintro e w6 ⟨q6, rfl, hq6, hr6, d6, k6⟩
  rw [twice_new L M] at hr6
  have s6 := k6.size
  have q6l : q6 < w6.heap.size := lt_of_block hr6
  have H6 := hide d6
  have R6 := hide hr6
  have K6 := hide ((unhide K5).trans (k6.below (by omega) fun k hk => (unhide G5 k hk).1))
  clear d6 hr6 k6
  go_wp2_with fail
  obtain ⟨g6, c6, m6, vf6, D6, e6⟩ := unhide H6
  refine (Pending_form e6 (by omega)).mono ?_
  rintro e w7 ⟨ao7, cap7, rfl, ha7, b7⟩
  have ek : (((((St.new 64).burn.wrote 3 L).burn.wrote 3 M).burn).keys) = [3] := twice_keys L M
  obtain ⟨q7, rfl, hq7, q7l, hc7⟩ := ha7 0 (by rw [ek]; decide)
  have hc7' : w7.cell? ⟨q7, 0, none⟩ = some (.int .i64 3) := by
    have e0 : (((((St.new 64).burn.wrote 3 L).burn.wrote 3 M).burn).keys)[0]'(by rw [ek]; decide) = 3 := by simp [ek]
    rw [e0] at hc7
    exact hc7
  rw [ek]
  have s7 := b7.size
  have H7 := hide ((unhide H6).grown b7)
  have R7 := hide ((b7.block q6 q6l).trans (unhide R6))
  have K7 := hide ((unhide K6).trans (b7.mono (by omega)))
  have C7 := hide hc7'
  clear e6 ha7 hc7 hc7' b7 ek
  go_wp2_with fail
  have b8 : Below w7.heap.size w7 (w7.alloc (.cells #[.int .i64 1] 3)) := (Below.refl _ _).alloc (Nat.le_refl _) _
  have i8 : Ints (w7.alloc (.cells #[.int .i64 1] 3)) (.slice (some ⟨w7.heap.size, 0, none⟩) 1 1) [1] := by
    refine ⟨_, _, rfl, by simp, by simp, fun _ => ⟨w7.heap.size, 0, rfl, by simp, fun i hi => ?_⟩⟩
    have : i = 0 := by simp at hi; omega
    subst this
    simp
  refine (Crash_dev ((unhide H7).grown b8) (by omega) [1] _ i8 (fun _ pb hpb hf => by cases hpb; have h2 : w7.heap.size < w5.heap.size := (unhide G5 _ hf).2; omega)).mono ?_
  rintro e w9 ⟨rfl, d9, k9⟩
  have s9 : w7.heap.size + 1 ≤ w9.heap.size := by have := k9.size; simpa using this
  have H9 := hide d9
  have nF : ∀ k, w5.heap.size ≤ k → ¬ F5 k := fun k hk hf => by have := (unhide G5 _ hf).2; omega
  have R9 := hide ((k9.block q6 (by simp; omega) (nF _ hq6)).trans ((b8.block q6 (by omega)).trans (unhide R7)))
  have C9 : Hid (w9.cell? ⟨q7, 0, none⟩ = some (.int .i64 3)) := hide ((World.cell?_of_block (a := ⟨q7, 0, none⟩) (k9.block q7 (by simp; omega) (nF _ (by omega)))).trans ((b8.cell (p := ⟨q7, 0, none⟩) q7l).trans (unhide C7)))
  have K9 := hide ((unhide K7).trans ((b8.mono (by omega)).trans (k9.below (by simp; omega) fun k hk => (unhide G5 k hk).1)))
  clear d9 k9 b8 i8
  go_wp2_with fail
  have el : 3 < ((twice L M).crash [1]).safe.length := by show 3 < (St.crashTo _ _ _).length; rw [St.crashTo_len]; simp [twice, St.wrote, St.burn, St.new]
  refine (Read_dev (unhide H9) 3 el rfl rfl (by omega)).mono ?_
  rintro e w10 ⟨q10, rfl, hq10, hr10, d10, k10⟩
  have en : (((((St.new 64).burn.wrote 3 L).burn.wrote 3 M).burn).crash [1]).newest 3 = L := twice_crash L M
  rw [en] at hr10
  have s10 := k10.size
  have C10 : w10.cell? ⟨q7, 0, none⟩ = some (.int .i64 3) := (World.cell?_of_block (a := ⟨q7, 0, none⟩) (k10.block q7 (by omega) (nF _ (by omega)))).trans (unhide C9)
  have C11 : w10.cell? ⟨q6, 9, none⟩ = some (.int .u8 2) := by
    have r := (k10.block q6 (by omega) (nF _ hq6)).trans (unhide R9)
    rw [cell_of_row _ _ _ _ _ _ r]
    simp [hM9]
  have C12 : w10.cell? ⟨q10, 9, none⟩ = some (.int .u8 1) := by
    rw [cell_of_row _ _ _ _ _ _ hr10]
    simp [hL9]
  have K10 := hide ((unhide K9).trans (k10.below (by omega) fun k hk => (unhide G5 k hk).1))
  have H10 := hide d10
  clear d10 k10 hr10 en el nF
  obtain ⟨g11, c11, m11, vf11, D11, e11⟩ := unhide H10
  have hl : ((((((St.new 64).burn.wrote 3 L).burn.wrote 3 M).burn).crash [1]).burn).safe.length = 64 := by show (St.crashTo _ _ _).length = 64; rw [St.crashTo_len]; simp [St.wrote, St.burn, St.new]
  have d11 := e11.dev
  rw [hl] at d11
  have D12 := hide d11
  clear e11 d11 hl
  go_wp2_with (first | (go_at_call 17; refine (Blocks_dev (unhide D12)).mono ?_; rintro e w' ⟨rfl, rfl⟩) | fail)
  go_ret
  exact ⟨rfl, unhide K10⟩
end Go.Proofs.Ytfoanlmmjbclgaa

/-
  DERIVED. How a slice of the law's calls is opened.
-/
namespace Go.Proofs.Ytfoanlmmjbclgaa
open Go.ChangeShapes Go.WideShapes Go.ChangeAt Go.RowKit
set_option linter.unusedVariables false

/-- A call, as it reads. -/
structure Cl where
  kind : Int
  two : Bool
  n : Int
  fill : Int
  head : ByteArray
  picks : List Int
instance : Inhabited Cl := ⟨⟨0, false, 0, 0, ByteArray.empty, []⟩⟩

abbrev I64 (x : Int) : Prop := -9223372036854775808 ≤ x ∧ x < 9223372036854775808
structure ClAt (w : World) (b o : Nat) (c : Cl) : Prop where
  c0 : w.cell? ⟨b, o, none⟩ = some (.int .i64 c.kind)
  c1 : w.cell? ⟨b, o + 1, none⟩ = some (.bool c.two)
  c2 : w.cell? ⟨b, o + 2, none⟩ = some (.int .i64 c.n)
  c3 : w.cell? ⟨b, o + 3, none⟩ = some (.int .i64 c.fill)
  c4 : w.cell? ⟨b, o + 4, none⟩ = some (.string c.head)
  c5 : ∃ v, w.cell? ⟨b, o + 5, none⟩ = some v ∧ Ints w v c.picks
  i0 : I64 c.kind
  i2 : I64 c.n
  i3 : I64 c.fill

/-- A slice of calls. -/
def ClL (w : World) (v : Value) (l : List Cl) : Prop :=
  ∃ ao cap, v = .slice ao l.length cap ∧ l.length ≤ 9223372036854775807 ∧ (0 < l.length → ∃ b off, ao = some ⟨b, off, none⟩ ∧ b < w.heap.size ∧ ∀ i, (h : i < l.length) → ClAt w b (off + i * 6) l[i])

theorem Ints.below {B : Nat} {w w' : World} {v : Value} {l : List Int} (h : Ints w v l) (hb : Below B w w') (hB : w.heap.size ≤ B) : Ints w' v l := by
  obtain ⟨ao, cap, rfl, h1, h2, h3⟩ := h
  refine ⟨ao, cap, rfl, h1, h2, fun hne => ?_⟩
  obtain ⟨pb, off, e, hp, hc⟩ := h3 hne
  exact ⟨pb, off, e, by have := hb.size; omega, fun i hi => (hb.cell (p := ⟨pb, off + i, none⟩) (by show pb < B; omega)).trans (hc i hi)⟩
theorem ClAt.below {B : Nat} {w w' : World} {b o : Nat} {c : Cl} (h : ClAt w b o c) (hb : Below B w w') (hB : w.heap.size ≤ B) (hlt : b < B) : ClAt w' b o c :=
  { c0 := (hb.cell (p := ⟨b, _, none⟩) hlt).trans h.c0, c1 := (hb.cell (p := ⟨b, _, none⟩) hlt).trans h.c1, c2 := (hb.cell (p := ⟨b, _, none⟩) hlt).trans h.c2, c3 := (hb.cell (p := ⟨b, _, none⟩) hlt).trans h.c3, c4 := (hb.cell (p := ⟨b, _, none⟩) hlt).trans h.c4
    c5 := by obtain ⟨v, h1, h2⟩ := h.c5; exact ⟨v, (hb.cell (p := ⟨b, _, none⟩) hlt).trans h1, h2.below hb hB⟩
    i0 := h.i0, i2 := h.i2, i3 := h.i3 }

theorem Try.cellsCl : Try.prog.cellsOf 37 = 6 := by kernel_rfl
theorem Try.cellsStr : Try.prog.cellsOf 9 = 1 := by kernel_rfl
theorem Try.cellsBool : Try.prog.cellsOf 4 = 1 := by kernel_rfl
theorem Try.cellsInts : Try.prog.cellsOf 35 = 1 := by kernel_rfl
theorem Try.underCl : ∃ f0 f1 f2 f3 f4 f5, Try.prog.underlying 37 = some (.struct #[f0, f1, f2, f3, f4, f5]) ∧ (f0.offset = 0 ∧ f1.offset = 1 ∧ f2.offset = 2 ∧ f3.offset = 3 ∧ f4.offset = 4 ∧ f5.offset = 5) ∧ f0.type = 3 ∧ f1.type = 4 ∧ f2.type = 3 ∧ f3.type = 3 ∧ f4.type = 9 ∧ f5.type = 35 := ⟨_, _, _, _, _, _, Try.underlying37, ⟨rfl, rfl, rfl, rfl, rfl, rfl⟩, rfl, rfl, rfl, rfl, rfl, rfl⟩

theorem open_intl' {H : Type} {enc : TypeId × Value → H} {W : World} {v : Value} {y : DataW H × List MemPlace} {fuel : Nat}
    (hf : DataW.trod enc Try.prog W 0 (fun _ => true) true fuel 35 [v] = some y) : ∃ l : List Int, Ints W v l := by
  rcases open_ints Try.underlying35 Try.underlying3 Try.cellsInt hf with ⟨hcs, hx⟩ | ⟨x, l, cp, zs, hcs, _, hl, hm, hz, hx, hcell, hwz⟩
  · simp at hcs
    subst hcs
    exact ⟨[], none, 0, rfl, by simp, by simp, fun h => absurd rfl h⟩
  · simp at hcs
    subst hcs
    exact open_intl (enc := enc) (d := y.1) (p := y.2) ⟨fuel, by simpa [Value.cells] using hf⟩

set_option maxRecDepth 100000 in
theorem open_calls {H : Type} {enc : TypeId × Value → H} {W : World} {a : Option Addr} {n c : Nat} {d : DataW H} {p : List MemPlace}
    (h : DataW.Trod enc Try.prog W 0 (fun _ => true) true 22 (.slice a n c) d p) : ∃ l : List Cl, ClL W (.slice a n c) l := by
  obtain ⟨fuel, hf⟩ := h
  obtain ⟨f0, f1, f2, f3, f4, f5, hu, ⟨o0, o1, o2, o3, o4, o5⟩, t0, t1, t2, t3, t4, t5⟩ := Try.underCl
  rcases Go.Deep.open_slice Try.underlying22 hf with ⟨hcs, hx⟩ | ⟨x, n', cap, m, k, D, Pl, hcs, _, hl, hm, hz, hx, hcell⟩
  · simp [Value.cells] at hcs
    obtain ⟨rfl, rfl, rfl⟩ := hcs
    exact ⟨[], none, 0, rfl, by simp, fun h => by simp at h⟩
  · simp [Value.cells] at hcs
    obtain ⟨rfl, rfl, rfl⟩ := hcs
    rw [if_pos rfl] at hz
    subst hz
    unfold maxLen at hm
    have hel : ∀ i, i < n → ∃ e : Cl, I64 e.kind ∧ I64 e.n ∧ I64 e.fill ∧ W.cell? (x.add (i * 6)) = some (.int .i64 e.kind) ∧ W.cell? (x.add (i * 6 + 1)) = some (.bool e.two) ∧ W.cell? (x.add (i * 6 + 2)) = some (.int .i64 e.n) ∧ W.cell? (x.add (i * 6 + 3)) = some (.int .i64 e.fill) ∧ W.cell? (x.add (i * 6 + 4)) = some (.string e.head) ∧ ∃ v, W.cell? (x.add (i * 6 + 5)) = some v ∧ Ints W v e.picks := by
      intro i hi
      obtain ⟨cs, q1, q2⟩ := hcell i (by omega)
      rw [Try.cellsCl] at q1
      obtain ⟨_, hlen, hc⟩ := World.cells?_some q1
      match cs, hlen with
      | [c0, c1, c2, c3, c4, c5], _ =>
        obtain ⟨xs, k', _, _, _, hxl, hfl⟩ := DataW.trod_struct hu q2
        match xs, hxl with
        | [x0, x1, x2, x3, x4, x5], _ =>
          have g0 := hfl 0 f0 rfl
          have g1 := hfl 1 f1 rfl
          have g2 := hfl 2 f2 rfl
          have g3 := hfl 3 f3 rfl
          have g4 := hfl 4 f4 rfl
          have g5 := hfl 5 f5 rfl
          rw [o0, t0, Try.cellsInt] at g0
          rw [o1, t1, Try.cellsBool] at g1
          rw [o2, t2, Try.cellsInt] at g2
          rw [o3, t3, Try.cellsInt] at g3
          rw [o4, t4, Try.cellsStr] at g4
          rw [o5, t5, Try.cellsInts] at g5
          obtain ⟨s0, e0, _, w0⟩ := DataW.trod_int Try.underlying3 g0
          obtain ⟨s1, e1, _⟩ := DataW.trod_bool Try.underlying4 g1
          obtain ⟨s2, e2, _, w2⟩ := DataW.trod_int Try.underlying3 g2
          obtain ⟨s3, e3, _, w3⟩ := DataW.trod_int Try.underlying3 g3
          obtain ⟨s4, e4, _, w4⟩ := DataW.trod_string Try.underlying9 g4
          simp at e0 e1 e2 e3 e4
          subst e0 e1 e2 e3 e4
          simp at g5
          obtain ⟨l5, h5⟩ := open_intl' g5
          have k0 := hc 0 (by omega)
          have k1 := hc 1 (by omega)
          have k2 := hc 2 (by omega)
          have k3 := hc 3 (by omega)
          have k4 := hc 4 (by omega)
          have k5 := hc 5 (by omega)
          rw [Go.Deep.add_add] at k0 k1 k2 k3 k4 k5
          have b0 := bounds_i64 w0
          have b2 := bounds_i64 w2
          have b3 := bounds_i64 w3
          have B0 : I64 s0 := ⟨by omega, by omega⟩
          have B2 : I64 s2 := ⟨by omega, by omega⟩
          have B3 : I64 s3 := ⟨by omega, by omega⟩
          exact ⟨⟨s0, s1, s2, s3, s4, l5⟩, B0, B2, B3, k0, k1, k2, k3, k4, c5, k5, h5⟩
    obtain ⟨F, hF⟩ := Go.Deep.choose_lt (α := Cl) hel
    have hlen : ((List.range n).map F).length = n := by simp
    refine ⟨(List.range n).map F, some x, _, by rw [hlen], by rw [hlen]; omega, fun hz => ?_⟩
    rw [hlen] at hz
    have h0 := (hF 0 (by omega)).2.2.2.1
    have hsp := World.cell?_spot h0
    obtain ⟨b, off, sp⟩ := x
    have hsp' : sp = none := by
      cases sp with
      | none => rfl
      | some k => simp [Addr.add] at hsp
    subst hsp'
    refine ⟨b, off, rfl, ?_, fun i hi => ?_⟩
    · rw [addr_add] at h0
      exact World.block_lt_of_cell? W ⟨b, off + 0 * 6, none⟩ h0
    · have hi' : i < n := by rw [hlen] at hi; exact hi
      obtain ⟨j0, j2, j3, q0, q1, q2, q3, q4, v, q5, q6⟩ := hF i hi'
      rw [addr_add] at q0 q1 q2 q3 q4 q5
      have e : ((List.range n).map F)[i] = F i := by simp
      rw [e]
      simp only [← Nat.add_assoc] at q1 q2 q3 q4 q5
      exact { c0 := q0, c1 := q1, c2 := q2, c3 := q3, c4 := q4, c5 := ⟨v, q5, q6⟩, i0 := j0, i2 := j2, i3 := j3 }
end Go.Proofs.Ytfoanlmmjbclgaa

/-
  DERIVED. The document's device in memory; what an operation asks first.
-/
namespace Go.Proofs.Ytfoanlmmjbclgaa
open Go.RowKit
set_option linter.unusedVariables false
set_option maxRecDepth 20000

theorem rowF {w w' : World} {e : TypeId} {s : Nat} {v : Value} {n : Nat} {xs : List Value} (h : w.ownsRow 0 e s v n xs) (hk : ∀ q, v.ownBlock = some q → q < w.heap.size → w'.heap[q]? = w.heap[q]?) : w'.ownsRow 0 e s v n xs := by
  obtain ⟨h1, h2⟩ := h
  refine ⟨h1, ?_⟩
  rcases h2 with h2 | ⟨q, cap, cur, rfl, hb, hg, r⟩
  · exact .inl h2
  · exact .inr ⟨q, cap, cur, rfl, hb, (hk q rfl (lt_of_block hg)).trans hg, r⟩
theorem rowL {w : World} {b : Nat} {e : TypeId} {s : Nat} {v : Value} {n : Nat} {xs : List Value} (h : w.ownsRow b e s v n xs) {q : Nat} (hq : v.ownBlock = some q) : b ≤ q ∧ q < w.heap.size ∧ ∃ cur, w.heap[q]? = some (.cells cur e (0, 0)) := by
  rcases h.2 with ⟨rfl, _⟩ | ⟨g, cap, cur, rfl, hb, hg, r⟩
  · cases hq
  · cases hq; exact ⟨hb, lt_of_block hg, cur, hg⟩
theorem rowSet {w : World} {e : TypeId} {g n cap : Nat} {xs : List Value} (h : w.ownsRow 0 e 1 (.slice (some ⟨g, 0, none⟩) n cap) n xs) (k : Nat) (x : Value) : (w.setCell ⟨g, k, none⟩ x).ownsRow 0 e 1 (.slice (some ⟨g, 0, none⟩) n cap) n (xs.set k x) := by
  obtain ⟨h1, h2⟩ := h
  refine ⟨by rw [List.length_set]; exact h1, ?_⟩
  rcases h2 with ⟨h2, _⟩ | ⟨g', cap', cur, e1, hb, hg, a1, a2, a3, a4⟩
  · cases h2
  · cases e1
    refine .inr ⟨g, cap, cur.setIfInBounds k x, rfl, hb, heap_setCell_same w g k _ _ _ hg, a1, a2, by rw [Array.size_setIfInBounds]; exact a3, ?_⟩
    rw [Array.toList_setIfInBounds, ← a4, List.take_set]
theorem rowCell {w : World} {e : TypeId} {s g n cap : Nat} {xs : List Value} (h : w.ownsRow 0 e s (.slice (some ⟨g, 0, none⟩) n cap) n xs) (k : Nat) (x : Value) (hx : xs[k]? = some x) : w.cell? ⟨g, k, none⟩ = some x ∧ w.frozen? ⟨g, k, none⟩ = false := by
  have := h.cells (g := g) rfl k x hx
  rw [addr_add, Nat.zero_add] at this
  obtain ⟨_, _, cur, hg⟩ := rowL h (q := g) rfl
  exact ⟨this, frozen_of_row w g k _ _ hg⟩
theorem rowForm {w : World} {b : Nat} {e : TypeId} {s : Nat} {v : Value} {n : Nat} {xs : List Value} (h : w.ownsRow b e s v n xs) : ∃ ao cap, v = .slice ao n cap ∧ n ≤ cap ∧ cap ≤ 9223372036854775807 ∧ (0 < n → ∃ q, ao = some ⟨q, 0, none⟩) := by
  rcases h.2 with ⟨rfl, h0⟩ | ⟨g, cap, cur, rfl, hb, hg, hn, hm, hs, ht⟩
  · exact ⟨none, 0, by rw [h0], by omega, by omega, fun h => by omega⟩
  · exact ⟨some ⟨g, 0, none⟩, cap, rfl, hn, by unfold maxLen at hm; omega, fun _ => ⟨g, rfl⟩⟩

abbrev sV (L : List UInt8) : Value := .string ⟨L.toArray⟩
/-- The cells of pending writes. -/
def pC (ps : List (Nat × List UInt8)) : List Value := ps.flatMap fun p => [.int .i64 (p.1 : Int), sV p.2]
theorem pC_snoc (ps : List (Nat × List UInt8)) (p : Nat × List UInt8) : pC (ps ++ [p]) = pC ps ++ [.int .i64 (p.1 : Int), sV p.2] := by simp [pC]
theorem pC_at : ∀ (ps : List (Nat × List UInt8)) (i : Nat) (h : i < ps.length), (pC ps)[i * 2]? = some (.int .i64 (ps[i].1 : Int)) ∧ (pC ps)[i * 2 + 1]? = some (sV ps[i].2)
  | p :: ps, 0, _ => ⟨rfl, rfl⟩
  | p :: ps, i + 1, h => by
    have := pC_at ps i (by simpa using h)
    have e : (i + 1) * 2 = i * 2 + 2 := by omega
    rw [e]
    exact this
/-- The writes of one block. -/
def wOf (ps : List (Nat × List UInt8)) (n : Nat) : List (List UInt8) := (ps.filter fun p => decide (p.1 = n)).map (·.2)
theorem wOf_snoc (ps : List (Nat × List UInt8)) (p : Nat × List UInt8) (n : Nat) : wOf (ps ++ [p]) n = if n = p.1 then wOf ps n ++ [p.2] else wOf ps n := by
  unfold wOf
  rw [List.filter_append, List.map_append]
  by_cases e : n = p.1
  · subst e; simp
  · simp [e, Ne.symm e]
/-- The document's device in memory. -/
structure RDAt (w : World) (G : Nat → Prop) (rb : Nat) (S : St) (sg sc : Nat) (pv : Value) (ps : List (Nat × List UInt8)) (fz : Int) : Prop where
  blk : w.heap[rb]? = some (.cells #[.slice (some ⟨sg, 0, none⟩) S.safe.length sc, pv, .int .i64 fz, .bool S.down, .int .i64 S.ops] 44 (0, 0))
  safeR : w.ownsRow 0 9 1 (.slice (some ⟨sg, 0, none⟩) S.safe.length sc) S.safe.length (S.safe.map sV)
  pendR : w.ownsRow 0 68 2 pv ps.length (pC ps)
  pend : ∀ n, S.pend n = wOf ps n
  inb : ∀ p ∈ ps, p.1 < S.safe.length
  f1 : S.fused = decide (0 ≤ fz)
  f2 : S.fuse = max fz 0
  f3 : -9223372036854775808 ≤ fz
  f4 : fz < 9223372036854775808
  gr : G rb
  gs : G sg
  gp : ∀ q, pv.ownBlock = some q → G q
  pl : (ps.length : Int) ≤ S.ops
  n1 : 64 ≤ S.safe.length
  n2 : S.safe.length ≤ 512
  o1 : 0 ≤ S.ops
section
variable {w w' : World} {G : Nat → Prop} {rb : Nat} {S : St} {sg sc : Nat} {pv : Value} {ps : List (Nat × List UInt8)} {fz : Int}
theorem RDAt.kinds (h : RDAt w G rb S sg sc pv ps fz) : sg ≠ rb ∧ ∀ q, pv.ownBlock = some q → q ≠ rb ∧ q ≠ sg := by
  obtain ⟨_, _, c1, g1⟩ := rowL h.safeR (q := sg) rfl
  have hr := h.blk
  refine ⟨fun e => ?_, fun q hq => ⟨fun e => ?_, fun e => ?_⟩⟩
  · subst e; rw [g1] at hr; simp only [Option.some.injEq, Obj.cells.injEq] at hr; exact absurd hr.2.1 (by decide)
  · obtain ⟨_, _, c2, g2⟩ := rowL h.pendR hq; subst e; rw [g2] at hr; simp only [Option.some.injEq, Obj.cells.injEq] at hr; exact absurd hr.2.1 (by decide)
  · obtain ⟨_, _, c2, g2⟩ := rowL h.pendR hq; subst e; rw [g1] at g2; simp only [Option.some.injEq, Obj.cells.injEq] at g2; exact absurd g2.2.1 (by decide)
theorem RDAt.same (h : RDAt w G rb S sg sc pv ps fz) (hs : ∀ q, G q → w'.heap[q]? = w.heap[q]?) : RDAt w' G rb S sg sc pv ps fz :=
  { h with
    blk := (hs rb h.gr).trans h.blk
    safeR := rowF h.safeR fun q hq _ => hs q (by cases hq; exact h.gs)
    pendR := rowF h.pendR fun q hq _ => hs q (h.gp q hq) }
theorem RDAt.drewN (h : RDAt w G rb S sg sc pv ps fz) (k : Nat) : RDAt (w.drewN k) G rb S sg sc pv ps fz := h.same fun _ _ => rfl
theorem RDAt.head (h : RDAt w G rb S sg sc pv ps fz) : w.cell? ⟨rb, 0, none⟩ = some (.slice (some ⟨sg, 0, none⟩) S.safe.length sc) ∧ w.cell? ⟨rb, 1, none⟩ = some pv ∧ w.cell? ⟨rb, 2, none⟩ = some (.int .i64 fz) ∧ w.cell? ⟨rb, 3, none⟩ = some (.bool S.down) ∧ w.cell? ⟨rb, 4, none⟩ = some (.int .i64 S.ops) ∧ ∀ i, w.frozen? ⟨rb, i, none⟩ = false :=
  ⟨(cell_of_row _ _ _ _ _ _ h.blk).trans rfl, (cell_of_row _ _ _ _ _ _ h.blk).trans rfl, (cell_of_row _ _ _ _ _ _ h.blk).trans rfl, (cell_of_row _ _ _ _ _ _ h.blk).trans rfl, (cell_of_row _ _ _ _ _ _ h.blk).trans rfl, fun i => frozen_of_row w rb i _ _ h.blk⟩
/-- Its block is another now. -/
theorem RDAt.block (h : RDAt w G rb S sg sc pv ps fz) {T : St} {pv' : Value} {fz' : Int} (hw : ∀ q, G q → q ≠ rb → w'.heap[q]? = w.heap[q]?) (hb : w'.heap[rb]? = some (.cells #[.slice (some ⟨sg, 0, none⟩) S.safe.length sc, pv', .int .i64 fz', .bool T.down, .int .i64 T.ops] 44 (0, 0))) (hs : T.safe = S.safe) (hp : (pv' = pv ∧ T.pend = S.pend)) (hf1 : T.fused = decide (0 ≤ fz')) (hf2 : T.fuse = max fz' 0) (hf3 : -9223372036854775808 ≤ fz') (hf4 : fz' < 9223372036854775808) (ho : S.ops ≤ T.ops) : RDAt w' G rb T sg sc pv' ps fz' := by
  obtain ⟨rfl, hp⟩ := hp
  obtain ⟨k1, k2⟩ := h.kinds
  exact
    { blk := by rw [hs]; exact hb
      safeR := by rw [hs]; exact rowF h.safeR fun q hq _ => hw q (by cases hq; exact h.gs) (by cases hq; exact k1)
      pendR := rowF h.pendR fun q hq _ => hw q (h.gp q hq) (k2 q hq).1
      pend := by rw [hp]; exact h.pend
      inb := by rw [hs]; exact h.inb
      f1 := hf1, f2 := hf2, f3 := hf3, f4 := hf4
      gr := h.gr, gs := h.gs, gp := h.gp
      pl := Int.le_trans h.pl ho
      n1 := by rw [hs]; exact h.n1
      n2 := by rw [hs]; exact h.n2
      o1 := Int.le_trans h.o1 ho }
end
theorem set2 (w : World) (rb : Nat) (a b c d e x : Value) (t : TypeId) (h : w.heap[rb]? = some (.cells #[a, b, c, d, e] t (0, 0))) : (w.setCell ⟨rb, 2, none⟩ x).heap[rb]? = some (.cells #[a, b, x, d, e] t (0, 0)) := by rw [heap_setCell_same w rb 2 _ _ _ h]; rfl
theorem set3 (w : World) (rb : Nat) (a b c d e x : Value) (t : TypeId) (h : w.heap[rb]? = some (.cells #[a, b, c, d, e] t (0, 0))) : (w.setCell ⟨rb, 3, none⟩ x).heap[rb]? = some (.cells #[a, b, c, x, e] t (0, 0)) := by rw [heap_setCell_same w rb 3 _ _ _ h]; rfl
theorem set4 (w : World) (rb : Nat) (a b c d e x : Value) (t : TypeId) (h : w.heap[rb]? = some (.cells #[a, b, c, d, e] t (0, 0))) : (w.setCell ⟨rb, 4, none⟩ x).heap[rb]? = some (.cells #[a, b, c, d, x] t (0, 0)) := by rw [heap_setCell_same w rb 4 _ _ _ h]; rfl
theorem set1 (w : World) (rb : Nat) (a b c d e x : Value) (t : TypeId) (h : w.heap[rb]? = some (.cells #[a, b, c, d, e] t (0, 0))) : (w.setCell ⟨rb, 1, none⟩ x).heap[rb]? = some (.cells #[a, x, c, d, e] t (0, 0)) := by rw [heap_setCell_same w rb 1 _ _ _ h]; rfl
/-- The document's device behind something; nothing else has turned. -/
def RDW (w w' : World) (G : Nat → Prop) (rb : Nat) (T : St) (sg sc : Nat) (pv : Value) (ps : List (Nat × List UInt8)) : Prop := (∃ fz, RDAt w' G rb T sg sc pv ps fz) ∧ Kept G w w'
/-- What an operation asks first. -/
def begE (S : St) (n : Int) (long : Bool) : Int := if S.down = true then 2 else if ¬ (0 ≤ n ∧ n < (S.safe.length : Int)) then 20 else if long = true then 21 else 0
set_option maxHeartbeats 4000000 in
theorem begin_no {w : World} {G : Nat → Prop} {rb : Nat} {S : St} {sg sc : Nat} {pv : Value} {ps : List (Nat × List UInt8)} {fz : Int} (h : RDAt w G rb S sg sc pv ps fz) (n : Int) (long : Bool) (hb : begE S n long ≠ 0) :
    Calls Try.prog 37 #[.pointer (some ⟨rb, 0, none⟩), .int .i64 n, .bool long] w fun e w' => e = .returned (.int .i64 (begE S n long)) ∧ w' = w := by
  obtain ⟨h0, h1, h2, h3, h4, h5⟩ := h.head
  have hn2 : (S.safe.length : Int) ≤ 512 := by have := h.n2; omega
  have HE : Hid (begE S n long = if S.down = true then 2 else if ¬ (0 ≤ n ∧ n < (S.safe.length : Int)) then 20 else if long = true then 21 else 0) := hide rfl
  obtain ⟨N, hN⟩ : ∃ N, N = S.safe.length := ⟨_, rfl⟩
  rw [← hN] at h0 hn2 HE
  obtain ⟨dn, hdn⟩ : ∃ dn, dn = S.down := ⟨_, rfl⟩
  rw [← hdn] at h3 HE
  cases dn with
  | true =>
    have e : begE S n long = 2 := by rw [unhide HE, if_pos rfl]
    rw [e]
    clear h HE e hb hN hdn
    go_enter Try.func37, Try.ntmps37
    go_wp2
    go_ret
    exact ⟨rfl, rfl⟩
  | false =>
    have nf : ¬ (false = true) := by decide
    by_cases hr : 0 ≤ n ∧ n < (N : Int)
    · cases long with
      | true =>
        have e : begE S n true = 21 := by rw [unhide HE, if_neg nf, if_neg (by simpa using hr), if_pos rfl]
        rw [e]
        have hr1 : ¬ n < 0 := by omega
        have hr2 : ¬ (N : Int) ≤ n := by omega
        clear h HE e hb hN hdn hr nf
        go_enter Try.func37, Try.ntmps37
        go_wp2
        go_ret
        exact ⟨rfl, rfl⟩
      | false => exact absurd (by rw [unhide HE, if_neg nf, if_neg (by simpa using hr), if_neg nf]) hb
    · have e : begE S n long = 20 := by rw [unhide HE, if_neg nf, if_pos hr]
      rw [e]
      by_cases hr0 : n < 0
      · clear h HE e hb hN hdn hr nf
        go_enter Try.func37, Try.ntmps37
        go_wp2
        go_ret
        exact ⟨rfl, rfl⟩
      · have hr1 : (N : Int) ≤ n := by omega
        clear h HE e hb hN hdn hr nf
        go_enter Try.func37, Try.ntmps37
        go_wp2
        go_ret
        exact ⟨rfl, rfl⟩
set_option maxHeartbeats 4000000 in
theorem begin_ok {w : World} {G : Nat → Prop} {rb : Nat} {S : St} {sg sc : Nat} {pv : Value} {ps : List (Nat × List UInt8)} {fz : Int} (h : RDAt w G rb S sg sc pv ps fz) (ho : S.ops < 1000000) (n : Int) (hb : begE S n false = 0) :
    Calls Try.prog 37 #[.pointer (some ⟨rb, 0, none⟩), .int .i64 n, .bool false] w fun e w' => e = .returned (.int .i64 (burnE S.fused S.fuse)) ∧ RDW w w' G rb S.burn sg sc pv ps := by
  obtain ⟨h0, h1, h2, h3, h4, h5⟩ := h.head
  have hn2 : (S.safe.length : Int) ≤ 512 := by have := h.n2; omega
  have hsd : S.down = false := by
    cases e : S.down with
    | false => rfl
    | true => unfold begE at hb; rw [if_pos e] at hb; cases hb
  have hr : 0 ≤ n ∧ n < (S.safe.length : Int) := by
    unfold begE at hb
    rw [if_neg (by rw [hsd]; decide)] at hb
    by_cases hr : 0 ≤ n ∧ n < (S.safe.length : Int)
    · exact hr
    · rw [if_pos hr] at hb; cases hb
  have hr1 : ¬ n < 0 := by omega
  have hr2 : ¬ (S.safe.length : Int) ≤ n := by omega
  rw [hsd] at h3
  have hblk := h.blk
  have lr := lt_of_block hblk
  have f1 := h.f1
  have f2 := h.f2
  have f3 := h.f3
  have f4 := h.f4
  have o1 := h.o1
  have HR := hide h
  obtain ⟨ops, hops⟩ : ∃ o, o = S.ops := ⟨_, rfl⟩
  obtain ⟨N, hN⟩ : ∃ N, N = S.safe.length := ⟨_, rfl⟩
  rw [← hN] at h0 hn2 hr2
  rw [← hops] at h4 ho o1
  by_cases hz : fz = 0
  · have e : burnE S.fused S.fuse = 2 := by rw [f1, f2, hz]; rfl
    rw [e]
    have FN : Hid (RDW w (w.setCell ⟨rb, 3, none⟩ (.bool true)) G rb S.burn sg sc pv ps) := hide (by
      refine ⟨⟨fz, h.block (fun q _ hq => heap_setCell_other _ _ _ _ hq) ?_ rfl ⟨rfl, rfl⟩ f1 ?_ f3 f4 ?_⟩, ⟨rfl, rfl, rfl, by simp [World.setCell], fun q _ hq => heap_setCell_other _ _ _ _ fun (e : q = rb) => hq (e ▸ h.gr)⟩⟩
      · rw [set3 _ _ _ _ _ _ _ _ _ hblk]
        have e1 : S.burn.down = true := by unfold St.burn burnD; simp only; rw [f1, f2, hz]; rfl
        have e2 : S.burn.ops = S.ops := by unfold St.burn burnO; simp only; rw [f1, f2, hz]; rfl
        rw [e1, e2]
      · unfold St.burn burnF; simp only; rw [f1, f2, hz]; rfl
      · unfold St.burn burnO; simp only; split <;> omega)
    subst hz
    clear h hb hr hblk f1 f2 f3 f4 HR hN hops hsd
    go_enter Try.func37, Try.ntmps37
    go_wp2
    go_ret
    exact ⟨rfl, unhide FN⟩
  · have hzb : (fz == 0) = false := beq_eq_false_iff_ne.2 hz
    by_cases hp : 0 < fz
    · have e : burnE S.fused S.fuse = 0 := by
        unfold burnE; rw [f1, f2]
        rw [if_neg]
        simp; omega
      rw [e]
      have hwr : IntKind.i64.wrap (fz - 1) = fz - 1 := by rw [IntKind.wrap_i64]; omega
      have hwo : IntKind.i64.wrap (ops + 1) = ops + 1 := by rw [IntKind.wrap_i64]; omega
      have FN : Hid (RDW w ((w.setCell ⟨rb, 2, none⟩ (.int .i64 (fz - 1))).setCell ⟨rb, 4, none⟩ (.int .i64 (ops + 1))) G rb S.burn sg sc pv ps) := hide (by
        have hb0 : (S.fused && S.fuse == 0) = false := by rw [f1, f2]; simp; omega
        refine ⟨⟨fz - 1, h.block (fun q _ hq => by rw [heap_setCell_other _ _ _ _ hq, heap_setCell_other _ _ _ _ hq]) ?_ rfl ⟨rfl, rfl⟩ ?_ ?_ (by omega) (by omega) ?_⟩, ⟨rfl, rfl, rfl, by simp [World.setCell], fun q _ hq => by rw [heap_setCell_other _ _ _ _ fun (e : q = rb) => hq (e ▸ h.gr), heap_setCell_other _ _ _ _ fun (e : q = rb) => hq (e ▸ h.gr)]⟩⟩
        · rw [set4 _ _ _ _ _ _ _ _ _ (set2 _ _ _ _ _ _ _ _ _ hblk)]
          have e1 : S.burn.down = S.down := by unfold St.burn burnD; simp only; rw [hb0]; rfl
          have e2 : S.burn.ops = ops + 1 := by unfold St.burn burnO; simp only; rw [hb0, hops]; rfl
          rw [e1, e2]
        · show S.fused = _
          rw [f1]
          have : (0 ≤ fz - 1) ↔ (0 ≤ fz) := by omega
          simp only [this]
        · unfold St.burn burnF
          simp only
          have : (S.fused && S.fuse != 0) = true := by rw [f1, f2]; simp; omega
          rw [this, if_pos rfl, f2]
          omega
        · unfold St.burn burnO; simp only; split <;> omega)
      clear h hb hr hblk f1 f2 f3 f4 HR hN hops hsd hz
      go_enter Try.func37, Try.ntmps37
      go_wp2
      go_ret
      exact ⟨rfl, unhide FN⟩
    · have hneg : fz < 0 := by omega
      have e : burnE S.fused S.fuse = 0 := by
        unfold burnE; rw [f1, f2]
        rw [if_neg]
        simp; omega
      rw [e]
      have hwo : IntKind.i64.wrap (ops + 1) = ops + 1 := by rw [IntKind.wrap_i64]; omega
      have FN : Hid (RDW w (w.setCell ⟨rb, 4, none⟩ (.int .i64 (ops + 1))) G rb S.burn sg sc pv ps) := hide (by
        have hfd : S.fused = false := by rw [f1]; simp; omega
        have hb0 : (S.fused && S.fuse == 0) = false := by rw [hfd]; rfl
        refine ⟨⟨fz, h.block (fun q _ hq => heap_setCell_other _ _ _ _ hq) ?_ rfl ⟨rfl, rfl⟩ f1 ?_ f3 f4 ?_⟩, ⟨rfl, rfl, rfl, by simp [World.setCell], fun q _ hq => heap_setCell_other _ _ _ _ fun (e : q = rb) => hq (e ▸ h.gr)⟩⟩
        · rw [set4 _ _ _ _ _ _ _ _ _ hblk]
          have e1 : S.burn.down = S.down := by unfold St.burn burnD; simp only; rw [hb0]; rfl
          have e2 : S.burn.ops = ops + 1 := by unfold St.burn burnO; simp only; rw [hb0, hops]; rfl
          rw [e1, e2]
        · unfold St.burn burnF
          simp only
          rw [hfd]
          exact f2
        · unfold St.burn burnO; simp only; split <;> omega)
      have hneg' : ¬ (0 : Int) < fz := by omega
      clear h hb hr hblk f1 f2 f3 f4 HR hN hops hsd hz hneg hp
      go_enter Try.func37, Try.ntmps37
      go_wp2
      go_ret
      exact ⟨rfl, unhide FN⟩
set_option maxHeartbeats 4000000 in
theorem SetFuse_go {w : World} {G : Nat → Prop} {rb : Nat} {S : St} {sg sc : Nat} {pv : Value} {ps : List (Nat × List UInt8)} {fz : Int} (h : RDAt w G rb S sg sc pv ps fz) (k : Int) (k1 : -9223372036854775808 ≤ k) (k2 : k < 9223372036854775808) :
    Calls Try.prog 25 #[.pointer (some ⟨rb, 0, none⟩), .int .i64 k] w fun e w' => e = .returned (.int .i64 (if S.down then 2 else 0)) ∧ RDW w w' G rb (S.fuseK k) sg sc pv ps := by
  obtain ⟨h0, h1, h2, h3, h4, h5⟩ := h.head
  have lr := lt_of_block h.blk
  cases hd : S.down with
  | true =>
    rw [hd] at h3
    have FN : Hid (RDW w w G rb (S.fuseK k) sg sc pv ps) := hide (by
      have e : S.fuseK k = S := by unfold St.fuseK; rw [hd]; rfl
      rw [e]
      exact ⟨⟨fz, h⟩, Kept.refl _ _⟩)
    clear h hd
    go_enter Try.func25, Try.ntmps25
    go_wp2
    go_ret
    exact ⟨rfl, unhide FN⟩
  | false =>
    rw [hd] at h3
    have FN : Hid (RDW w (w.setCell ⟨rb, 2, none⟩ (.int .i64 k)) G rb (S.fuseK k) sg sc pv ps) := hide (by
      have e : S.fuseK k = { S with fused := decide (0 ≤ k), fuse := max k 0 } := by unfold St.fuseK; rw [hd]; rfl
      rw [e]
      refine ⟨⟨k, h.block (fun q _ hq => heap_setCell_other _ _ _ _ hq) ?_ rfl ⟨rfl, rfl⟩ rfl rfl k1 k2 (Int.le_refl _)⟩, ⟨rfl, rfl, rfl, by simp [World.setCell], fun q _ hq => heap_setCell_other _ _ _ _ fun (e : q = rb) => hq (e ▸ h.gr)⟩⟩
      exact set2 _ _ _ _ _ _ _ _ _ h.blk)
    clear h hd
    go_enter Try.func25, Try.ntmps25
    go_wp2
    go_ret
    exact ⟨rfl, unhide FN⟩
end Go.Proofs.Ytfoanlmmjbclgaa
