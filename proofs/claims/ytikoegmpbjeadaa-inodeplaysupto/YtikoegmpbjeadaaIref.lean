/-
  DERIVED. The document's node in memory: a length and its blocks, one by one. need, Need, At, Runs.
-/
import Derived.Test.YtikoegmpbjeadaaIwhole
namespace Go.Proofs.Ytikoegmpbjeadaa
open Go.RowKit
set_option linter.unusedVariables false

structure RdAt (w : World) (b n : Nat) (v : Value) (L : List Nat) : Prop where
  blk : w.heap[b]? = some (.cells #[.int .i64 (n : Int), v] 30 (0, 0))
  list : NOwn w 0 v L
  le : n ≤ 32768
  len : L.length = bf n
  lw : low L
theorem RdAt.lt {w : World} {b n : Nat} {v : Value} {L : List Nat} (h : RdAt w b n v L) : b < w.heap.size := lt_of_block h.blk
theorem RdAt.frozen {w : World} {b n : Nat} {v : Value} {L : List Nat} (h : RdAt w b n v L) (i : Nat) : w.frozen? ⟨b, i, none⟩ = false := by simp [World.frozen?, h.blk]
theorem RdAt.num {w : World} {b n : Nat} {v : Value} {L : List Nat} (h : RdAt w b n v L) : w.cell? ⟨b, 0, none⟩ = some (.int .i64 (n : Int)) := (cell_of_row _ _ _ _ _ _ h.blk).trans rfl
theorem RdAt.val {w : World} {b n : Nat} {v : Value} {L : List Nat} (h : RdAt w b n v L) : w.cell? ⟨b, 1, none⟩ = some v := (cell_of_row _ _ _ _ _ _ h.blk).trans rfl
theorem RdAt.grown {w w' : World} {b n : Nat} {v : Value} {L : List Nat} (h : RdAt w b n v L) (hg : w.grownBy w' none) : RdAt w' b n v L := ⟨(hg.block b h.lt (by simp)).trans h.blk, h.list.grown hg, h.le, h.len, h.lw⟩
theorem RdAt.drewN {w : World} {b n : Nat} {v : Value} {L : List Nat} (h : RdAt w b n v L) (k : Nat) : RdAt (w.drewN k) b n v L := h.grown (grown_drewN' (World.grownBy.refl _ _) k)
theorem RdAt.other {w w' : World} {b n c : Nat} {v : Value} {L : List Nat} (h : RdAt w b n v L) (hg : w.grownBy w' (some c)) (hc : b ≠ c) (hr : ∀ q, v.ownBlock = some q → q ≠ c) : RdAt w' b n v L := ⟨(hg.block b h.lt (by simpa using hc)).trans h.blk, h.list.kept hg (fun q hq e => hr q hq (by simpa using e)), h.le, h.len, h.lw⟩
theorem RdAt.small {w : World} {b n : Nat} {v : Value} {L : List Nat} (h : RdAt w b n v L) : L.length ≤ 64 := by
  have h1 := h.len
  have h2 := bf_le h.le
  omega
/-- One changes, the other stays. -/
theorem RdAt.nodes {w w' : World} {b n c m : Nat} {v u : Value} {L M : List Nat} (h : RdAt w b n v L) (h2 : NdAt w c m u M) (hg : w.grownBy w' (some c)) : RdAt w' b n v L :=
  h.other hg (fun e => by
    have h3 := h.blk
    rw [e, h2.blk] at h3
    injection h3 with h3
    injection h3 with _ h3
    exact absurd h3 (by decide)) (fun q hq => h.list.ne hq h2.blk (by decide))
theorem NdAt.nodes {w w' : World} {b n c m : Nat} {v u : Value} {L M : List Nat} (h : NdAt w b n v L) (h2 : RdAt w c m u M) (hg : w.grownBy w' (some c)) : NdAt w' b n v L :=
  h.other hg (fun e => by
    have h3 := h.blk
    rw [e, h2.blk] at h3
    injection h3 with h3
    injection h3 with _ h3
    exact absurd h3 (by decide)) (fun q hq => h.runs.ne hq h2.blk (by decide))
theorem RdAt.beside {w w' : World} {b n c m : Nat} {v u : Value} {L M : List Nat} (h : RdAt w b n v L) (h2 : RdAt w c m u M) (hg : w.grownBy w' (some c)) (hc : b ≠ c) : RdAt w' b n v L :=
  h.other hg hc (fun q hq => h.list.ne hq h2.blk (by decide))
theorem RdAt.new (w : World) : RdAt (w.alloc (.cells #[.int .i64 0, .slice none 0 0] 30)) w.heap.size 0 (.slice none 0 0) [] := ⟨heap_alloc_new _ _, NOwn.nil _ _, by omega, rfl, fun b hb => by cases hb⟩
theorem RdAt.turned {w : World} {b n m base : Nat} {v u : Value} {L M : List Nat} (h : RdAt w b n v L) (hu : NOwn w base u M) (hm : m ≤ 32768) (hl : M.length = bf m) (hlow : low M) (w' : World) (hb : w'.heap[b]? = some (.cells #[.int .i64 (m : Int), u] 30 (0, 0))) (hg : w.grownBy w' (some b)) : RdAt w' b m u M :=
  ⟨hb, by
    have := hu.kept hg (fun q hq e => hu.ne hq h.blk (by decide) (by simpa using e))
    obtain ⟨h1, h2⟩ := this
    refine ⟨h1, ?_⟩
    rcases h2 with h2 | ⟨g, cap, cur, a, _, c⟩
    · exact .inl h2
    · exact .inr ⟨g, cap, cur, a, Nat.zero_le _, c⟩, hm, hl, hlow⟩

theorem rneed_any (w : World) (n : Nat) (hn : n ≤ 65536) : Calls Try.prog 44 #[.int .i64 (n : Int)] w fun e w' => e = .returned (.int .i64 (bf n : Int)) ∧ w' = w := by
  have h1 : (n : Int) ≤ 65536 := by omega
  by_cases h0 : (0 : Int) < (n : Int) % 512
  · have HE : Hid ((n : Int) / 512 + 1 = (bf n : Int)) := hide (by unfold bf; omega)
    go_enter Try.func44, Try.ntmps44
    go_wp2
    go_ret
    rw [← unhide HE]
    exact ⟨rfl, rfl⟩
  · have HE : Hid ((n : Int) / 512 = (bf n : Int)) := hide (by unfold bf; omega)
    go_enter Try.func44, Try.ntmps44
    go_wp2
    go_ret
    rw [← unhide HE]
    exact ⟨rfl, rfl⟩
theorem rneed_sum (w : World) (n m : Nat) (hn : n + m ≤ 65536) (x : Int) (hx : x = (n : Int) + (m : Int)) : Calls Try.prog 44 #[.int .i64 x] w fun e w' => e = .returned (.int .i64 (bf (n + m) : Int)) ∧ w' = w := by
  subst hx
  exact rneed_any w (n + m) hn

theorem rNeed_ok (w : World) (b n : Nat) (v : Value) (L : List Nat) (h : RdAt w b n v L) (m : Nat) (hm : n + m ≤ 32768) : Calls Try.prog 28 #[.pointer (some ⟨b, 0, none⟩), .int .i64 (m : Int)] w fun e w' => e = .returned (.tuple #[.int .i64 ((bf (n + m) - bf n : Nat) : Int), .int .i64 0]) ∧ w.grownBy w' none := by
  have c0 := h.num
  have h1 : ¬ (m : Int) < 0 := by omega
  have h2 : ¬ ((32768 : Int) - (n : Int) < (m : Int)) := by omega
  have h3 : (n : Int) + (m : Int) ≤ 32768 := by omega
  have h4 : (n : Int) ≤ 32768 := by omega
  have HW : Hid (IntKind.i64.wrap ((n : Int) + (m : Int)) = (n : Int) + (m : Int)) := hide (by rw [IntKind.wrap_i64]; omega)
  have e3 := bf_le hm
  have e4 : bf n ≤ bf (n + m) := by unfold bf; omega
  have e5 : (bf (n + m) : Int) ≤ 64 := by omega
  have e6 : (bf n : Int) ≤ (bf (n + m) : Int) := by omega
  have HS : Hid ((bf (n + m) : Int) - (bf n : Int) = ((bf (n + m) - bf n : Nat) : Int)) := hide (by omega)
  clear h
  go_enter Try.func28, Try.ntmps28
  go_wp2_with fail
  go_quiet (first | (go_at_call 44; exact Calls.quiet_of_same (rneed_sum _ n m (by omega) _ (by first | rfl | exact unhide HW))) | (go_at_call 44; exact Calls.quiet_of_same (rneed_any _ n (by omega))))
  go_wp2
  go_ret2
  refine ⟨congrArg (fun z => Ending.returned (.tuple #[.int .i64 z, .int .i64 0])) ?_, grown_drewN' (World.grownBy.refl _ _) _⟩
  exact unhide HS
theorem rNeed_neg (w : World) (b : Nat) (m : Int) (hm : m < 0) : Calls Try.prog 28 #[.pointer (some ⟨b, 0, none⟩), .int .i64 m] w fun e w' => e = .returned (.tuple #[.int .i64 0, .int .i64 1]) ∧ w' = w := by
  go_enter Try.func28, Try.ntmps28
  go_wp2
  go_ret2
  exact ⟨rfl, rfl⟩
theorem rNeed_far (w : World) (b n : Nat) (v : Value) (L : List Nat) (h : RdAt w b n v L) (m : Int) (hm : 32768 < (n : Int) + m) (h0 : 0 ≤ m) (h9 : m ≤ 9223372036854775807) : Calls Try.prog 28 #[.pointer (some ⟨b, 0, none⟩), .int .i64 m] w fun e w' => e = .returned (.tuple #[.int .i64 0, .int .i64 60]) ∧ w' = w := by
  have c0 := h.num
  have h1 : ¬ m < 0 := by omega
  have h2 : (32768 : Int) - (n : Int) < m := by omega
  have h5 := h.le
  have h4 : (n : Int) ≤ 32768 := by omega
  clear h hm
  go_enter Try.func28, Try.ntmps28
  go_wp2
  go_ret2
  exact ⟨rfl, rfl⟩

theorem rAt_ok (w : World) (b n : Nat) (v : Value) (L : List Nat) (h : RdAt w b n v L) (k : Nat) (hk : k < n) :
    Calls Try.prog 31 #[.pointer (some ⟨b, 0, none⟩), .int .i64 (k : Int)] w fun e w' => ∃ c : Nat, e = .returned (.tuple #[.int .i64 (c : Int), .int .i64 ((k % 512 : Nat) : Int), .int .i64 0]) ∧ L[k / 512]? = some c ∧ w' = w := by
  have c0 := h.num
  have c1 := h.val
  have hle := h.le
  have hkl : k / 512 < L.length := by rw [h.len]; unfold bf; omega
  obtain ⟨ao, cap, rfl, hv1, hv2, hv4⟩ := h.list.form
  obtain ⟨g, rfl, _, hc⟩ := hv4 (by omega)
  have d0 := hc (k / 512) hkl
  have HC : Hid (L[k / 512]? = some L[k / 512]) := hide (List.getElem?_eq_getElem hkl)
  obtain ⟨c, hcc⟩ : ∃ c, c = L[k / 512] := ⟨_, rfl⟩
  rw [← hcc] at d0 HC
  have HC2 := hide hcc.symm
  have hsm := h.small
  clear h hv4 hc hcc
  have h1 : ¬ (k : Int) < 0 := by omega
  have h2 : ¬ (n : Int) ≤ (k : Int) := by omega
  have h3 : (k : Int) ≤ 32768 := by omega
  have d0' : w.cell? ⟨g, ((k : Int) / 512).toNat, none⟩ = some (.int .i64 (c : Int)) := by
    rw [show ((k : Int) / 512).toNat = k / 512 by omega]
    exact d0
  have hkqI : (k : Int) / 512 < (L.length : Int) := by omega
  have hk0 : (0 : Int) ≤ (k : Int) / 512 := by omega
  go_enter Try.func31, Try.ntmps31
  go_wp2
  go_ret3
  exact ⟨c, rfl, by first | exact unhide HC | exact unhide HC2, rfl⟩
theorem rAt_far (w : World) (b n : Nat) (v : Value) (L : List Nat) (h : RdAt w b n v L) (k : Int) (hk : k < 0 ∨ (n : Int) ≤ k) (h9 : k ≤ 9223372036854775807) :
    Calls Try.prog 31 #[.pointer (some ⟨b, 0, none⟩), .int .i64 k] w fun e w' => e = .returned (.tuple #[.int .i64 0, .int .i64 0, .int .i64 60]) ∧ w' = w := by
  have c0 := h.num
  clear h
  by_cases h1 : k < 0
  · clear hk
    go_enter Try.func31, Try.ntmps31
    go_wp2
    go_ret3
    exact ⟨rfl, rfl⟩
  · have h2 : (n : Int) ≤ k := by omega
    clear hk
    go_enter Try.func31, Try.ntmps31
    go_wp2
    go_ret3
    exact ⟨rfl, rfl⟩
theorem rRuns_any (w : World) (b n : Nat) (v : Value) (L : List Nat) (h : RdAt w b n v L) : Calls Try.prog 32 #[.pointer (some ⟨b, 0, none⟩)] w fun e w' => ∃ u, e = .returned u ∧ ROwn w' w.heap.size u (canon L) ∧ w.grownBy w' none := by
  have c1 := h.val
  have H := hide h
  clear h
  go_enter Try.func32, Try.ntmps32
  go_wp2_with fail
  refine (Whole_any w v L (unhide H).list.nr (unhide H).lw (by have := (unhide H).small; omega)).mono ?_
  rintro e w1 ⟨u, rfl, ho, hg⟩
  have HO := hide ho
  have HG := hide hg
  clear ho hg c1
  go_wp2
  go_ret
  exact ⟨u, rfl, unhide HO, unhide HG⟩

/-- An append of numbers to a slice of one's own, of whatever many: none, too. -/
theorem wpList_append_nums {w : World} {ops : Array Oper} {rest : List Oper} {o : Oper} {a : Act} {Q : Exit → Act → World → Prop} (hgd : o.guard = none) (s x : Operand)
    (ho : o.op = .call { callee := .builtin .append, args := #[s, x], argTypes := #[28, 28] })
    (base : Nat) (v : Value) (l : List Nat) (hs : a.eval s = v) (hown : NOwn w base v l)
    (y : Value) (m : List Nat) (hx : a.eval x = y) (hy : Nr w y m) (hne : ∀ c, y = .slice none 0 c → c = 0) (hlen : l.length + m.length ≤ 65536) (hbase : base ≤ w.heap.size)
    (h : ∀ v' w', NOwn w' base v' (l ++ m) → w.grownBy w' v.ownBlock → wpList Try.prog ops Q rest (a.put o.dst v') w') : wpList Try.prog ops Q (o :: rest) a w := by
  obtain ⟨i0, hi, hz0, hz1, hz2⟩ := info_parts Try.infoInt
  obtain ⟨ao, cap, rfl, h1, h2, h4⟩ := hy
  cases ao with
  | none =>
    have hm0 : m = [] := by
      cases m with
      | nil => rfl
      | cons x r => obtain ⟨_, _, e, _⟩ := h4 (by simp); cases e
    subst hm0
    obtain rfl : cap = 0 := hne cap rfl
    refine wpList_append_own_none hgd s x 28 ho base 3 i0 1 Try.underlying28 hi v l.length (l.map nv) hs hown hx ?_
    exact h v w (by simpa using hown) (World.grownBy.refl _ _)
  | some ad =>
    refine wpList_append_own w hgd s x 28 ho base 3 i0 (.int .i64 0) 1 8 Try.underlying28 hi hz0 hz1 hz2 rfl (by decide) v l.length (l.map nv) hs hown ad m.length cap (m.map nv) hx (by simp) ?_ ?_ (by unfold maxLen; omega) (by omega) hbase ?_
    · intro j u hj
      rw [List.getElem?_map] at hj
      by_cases hjl : j < m.length
      · obtain ⟨g, off, e, _, hc⟩ := h4 (by omega)
        cases e
        rw [List.getElem?_eq_getElem hjl] at hj
        simp only [Option.map_some, Option.some.injEq] at hj
        subst hj
        rw [addr_add]
        exact hc j hjl
      · rw [List.getElem?_eq_none (by omega)] at hj
        cases hj
    · intro u hu
      obtain ⟨z, _, rfl⟩ := List.mem_map.1 hu
      rfl
    · intro v' w' ho' hgr _
      refine h v' w' ?_ hgr
      unfold NOwn
      rw [List.map_append, List.length_append]
      exact ho'
theorem nown_empty (w : World) : NOwn (w.alloc (.cells #[] 3)) w.heap.size (.slice (some ⟨w.heap.size, 0, none⟩) 0 0) [] := ⟨rfl, .inr ⟨w.heap.size, 0, #[], rfl, Nat.le_refl _, heap_alloc_new _ _, by simp, by unfold maxLen; omega, by simp, by simp⟩⟩
end Go.Proofs.Ytikoegmpbjeadaa
