/-
  DERIVED. The document's map: Free, New, Commit, Reset.
-/
import Derived.Test.YtmnmciajldoabaaAref
namespace Go.Proofs.Ytmnmciajldoabaa
open Go.RowKit
set_option linter.unusedVariables false

theorem BOwn.row {W : World} {base B : Nat} {v : Value} {f : Nat → Bool} (h : BOwn W base v f B) {q : Nat} (hq : v.ownBlock = some q) : base ≤ q ∧ ∃ cur, W.heap[q]? = some (.cells cur 4 (0, 0)) := by
  rcases h.2 with ⟨rfl, _⟩ | ⟨g, cap, cur, rfl, hb, hg, r⟩
  · cases hq
  · cases hq; exact ⟨hb, cur, hg⟩
/-- A block that is neither a map's nor a row of bools: the document's map is kept where it turns. -/
theorem RmAt.kept {w w' : World} {N b B : Nat} {v1 v2 : Value} {U V : Nat → Bool} (h : RmAt w N b B v1 v2 U V) {q : Nat} {C : Array Value} {t : TypeId} {fr : Nat × Nat} (hg : w.grownBy w' (some q)) (hq : w.heap[q]? = some (.cells C t fr)) (h1 : t ≠ 55) (h2 : t ≠ 4) : RmAt w' N b B v1 v2 U V := by
  have hne : ∀ v z f, BOwn w N v f B → v.ownBlock = some z → some z ≠ some q := by
    intro v z f ho hz e
    cases e
    obtain ⟨_, cur, hc⟩ := ho.row hz
    rw [hc] at hq
    cases hq
    exact h2 rfl
  refine ⟨(hg.block b h.lt (fun e => ?_)).trans h.blk, h.now.kept hg (fun z hz => hne _ z _ h.now hz), h.last.kept hg (fun z hz => hne _ z _ h.last hz), h.le, h.base, h.apart⟩
  cases e
  rw [h.blk] at hq
  cases hq
  exact h1 rfl

set_option maxHeartbeats 2000000 in
theorem rFree_any (w : World) (N b B : Nat) (v1 v2 : Value) (U V : Nat → Bool) (h : RmAt w N b B v1 v2 U V) :
    Calls Try.prog 26 #[.pointer (some ⟨b, 0, none⟩)] w fun e w' => e = .returned (.int .i64 (total (runsOf B U V) : Int)) ∧ w' = w := by
  have HM := hide h
  have hle := h.le
  have hBI : (B : Int) ≤ 512 := by omega
  have c0 := h.c0
  obtain ⟨o1, p1, hv1, q1, q2, _⟩ := h.now.form
  subst hv1
  have HT : Hid (total (runsOf B U V) = ((List.range' 0 B).filter (may U V)).length) := hide (by rw [total_blocks]; unfold runsOf; rw [blocks_runsF])
  clear h
  go_enter Try.func26, Try.ntmps26
  go_wp2
  go_loopw [3, 4] (fun a i wr => ∃ k c : Nat, i = .int .i64 (k : Int) ∧ k ≤ B ∧ c ≤ k ∧ a = .int .i64 (c : Int) ∧ Hid (c = ((List.range' 0 k).filter (may U V)).length) ∧ wr = w) (fun _ i _ => B - (intOf i).toNat)
  case atStart => exact ⟨0, 0, rfl, by omega, by omega, rfl, hide (by simp), rfl⟩
  case round =>
    obtain ⟨k, c, rfl, hk, hck, rfl, HC, rfl⟩ := hrel
    have HFs := hide (congrArg List.length (filter_range_succ (may U V) k))
    by_cases hlt : k < B
    · have hlt' : (k : Int) < (B : Int) := by omega
      go_wp2_with fail
      refine (rmay_any _ N b B k _ v2 U V (unhide HM) hlt).mono ?_
      rintro e wr' ⟨rfl, rfl⟩
      cases hm : may U V k with
      | true =>
        rw [hm, if_pos rfl] at HFs
        have HC2 : Hid (c + 1 = ((List.range' 0 (k + 1)).filter (may U V)).length) := hide (by rw [unhide HFs, List.length_append, ← unhide HC]; rfl)
        clear hm HFs HC
        go_wp2
        go_roundw
        case rel => exact ⟨k + 1, c + 1, rfl, by omega, by omega, rfl, HC2, trivial⟩
        case measure => simp [intOf]; omega
      | false =>
        rw [hm, if_neg (by simp), List.append_nil] at HFs
        have HC2 : Hid (c = ((List.range' 0 (k + 1)).filter (may U V)).length) := hide (by rw [unhide HFs]; exact unhide HC)
        clear hm HFs HC
        go_wp2
        go_roundw
        case rel => exact ⟨k + 1, c, rfl, by omega, by omega, rfl, HC2, trivial⟩
        case measure => simp [intOf]; omega
    · have hlt' : ¬ (k : Int) < (B : Int) := by omega
      have hkB : k = B := by omega
      have HE : Hid (total (runsOf B U V) = c) := hide (by rw [unhide HT, ← hkB]; exact (unhide HC).symm)
      clear hkB HC HFs
      go_wp2
      go_ret
      exact ⟨by simp [unhide HE], rfl⟩

theorem made_bvl (n : Nat) : madeCells #[Value.bool false] n = (bvl none? n).toArray := by
  apply Array.ext'
  rw [toList_madeCells_one]
  apply List.ext_getElem
  · simp [bvl]
  · intro i h1 h2; simp [bvl, none?]
theorem infoBoolR : (Try.prog.info? 4).map (fun i => (i.zero, i.size, i.bytes)) = some (some (.bool false), 1, 1) := by kernel_rfl
theorem run_make_bvl (w : World) (m : Nat) (hm : m ≤ 512) : (Instr.makeSlice 53 (.int .i64 (m : Int)) (.int .i64 (m : Int))).run Try.prog w = .ok (.slice (some ⟨w.heap.size, 0, none⟩) m m) (w.alloc (.cells (bvl none? m).toArray 4)) := by
  obtain ⟨i, hi, hh⟩ := Option.map_eq_some_iff.1 infoBoolR
  simp only [Prod.mk.injEq] at hh
  have h := run_make (P := Try.prog) w 53 4 i _ Try.underlying53 hi hh.1 .i64 .i64 m m (by omega) (Int.le_refl _) (by rw [hh.2.2]; omega) (by omega)
  rw [h, hh.2.1, Int.toNat_natCast, Nat.mul_one]
  show Result.ok _ (w.alloc (.cells (madeCells #[Value.bool false] m) 4)) = _
  rw [made_bvl]
theorem bown_new {w : World} {base g B : Nat} {f : Nat → Bool} (hg : w.heap[g]? = some (.cells (bvl f B).toArray 4)) (hb : base ≤ g) (hB : B ≤ 512) : BOwn w base (.slice (some ⟨g, 0, none⟩) B B) f B :=
  ⟨by simp [bvl], .inr ⟨g, B, _, rfl, hb, hg, Nat.le_refl _, by unfold maxLen; omega, by simp [bvl], by rw [Nat.mul_one]; exact List.take_of_length_le (by simp [bvl])⟩⟩
theorem run_build_rm (w : World) (o1 o2 : Option Addr) (n1 n2 c1 c2 : Nat) : (Instr.build 55 #[(0, .slice o1 n1 c1), (1, .slice o2 n2 c2)]).run Try.prog w = .ok (.agg #[.slice o1 n1 c1, .slice o2 n2 c2]) w := by kernel_rfl

theorem rm_made (w : World) (B g1 g2 : Nat) (hB : B ≤ 512) (hg : (g1 = w.heap.size ∧ g2 = w.heap.size + 1) ∨ (g1 = w.heap.size + 1 ∧ g2 = w.heap.size)) (X : World)
    (hX : X = (((w.alloc (.cells (bvl none? B).toArray 4)).alloc (.cells (bvl none? B).toArray 4)).alloc (.cells #[.slice (some ⟨g1, 0, none⟩) B B, .slice (some ⟨g2, 0, none⟩) B B] 55)).drew) :
    RmAt X w.heap.size (w.heap.size + 1 + 1) B (.slice (some ⟨g1, 0, none⟩) B B) (.slice (some ⟨g2, 0, none⟩) B B) none? none? ∧ w.grownBy X none := by
  obtain ⟨o, ho⟩ : ∃ o, o = Obj.cells (bvl none? B).toArray 4 := ⟨_, rfl⟩
  rw [← ho] at hX
  obtain ⟨p, hp⟩ : ∃ p, p = Obj.cells #[.slice (some ⟨g1, 0, none⟩) B B, .slice (some ⟨g2, 0, none⟩) B B] 55 := ⟨_, rfl⟩
  rw [← hp] at hX
  have e0 : X.heap[w.heap.size]? = some o := by
    subst hX
    show (((w.alloc o).alloc o).alloc p).heap[w.heap.size]? = _
    rw [Below.heap_alloc _ _ _ (by simp; omega), Below.heap_alloc _ _ _ (by simp), heap_alloc_new]
  have e1 : X.heap[w.heap.size + 1]? = some o := by
    subst hX
    show (((w.alloc o).alloc o).alloc p).heap[w.heap.size + 1]? = _
    rw [Below.heap_alloc _ _ _ (by simp)]
    have := heap_alloc_new (w.alloc o) o
    rwa [World.size_alloc] at this
  have e2 : X.heap[w.heap.size + 1 + 1]? = some p := by
    subst hX
    show (((w.alloc o).alloc o).alloc p).heap[w.heap.size + 1 + 1]? = _
    have := heap_alloc_new ((w.alloc o).alloc o) p
    rwa [World.size_alloc, World.size_alloc] at this
  refine ⟨⟨?_, ?_, ?_, hB, by omega, ?_⟩, ?_⟩
  · rw [e2, hp]
  · refine bown_new ?_ (by omega) hB
    rcases hg with ⟨rfl, rfl⟩ | ⟨rfl, rfl⟩
    · rw [e0, ho]
    · rw [e1, ho]
  · refine bown_new ?_ (by omega) hB
    rcases hg with ⟨rfl, rfl⟩ | ⟨rfl, rfl⟩
    · rw [e1, ho]
    · rw [e0, ho]
  · intro q hq e
    have hq : g1 = q := Option.some.inj hq
    have e : g2 = q := Option.some.inj e
    omega
  · subst hX
    exact ((World.grownBy_alloc _ _ none).trans ((World.grownBy_alloc _ _ none).trans (World.grownBy_alloc _ _ none))).trans ⟨rfl, rfl, rfl, Nat.le_refl _, fun _ _ _ => rfl⟩

set_option maxHeartbeats 2000000 in
theorem rNew_any (B : Nat) (w : World) (hB : B ≤ 512) :
    Calls Try.prog 7 #[.int .i64 (B : Int)] w fun e w' => ∃ b v1 v2, e = .returned (.pointer (some ⟨b, 0, none⟩)) ∧ RmAt w' w.heap.size b B v1 v2 none? none? ∧ w.grownBy w' none := by
  have hb1 : ¬ (B : Int) < 0 := by omega
  have hb2 : ¬ (512 : Int) < (B : Int) := by omega
  go_enter Try.func7, Try.ntmps7
  have mk := fun (w' : World) => run_make_bvl w' B hB
  go_wp2
  go_region
  · go_wp2
    go_ret
    obtain ⟨h1, h2⟩ := rm_made w B w.heap.size (w.heap.size + 1) hB (.inl ⟨rfl, rfl⟩) _ rfl
    exact ⟨_, _, _, rfl, h1, h2⟩
  · go_wp2
    go_ret
    obtain ⟨h1, h2⟩ := rm_made w B (w.heap.size + 1) w.heap.size hB (.inr ⟨rfl, rfl⟩) _ rfl
    exact ⟨_, _, _, rfl, h1, h2⟩

/-- A row of bools that is copied behind nothing. -/
theorem wpList_append_bools {w : World} {ops : Array Oper} {rest : List Oper} {o : Oper} {a : Act} {Q : Exit → Act → World → Prop} (hgd : o.guard = none) (s x : Operand)
    (ho : o.op = .call { callee := .builtin .append, args := #[s, x], argTypes := #[53, 53] })
    (base : Nat) (v : Value) (hs : a.eval s = v) (hown : w.ownsRow base 4 1 v 0 [])
    (y : Value) (N B : Nat) (f : Nat → Bool) (hx : a.eval x = y) (hy : BOwn w N y f B) (hlen : B ≤ 512) (hbase : base ≤ w.heap.size)
    (h : ∀ v' w', BOwn w' base v' f B → w.grownBy w' v.ownBlock → wpList Try.prog ops Q rest (a.put o.dst v') w') : wpList Try.prog ops Q (o :: rest) a w := by
  obtain ⟨i0, hi, hz0, hz1, hz2⟩ := info_parts infoBoolR
  obtain ⟨ao, cap, rfl, h1, h2, h4⟩ := hy.form
  cases ao with
  | none =>
    have hB0 : B = 0 := Decidable.byContradiction fun hne => by obtain ⟨_, e, _⟩ := h4 hne; cases e
    subst hB0
    have hc0 : cap = 0 := by
      rcases hy.2 with ⟨e, _⟩ | ⟨g, cap', cur, e, _⟩
      · injection e
      · cases e
    subst hc0
    refine wpList_append_own_none hgd s x 53 ho base 4 i0 1 Try.underlying53 hi v 0 [] hs hown hx ?_
    exact h v w (by simpa [BOwn, bvl] using hown) (World.grownBy.refl _ _)
  | some ad =>
    refine wpList_append_own w hgd s x 53 ho base 4 i0 (.bool false) 1 1 Try.underlying53 hi hz0 hz1 hz2 rfl (by decide) v 0 [] hs hown ad B cap (bvl f B) hx (by simp [bvl]) ?_ ?_ (by unfold maxLen; omega) (by omega) hbase ?_
    · intro j u hj
      by_cases hjl : j < B
      · obtain ⟨g, e, _, _, _, hc⟩ := h4 (by omega)
        cases e
        rw [bvl_at f hjl] at hj
        cases hj
        rw [addr_add, Nat.zero_add]
        exact hc j hjl
      · rw [List.getElem?_eq_none (by rw [bvl_len]; omega)] at hj
        cases hj
    · intro u hu
      obtain ⟨z, _, rfl⟩ := List.mem_map.1 hu
      rfl
    · intro v' w' ho' hgr _
      refine h v' w' ?_ hgr
      unfold BOwn
      rw [List.nil_append, Nat.zero_add] at ho'
      exact ho'
theorem bools_empty (w : World) : (w.alloc (.cells #[] 4)).ownsRow w.heap.size 4 1 (.slice (some ⟨w.heap.size, 0, none⟩) 0 0) 0 [] := ⟨rfl, .inr ⟨w.heap.size, 0, #[], rfl, Nat.le_refl _, heap_alloc_new _ _, by simp, by unfold maxLen; omega, by simp, by simp⟩⟩

theorem gr_weak {w w' : World} (b : Nat) (h : w.grownBy w' none) : w.grownBy w' (some b) := by
  obtain ⟨h1, h2, h3, h4, h5⟩ := h
  exact ⟨h1, h2, h3, h4, fun k hk _ => h5 k hk (by simp)⟩
theorem BOwn.low {w : World} {base base' B : Nat} {v : Value} {f : Nat → Bool} (h : BOwn w base v f B) (hb : base' ≤ base) : BOwn w base' v f B := by
  obtain ⟨h1, h2⟩ := h
  refine ⟨h1, ?_⟩
  rcases h2 with h2 | ⟨g, cap, cur, e, hb', r⟩
  · exact .inl h2
  · exact .inr ⟨g, cap, cur, e, by omega, r⟩
theorem rm_storeCommit {w w0 : World} {N b B : Nat} {v1 v2 v' : Value} {U V : Nat → Bool} (h0 : RmAt w0 N b B v1 v2 U V) (h : RmAt w N b B v1 v2 U V) (ho : BOwn w w0.heap.size v' U B) (hN : N ≤ w0.heap.size) :
    RmAt (w.setCell ⟨b, 1, none⟩ v') N b B v1 v' U U ∧ w.grownBy (w.setCell ⟨b, 1, none⟩ v') (some b) := by
  have hg := setCell_grown w b 1 v'
  refine ⟨⟨?_, (h.now.kept hg (fun q hq e => by cases e; obtain ⟨_, cur, hc⟩ := h.now.row hq; rw [h.blk] at hc; cases hc)), ((BOwn.low ho hN).kept hg (fun q hq e => by cases e; obtain ⟨_, cur, hc⟩ := ho.row hq; rw [h.blk] at hc; cases hc)), h.le, h.base, fun q hq e => by
    obtain ⟨_, cur, hc⟩ := h0.now.row hq
    have h1 := lt_of_block hc
    have h2 := (ho.row e).1
    omega⟩, hg⟩
  rw [heap_setCell_same w b 1 _ _ _ h.blk]
  rfl
theorem rm_storeReset {w w0 : World} {N b B : Nat} {v1 v2 v' : Value} {U V : Nat → Bool} (h0 : RmAt w0 N b B v1 v2 U V) (h : RmAt w N b B v1 v2 U V) (ho : BOwn w w0.heap.size v' V B) (hN : N ≤ w0.heap.size) :
    RmAt (w.setCell ⟨b, 0, none⟩ v') N b B v' v2 V V ∧ w.grownBy (w.setCell ⟨b, 0, none⟩ v') (some b) := by
  have hg := setCell_grown w b 0 v'
  refine ⟨⟨?_, ((BOwn.low ho hN).kept hg (fun q hq e => by cases e; obtain ⟨_, cur, hc⟩ := ho.row hq; rw [h.blk] at hc; cases hc)), (h.last.kept hg (fun q hq e => by cases e; obtain ⟨_, cur, hc⟩ := h.last.row hq; rw [h.blk] at hc; cases hc)), h.le, h.base, fun q hq e => by
    obtain ⟨_, cur, hc⟩ := h0.last.row e
    have h1 := lt_of_block hc
    have h2 := (ho.row hq).1
    omega⟩, hg⟩
  rw [heap_setCell_same w b 0 _ _ _ h.blk]
  rfl
set_option maxHeartbeats 2000000 in
theorem rCommit_any (w : World) (N b B : Nat) (v1 v2 : Value) (U V : Nat → Bool) (h : RmAt w N b B v1 v2 U V) (hN : N ≤ w.heap.size) :
    Calls Try.prog 16 #[.pointer (some ⟨b, 0, none⟩)] w fun e w' => (∃ u, e = .returned u) ∧ ∃ v3, RmAt w' N b B v1 v3 U U ∧ w.grownBy w' (some b) := by
  have HM := hide h
  have hle := h.le
  obtain ⟨o1, p1, hv1, _⟩ := h.now.form
  obtain ⟨o2, p2, hv2, _⟩ := h.last.form
  subst hv1 hv2
  have c0 : (w.alloc (.cells #[] 4)).cell? ⟨b, 0, none⟩ = some (.slice o1 B p1) := (World.grownBy_alloc _ _ none).cell h.c0 (by simp)
  clear h
  go_enter Try.func16, Try.ntmps16
  go_wp2_with (at_builtin; refine wpList_append_bools rfl (.tmp 3) (.tmp 7) rfl w.heap.size _ rfl (bools_empty w) _ N B U rfl ?hy hle ?hbase ?_)
  case hy => exact (unhide HM).now.kept (World.grownBy_alloc _ _ none) (fun _ _ e => by cases e)
  case hbase => simp
  intro v' w' ho hg
  have hg0 : w.grownBy w' none := (World.grownBy_alloc w (.cells #[] 4) none).andThen hg (fun z e => .inl (by cases e; exact Nat.le_refl _))
  have M2 := (unhide HM).grown hg0
  have d1 := M2.c1
  have f1 : w'.frozen? ⟨b, 1, none⟩ = false := by simp [World.frozen?, M2.blk]
  have HS := hide (rm_storeCommit (unhide HM) M2 ho hN)
  have HG := hide hg0
  obtain ⟨o3, p3, hv3, _⟩ := ho.form
  subst hv3
  clear ho hg hg0 M2 c0
  go_wp2
  go_end0
  exact ⟨⟨_, rfl⟩, _, (unhide HS).1, (gr_weak b (unhide HG)).trans (unhide HS).2⟩
set_option maxHeartbeats 2000000 in
theorem rReset_any (w : World) (N b B : Nat) (v1 v2 : Value) (U V : Nat → Bool) (h : RmAt w N b B v1 v2 U V) (hN : N ≤ w.heap.size) :
    Calls Try.prog 18 #[.pointer (some ⟨b, 0, none⟩)] w fun e w' => (∃ u, e = .returned u) ∧ ∃ v3, RmAt w' N b B v3 v2 V V ∧ w.grownBy w' (some b) := by
  have HM := hide h
  have hle := h.le
  obtain ⟨o1, p1, hv1, _⟩ := h.now.form
  obtain ⟨o2, p2, hv2, _⟩ := h.last.form
  subst hv1 hv2
  have c0 : (w.alloc (.cells #[] 4)).cell? ⟨b, 1, none⟩ = some (.slice o2 B p2) := (World.grownBy_alloc _ _ none).cell h.c1 (by simp)
  clear h
  go_enter Try.func18, Try.ntmps18
  go_wp2_with (at_builtin; refine wpList_append_bools rfl (.tmp 3) (.tmp 7) rfl w.heap.size _ rfl (bools_empty w) _ N B V rfl ?hy hle ?hbase ?_)
  case hy => exact (unhide HM).last.kept (World.grownBy_alloc _ _ none) (fun _ _ e => by cases e)
  case hbase => simp
  intro v' w' ho hg
  have hg0 : w.grownBy w' none := (World.grownBy_alloc w (.cells #[] 4) none).andThen hg (fun z e => .inl (by cases e; exact Nat.le_refl _))
  have M2 := (unhide HM).grown hg0
  have d1 := M2.c0
  have f1 : w'.frozen? ⟨b, 0, none⟩ = false := by simp [World.frozen?, M2.blk]
  have HS := hide (rm_storeReset (unhide HM) M2 ho hN)
  have HG := hide hg0
  obtain ⟨o3, p3, hv3, _⟩ := ho.form
  subst hv3
  clear ho hg hg0 M2 c0
  go_wp2
  go_end0
  exact ⟨⟨_, rfl⟩, _, (unhide HS).1, (gr_weak b (unhide HG)).trans (unhide HS).2⟩
end Go.Proofs.Ytmnmciajldoabaa
