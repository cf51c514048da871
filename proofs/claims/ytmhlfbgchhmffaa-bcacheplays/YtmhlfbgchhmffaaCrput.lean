/-
  DERIVED. The document's Put.
-/
import Derived.Test.YtmhlfbgchhmffaaCruse
import Derived.Deep.QuietTactic
import Derived.BigQuiet
namespace Go.Proofs.Ytmhlfbgchhmffaa
open Go.RowKit Go.Maps
set_option linter.unusedVariables false

/-- One cell of an item is another. -/
theorem RC.item {w : World} {N b M n cap g : Nat} {xs : List It} (h : RC w N b M (.slice (some ⟨g, 0, none⟩) n cap) xs) (i j : Nat) (u : Value) (y : It) (hi : i < xs.length) (hj : j < 4) (e : (itc xs[i]).set j u = itc y) :
    RC (w.setCell ⟨g, i * 4 + j, none⟩ u) N b M (.slice (some ⟨g, 0, none⟩) n cap) (xs.set i y) ∧ RFr N w (w.setCell ⟨g, i * 4 + j, none⟩ u) := by
  obtain ⟨hg1, cur, hg⟩ := h.own.row (q := g) rfl
  have hne : b ≠ g := by
    rintro rfl
    have h1 := Option.some.inj (h.blk.symm.trans hg)
    injection h1 with _ h2 _
    exact absurd h2 (by decide)
  exact ⟨⟨(Below.heap_setCell w ⟨g, i * 4 + j, none⟩ u b hne).trans h.blk, h.own.set i j u y hi hj e, h.nb, by rw [List.length_set]; exact h.len⟩, (RFr.refl N w).set hg hg1 (by decide) u⟩
theorem RC.row {w : World} {N b M n cap g : Nat} {xs : List It} (h : RC w N b M (.slice (some ⟨g, 0, none⟩) n cap) xs) (i : Nat) : w.frozen? ⟨g, i, none⟩ = false := by
  obtain ⟨hg1, cur, hg⟩ := h.own.row (q := g) rfl
  simp [World.frozen?, hg]
theorem mid_set (X1 X2 : List It) (t y : It) : (X1 ++ t :: X2).set X1.length y = X1 ++ y :: X2 := by
  rw [List.set_append_right _ _ (Nat.le_refl _), Nat.sub_self]
  rfl

set_option maxRecDepth 20000 in
set_option maxHeartbeats 2000000 in
theorem rPut_there (w : World) (N b M : Nat) (v0 : Value) (X1 X2 : List It) (t : It) (v : Int) (d : Bool) (h : RC w N b M v0 (X1 ++ t :: X2)) (hk : ∀ x ∈ X1, x.k ≠ t.k) (hN : N ≤ w.heap.size) :
    Calls Try.prog 35 #[.pointer (some ⟨b, 0, none⟩), .int .i64 t.k, .int .i64 v, .bool d] w (GPost w N b M (.tuple #[.int .i64 0, .int .i64 0, .bool false, .bool false, .int .i64 0]) (X1 ++ X2 ++ [⟨t.k, v, t.d || d, t.p⟩])) := by
  have c1 := h.c1
  have hi0 : X1.length < (X1 ++ t :: X2).length := by simp
  obtain ⟨ao, cap, rfl, h1, h2, _⟩ := h.own.form
  obtain ⟨g, rfl, _, ⟨cur, hg⟩, d0, d1, d2, d3⟩ := h.own.at hi0
  have hl := h.len
  have et : (X1 ++ t :: X2)[X1.length] = t := by simp
  rw [et] at d1 d2
  have fz := h.row
  have hbg : b ≠ g := by
    rintro rfl
    have h1 := Option.some.inj (h.blk.symm.trans hg)
    injection h1 with _ h2 _
    exact absurd h2 (by decide)
  have hgb : g ≠ b := fun e => hbg e.symm
  obtain ⟨r1, f1⟩ := h.item X1.length 1 (.int .i64 v) ⟨t.k, v, t.d, t.p⟩ hi0 (by omega) (by rw [et]; rfl)
  rw [mid_set] at r1
  have et2 : (X1 ++ (⟨t.k, v, t.d, t.p⟩ : It) :: X2)[X1.length]'(by simp) = ⟨t.k, v, t.d, t.p⟩ := by simp
  obtain ⟨r2, f2⟩ := r1.item X1.length 2 (.bool (t.d || d)) ⟨t.k, v, t.d || d, t.p⟩ (by simp) (by omega) (by rw [et2]; rfl)
  rw [mid_set] at r2
  obtain ⟨n, hn⟩ : ∃ n, n = (X1 ++ t :: X2).length := ⟨_, rfl⟩
  obtain ⟨q, hq⟩ : ∃ q, q = X1.length := ⟨_, rfl⟩
  have FA := hide (rFind_some w N b M _ X1 X2 t h hk)
  have UA : Hid (∀ x, Calls Try.prog 60 #[.pointer (some ⟨b, 0, none⟩), .int .i64 (X1.length : Int)] (((w.setCell ⟨g, X1.length * 4 + 1, none⟩ (.int .i64 v)).setCell ⟨g, X1.length * 4 + 2, none⟩ (.bool (t.d || d))).drewN x) (UPost (((w.setCell ⟨g, X1.length * 4 + 1, none⟩ (.int .i64 v)).setCell ⟨g, X1.length * 4 + 2, none⟩ (.bool (t.d || d))).drewN x) N b M (X1 ++ X2 ++ [⟨t.k, v, t.d || d, t.p⟩]))) := hide (fun x => ruse_any _ N b M _ X1 X2 ⟨t.k, v, t.d || d, t.p⟩ (r2.drewN x) (by simpa using hN))
  have F12 : Hid (∀ x, RFr N w (((w.setCell ⟨g, X1.length * 4 + 1, none⟩ (.int .i64 v)).setCell ⟨g, X1.length * 4 + 2, none⟩ (.bool (t.d || d))).drewN x)) := hide (fun x => (f1.trans f2).drewN x)
  rw [← hq] at FA UA F12 hi0 d1 d2
  rw [← hn] at hi0 c1 h1 hl
  have hidx : (0 : Int) ≤ (q : Int) ∧ (q : Int) < (n : Int) := ⟨by omega, by omega⟩
  clear hn hq h hk hg et d0 d3 r1 r2 f1 f2 et2
  cases hd : t.d with
  | true =>
    rw [hd] at d2 UA F12
    simp only [Bool.true_or] at UA F12 ⊢
    go_enter Try.func35, Try.ntmps35
    go_wp2_with fail
    refine (unhide FA).mono ?_
    rintro e w1 ⟨rfl, rfl⟩
    go_wp2_with fail
    go_region
    all_goals go_wp2_with fail
    all_goals
      refine (unhide UA 1).mono ?_
      rintro e w2 ⟨rfl, ⟨v2, h2⟩, f2⟩
      have H2 := hide h2
      have F2 := hide ((unhide F12 1).trans f2)
      clear h2 f2
      go_wp2
      exact bodyPost_ret (v := .tuple #[.int .i64 0, .int .i64 0, .bool false, .bool false, .int .i64 0]) (by simp [results, Try.results35, go_sem]) rfl ⟨rfl, ⟨v2, unhide H2⟩, unhide F2⟩
  | false =>
    rw [hd] at d2 UA F12
    simp only [Bool.false_or] at UA F12 ⊢
    go_enter Try.func35, Try.ntmps35
    go_wp2_with fail
    refine (unhide FA).mono ?_
    rintro e w1 ⟨rfl, rfl⟩
    go_wp2_with fail
    go_region
    all_goals go_wp2_with fail
    all_goals
      refine (unhide UA 1).mono ?_
      rintro e w2 ⟨rfl, ⟨v2, h2⟩, f2⟩
      have H2 := hide h2
      have F2 := hide ((unhide F12 1).trans f2)
      clear h2 f2
      go_wp2
      exact bodyPost_ret (v := .tuple #[.int .i64 0, .int .i64 0, .bool false, .bool false, .int .i64 0]) (by simp [results, Try.results35, go_sem]) rfl ⟨rfl, ⟨v2, unhide H2⟩, unhide F2⟩

theorem wpList_append_items {ops : Array Oper} {rest : List Oper} {o : Oper} {a : Act} {w : World} {Q : Exit → Act → World → Prop} (hgd : o.guard = none) (s x : Operand)
    (hop : o.op = Op.call { callee := Callee.builtin Builtin.append, args := #[s, x], argTypes := #[75, 75] }) (base : Nat) (v : Value) (xs ys : List It) (hs : a.eval s = v) (hown : IOwn w base v xs) (hb : base ≤ w.heap.size) (hl : xs.length + ys.length ≤ 65536) (ad : Addr) (n c : Nat)
    (hx : a.eval x = .slice (some ad) n c) (hn : n = ys.length) (hc : ∀ j u, (icells ys)[j]? = some u → w.cell? (ad.add j) = some u)
    (hK : ∀ v' w', IOwn w' base v' (xs ++ ys) → w.grownBy w' v.ownBlock → wpList Try.prog ops Q rest (a.put o.dst v') w') :
    wpList Try.prog ops Q (o :: rest) a w := by
  subst hn
  obtain ⟨i0, hi, hz0, hz1, hz2⟩ := info_parts Try.infoItem
  refine wpList_append_own w hgd s x 75 hop base 130 i0 (.agg #[.int .i64 0, .int .i64 0, .bool false, .int .i64 0]) 4 32 Try.underlying75 hi hz0 hz1 hz2 rfl (by decide) v xs.length (icells xs) hs hown ad ys.length c (icells ys) hx (icells_len ys) hc (icells_one ys) (by unfold maxLen; omega) (by omega) hb ?_
  intro v' w' ho' hgr _
  refine hK v' w' ?_ hgr
  unfold IOwn
  rw [icells_append, List.length_append]
  exact ho'

/-- The document's cache with its slice grown. -/
theorem RC.grew {N b M : Nat} {v v' : Value} {xs ys : List It} {a w w' : World} (h : RC w N b M v xs) (hf : RFr N a w) (hg : w.grownBy w' v.ownBlock) (ho : IOwn w' N v' ys) (hl : ys.length ≤ 1024) : RC (w'.setCell ⟨b, 1, none⟩ v') N b M v' ys ∧ RFr N a (w'.setCell ⟨b, 1, none⟩ v') := by
  have hb : w'.heap[b]? = some (.cells #[.int .i64 (M : Int), v] 77 (0, 0)) := (hg.block b (lt_of_block h.blk) (fun e => by
    obtain ⟨_, cur, hc⟩ := h.own.row e.symm
    have h1 := Option.some.inj (h.blk.symm.trans hc)
    injection h1 with _ h2 _
    exact absurd h2 (by decide))).trans h.blk
  refine ⟨⟨heap_setCell_same w' b 1 _ _ _ hb, ho.keptB (fun q hq _ => Below.heap_setCell w' ⟨b, 1, none⟩ v' q (fun e => ?_)), h.nb, hl⟩, RFr.set (hf.grown h.own (Nat.le_refl _) hg) hb h.nb (by decide) _⟩
  obtain ⟨_, cur, hc⟩ := ho.row hq
  have e' : q = b := e
  rw [e', hb] at hc
  have h1 := Option.some.inj hc
  injection h1 with _ h2 _
  exact absurd h2 (by decide)

set_option maxRecDepth 20000 in
set_option maxHeartbeats 2000000 in
theorem rPut_room (w : World) (N b M : Nat) (v0 : Value) (xs : List It) (k v : Int) (d : Bool) (h : RC w N b M v0 xs) (hk : ∀ x ∈ xs, x.k ≠ k) (hlt : xs.length < M) (hM : M ≤ 1024) (hN : N ≤ w.heap.size) :
    Calls Try.prog 35 #[.pointer (some ⟨b, 0, none⟩), .int .i64 k, .int .i64 v, .bool d] w (GPost w N b M (.tuple #[.int .i64 0, .int .i64 0, .bool false, .bool false, .int .i64 0]) (xs ++ [⟨k, v, d, 0⟩])) := by
  have hbl := lt_of_block h.blk
  have FA := hide (rFind_none w N b M _ xs k h hk)
  have H := hide h
  obtain ⟨ao, cap, rfl, h1, h2, _⟩ := h.own.form
  have c0 := h.c0
  have c1 := h.c1
  obtain ⟨n, hn⟩ : ∃ n, n = xs.length := ⟨_, rfl⟩
  rw [← hn] at c1 h1 hlt H
  have hne : ((n : Int) == (M : Int)) = false := by simp; omega
  have hyl : Hid ((xs ++ [(⟨k, v, d, 0⟩ : It)]).length ≤ 1024) := hide (by rw [hn] at hlt; simp; omega)
  have hap : Hid (xs.length + [(⟨k, v, d, 0⟩ : It)].length ≤ 65536) := hide (by rw [hn] at hlt; simp; omega)
  clear h hk hn
  go_enter Try.func35, Try.ntmps35
  go_wp2_with fail
  refine (unhide FA).mono ?_
  rintro e w1 ⟨rfl, rfl⟩
  have bz : Below w1.heap.size w1 (w1.alloc (.cells #[.int .i64 0, .int .i64 0, .bool false, .int .i64 0] 130)) := (Below.refl _ _).alloc (Nat.le_refl _) _
  have c0' := (bz.cell (p := ⟨b, 0, none⟩) hbl).trans c0
  have c1' := (bz.cell (p := ⟨b, 1, none⟩) hbl).trans c1
  have BZ := hide bz
  clear bz
  have BW : Hid (∀ x, Below w1.heap.size w1 (((w1.alloc (.cells #[.int .i64 0, .int .i64 0, .bool false, .int .i64 0] 130)).drewN x).alloc (.cells #[.int .i64 k, .int .i64 v, .bool d, .int .i64 0] 130))) := hide (fun x => (below_drewN (unhide BZ) x).alloc (unhide BZ).size _)
  have NB : Hid (∀ x, (((w1.alloc (.cells #[.int .i64 0, .int .i64 0, .bool false, .int .i64 0] 130)).drewN x).alloc (.cells #[.int .i64 k, .int .i64 v, .bool d, .int .i64 0] 130)).heap[w1.heap.size + 1]? = some (.cells #[.int .i64 k, .int .i64 v, .bool d, .int .i64 ((0 : Nat) : Int)] 130 (0, 0))) := hide (fun x => by
    have e : w1.heap.size + 1 = ((w1.alloc (.cells #[.int .i64 0, .int .i64 0, .bool false, .int .i64 0] 130)).drewN x).heap.size := (World.size_alloc w1 _).symm
    rw [e]
    exact heap_alloc_new _ _)
  have ZB : Hid (∀ x, (((w1.alloc (.cells #[.int .i64 0, .int .i64 0, .bool false, .int .i64 0] 130)).drewN x).alloc (.cells #[.int .i64 k, .int .i64 v, .bool d, .int .i64 0] 130)).heap[w1.heap.size]? = some (.cells #[.int .i64 0, .int .i64 0, .bool false, .int .i64 0] 130 (0, 0))) := hide (fun x => (Below.heap_alloc ((w1.alloc (.cells #[.int .i64 0, .int .i64 0, .bool false, .int .i64 0] 130)).drewN x) _ w1.heap.size (by show w1.heap.size < (w1.alloc (.cells #[.int .i64 0, .int .i64 0, .bool false, .int .i64 0] 130)).heap.size; simp)).trans (heap_alloc_new w1 _))
  go_wp2_with fail
  go_quiet (fail)
  go_wp2_with (at_builtin; refine wpList_append_items rfl (.tmp 105) (.tmp 110) rfl N _ xs [⟨k, v, d, 0⟩] rfl ?p1 ?p2 (unhide hap) ⟨w1.heap.size + 1, 0, none⟩ 1 1 rfl rfl ?p3 ?_)
  case p1 => exact (unhide H).own.below (unhide BW _)
  case p2 => exact Nat.le_trans hN (unhide BW _).size
  case p3 => exact item_cells ⟨k, v, d, 0⟩ (unhide NB _)
  intro v4 w4 o4 g4
  obtain ⟨r4, f4⟩ := RC.grew ((unhide H).below (unhide BW _)) (RFr.of_below (unhide BW _)) g4 o4 (unhide hyl)
  have R4 := hide r4
  have F4 := hide f4
  have zb4 : w4.heap[w1.heap.size]? = some (.cells #[.int .i64 0, .int .i64 0, .bool false, .int .i64 0] 130 (0, 0)) := (g4.block w1.heap.size (lt_of_block (unhide ZB _)) (fun e => by
    obtain ⟨_, cur, hc⟩ := (unhide H).own.row e.symm
    have := lt_of_block hc
    omega)).trans (unhide ZB _)
  have z0 : w4.cell? ⟨w1.heap.size, 0, none⟩ = some (.int .i64 0) := (cell_of_row _ _ _ _ _ _ zb4).trans rfl
  have z1 : w4.cell? ⟨w1.heap.size, 1, none⟩ = some (.int .i64 0) := (cell_of_row _ _ _ _ _ _ zb4).trans rfl
  have z2 : w4.cell? ⟨w1.heap.size, 2, none⟩ = some (.bool false) := (cell_of_row _ _ _ _ _ _ zb4).trans rfl
  have hb4 : w4.heap[b]? = some (.cells #[.int .i64 (M : Int), .slice ao n cap] 77 (0, 0)) := (g4.block b (Nat.lt_of_lt_of_le hbl (unhide BW _).size) (fun e => by
    obtain ⟨_, cur, hc⟩ := (unhide H).own.row e.symm
    have h1 := Option.some.inj ((unhide H).blk.symm.trans hc)
    injection h1 with _ h2 _
    exact absurd h2 (by decide))).trans (((unhide BW _).block b hbl).trans (unhide H).blk)
  have d4 : w4.cell? ⟨b, 1, none⟩ = some (.slice ao n cap) := (cell_of_row _ _ _ _ _ _ hb4).trans rfl
  have fz4 : ∀ i, w4.frozen? ⟨b, i, none⟩ = false := fun i => by simp [World.frozen?, hb4]
  have hbz : ¬ w1.heap.size = b := by omega
  have hbz' : ¬ b = w1.heap.size := by omega
  obtain ⟨ao4, cap4, hv4, _⟩ := o4.form
  obtain ⟨n4, hn4⟩ : ∃ n4, v4 = .slice ao4 n4 cap4 := ⟨_, hv4⟩
  clear hv4
  subst hn4
  clear r4 f4 zb4 hb4 o4 g4
  go_wp2_with fail
  go_quiet (fail)
  go_wp2
  exact bodyPost_ret (v := .tuple #[.int .i64 0, .int .i64 0, .bool false, .bool false, .int .i64 0]) (by simp [results, Try.results35, go_sem]) rfl ⟨rfl, ⟨_, (unhide R4).drewN _⟩, (unhide F4).drewN _⟩
end Go.Proofs.Ytmhlfbgchhmffaa
