/-
  DERIVED. The document's Put, where the cache is full.
-/
import Derived.Test.YtmhlfbgchhmffaaCrput
namespace Go.Proofs.Ytmhlfbgchhmffaa
open Go.RowKit Go.Maps
set_option linter.unusedVariables false

set_option maxRecDepth 20000 in
set_option maxHeartbeats 2000000 in
theorem rPut_full (w : World) (N b M : Nat) (v0 : Value) (xs : List It) (k v : Int) (d : Bool) (h : RC w N b M v0 xs) (hk : ∀ x ∈ xs, x.k ≠ k) (hM : xs.length = M) (hp : ∀ x ∈ xs, x.p ≠ 0) (hN : N ≤ w.heap.size) :
    Calls Try.prog 35 #[.pointer (some ⟨b, 0, none⟩), .int .i64 k, .int .i64 v, .bool d] w (GPost w N b M (.tuple #[.int .i64 0, .int .i64 0, .bool false, .bool false, .int .i64 70]) xs) := by
  have hbl := lt_of_block h.blk
  have FA := hide (rFind_none w N b M _ xs k h hk)
  have H := hide h
  obtain ⟨ao, cap, rfl, h1, h2, _⟩ := h.own.form
  have c0 := h.c0
  have c1 := h.c1
  have hl := h.len
  obtain ⟨n, hn⟩ : ∃ n, n = xs.length := ⟨_, rfl⟩
  rw [← hM, ← hn] at c0
  rw [← hn] at c1 h1 hl H
  have hni : (n : Int) ≤ 1024 := by omega
  have heq : ((n : Int) == (n : Int)) = true := by simp
  have HN := hide hn
  have HP := hide hp
  clear h hk hn hp hM
  go_enter Try.func35, Try.ntmps35
  go_wp2_with fail
  refine (unhide FA).mono ?_
  rintro e w1 ⟨rfl, rfl⟩
  have bz : Below w1.heap.size w1 (w1.alloc (.cells #[.int .i64 0, .int .i64 0, .bool false, .int .i64 0] 130)) := (Below.refl _ _).alloc (Nat.le_refl _) _
  have c0' := (bz.cell (p := ⟨b, 0, none⟩) hbl).trans c0
  have c1' := (bz.cell (p := ⟨b, 1, none⟩) hbl).trans c1
  have HC : Hid (∀ j, (h : j < xs.length) → ∃ g, ao = some ⟨g, 0, none⟩ ∧ (w1.alloc (.cells #[.int .i64 0, .int .i64 0, .bool false, .int .i64 0] 130)).cell? ⟨g, j * 4 + 3, none⟩ = some (.int .i64 (xs[j].p : Int))) := hide (fun j hj => by
    obtain ⟨g, e, _, _, _, _, _, d3⟩ := ((unhide H).own.below bz).at hj
    exact ⟨g, e, d3⟩)
  have BZ := hide bz
  clear bz
  go_wp2_with fail
  go_quiet (fail)
  go_wp2
  go_loop [16] (fun i => ∃ j : Nat, i = .int .i64 (j : Int) ∧ j ≤ n) (fun i => n - (intOf i).toNat)
  case atStart => exact ⟨0, rfl, by omega⟩
  case round =>
    obtain ⟨j, rfl, hj⟩ := hrel
    have hji : (j : Int) ≤ 1024 := by omega
    by_cases hlt : j < n
    · have hlt' : (j : Int) < (n : Int) := by omega
      have hidx : (0 : Int) ≤ (j : Int) ∧ (j : Int) < (n : Int) := ⟨by omega, hlt'⟩
      have hjx : j < xs.length := by rw [← unhide HN]; exact hlt
      obtain ⟨g, rfl, d3⟩ := unhide HC j hjx
      obtain ⟨p, hp⟩ : ∃ p, p = xs[j].p := ⟨_, rfl⟩
      have hp0 : (0 : Int) < (p : Int) := by
        have := unhide HP _ (List.getElem_mem hjx)
        rw [← hp] at this
        omega
      rw [← hp] at d3
      clear hp
      go_wp2
      go_round
      case rel => exact ⟨j + 1, by go_num, by omega⟩
      case measure => simp [intOf]; omega
    · obtain rfl : j = n := by omega
      have hlt' : ¬ (j : Int) < (j : Int) := by omega
      go_wp2
      exact bodyPost_ret (v := .tuple #[.int .i64 0, .int .i64 0, .bool false, .bool false, .int .i64 70]) (by simp [results, Try.results35, go_sem]) rfl ⟨rfl, ⟨_, ((unhide H).below (unhide BZ)).drewN _⟩, (RFr.of_below (unhide BZ)).drewN _⟩

set_option maxRecDepth 20000 in
set_option maxHeartbeats 4000000 in
theorem rPut_goes (w : World) (N b M : Nat) (v0 : Value) (X1 X2 : List It) (t : It) (k v : Int) (d : Bool) (h : RC w N b M v0 (X1 ++ t :: X2)) (hk : ∀ x ∈ X1 ++ t :: X2, x.k ≠ k) (hM : (X1 ++ t :: X2).length = M) (hp : ∀ x ∈ X1, x.p ≠ 0) (ht : t.p = 0) (hN : N ≤ w.heap.size) :
    Calls Try.prog 35 #[.pointer (some ⟨b, 0, none⟩), .int .i64 k, .int .i64 v, .bool d] w (GPost w N b M (.tuple #[.int .i64 t.k, .int .i64 t.v, .bool true, .bool t.d, .int .i64 0]) (X1 ++ X2 ++ [⟨k, v, d, 0⟩])) := by
  have hbl := lt_of_block h.blk
  have FA := hide (rFind_none w N b M _ _ k h hk)
  have H := hide h
  obtain ⟨ao, cap, rfl, h1, h2, _⟩ := h.own.form
  have hi0 : X1.length < (X1 ++ t :: X2).length := by simp
  obtain ⟨g, rfl, _, ⟨cur, hg⟩, _⟩ := h.own.at hi0
  have c0 := h.c0
  have c1 := h.c1
  have hl := h.len
  have hgl := lt_of_block hg
  obtain ⟨n, hn⟩ : ∃ n, n = (X1 ++ t :: X2).length := ⟨_, rfl⟩
  obtain ⟨q, hq⟩ : ∃ q, q = X1.length := ⟨_, rfl⟩
  rw [← hM, ← hn] at c0
  rw [← hn] at c1 h1 hl H hi0
  rw [← hq] at hi0
  have hni : (n : Int) ≤ 1024 := by omega
  have heq : ((n : Int) == (n : Int)) = true := by simp
  have hqn : ((q : Int) == (n : Int)) = false := by simp; omega
  have HN := hide hn
  have HQ := hide hq
  have HP := hide hp
  have et : Hid ((X1 ++ t :: X2)[X1.length]'(by simp) = t) := hide (by simp)
  have hyl : Hid ((X1 ++ X2 ++ [(⟨k, v, d, 0⟩ : It)]).length ≤ 1024) := hide (by rw [hn] at hl; simp at hl ⊢; omega)
  have hxl : Hid ((X1 ++ X2).length ≤ 1024) := hide (by rw [hn] at hl; simp at hl ⊢; omega)
  have hap : Hid ((X1 ++ X2).length + [(⟨k, v, d, 0⟩ : It)].length ≤ 65536) := hide (by rw [hn] at hl; simp at hl ⊢; omega)
  clear h hk hn hp hM hq hg
  go_enter Try.func35, Try.ntmps35
  go_wp2_with fail
  refine (unhide FA).mono ?_
  rintro e w1 ⟨rfl, rfl⟩
  have bz : Below w1.heap.size w1 (w1.alloc (.cells #[.int .i64 0, .int .i64 0, .bool false, .int .i64 0] 130)) := (Below.refl _ _).alloc (Nat.le_refl _) _
  have c0' := (bz.cell (p := ⟨b, 0, none⟩) hbl).trans c0
  have c1' := (bz.cell (p := ⟨b, 1, none⟩) hbl).trans c1
  have HC : Hid (∀ j, (h : j < (X1 ++ t :: X2).length) → (w1.alloc (.cells #[.int .i64 0, .int .i64 0, .bool false, .int .i64 0] 130)).cell? ⟨g, j * 4, none⟩ = some (.int .i64 (X1 ++ t :: X2)[j].k) ∧ (w1.alloc (.cells #[.int .i64 0, .int .i64 0, .bool false, .int .i64 0] 130)).cell? ⟨g, j * 4 + 1, none⟩ = some (.int .i64 (X1 ++ t :: X2)[j].v) ∧ (w1.alloc (.cells #[.int .i64 0, .int .i64 0, .bool false, .int .i64 0] 130)).cell? ⟨g, j * 4 + 2, none⟩ = some (.bool (X1 ++ t :: X2)[j].d) ∧ (w1.alloc (.cells #[.int .i64 0, .int .i64 0, .bool false, .int .i64 0] 130)).cell? ⟨g, j * 4 + 3, none⟩ = some (.int .i64 ((X1 ++ t :: X2)[j].p : Int))) := hide (fun j hj => by
    obtain ⟨g', e, _, _, d⟩ := ((unhide H).own.below bz).at hj
    cases e
    exact d)
  have BZ := hide bz
  clear bz
  go_wp2_with fail
  go_quiet (fail)
  go_wp2
  go_loop [16] (fun i => ∃ j : Nat, i = .int .i64 (j : Int) ∧ j ≤ q) (fun i => n - (intOf i).toNat)
  case atStart => exact ⟨0, rfl, by omega⟩
  case round =>
    obtain ⟨j, rfl, hj⟩ := hrel
    have hji : (j : Int) ≤ 1024 := by omega
    have hlt' : (j : Int) < (n : Int) := by omega
    have hidx : (0 : Int) ≤ (j : Int) ∧ (j : Int) < (n : Int) := ⟨by omega, hlt'⟩
    have hjx : j < (X1 ++ t :: X2).length := by rw [← unhide HN]; omega
    obtain ⟨d0, d1, d2, d3⟩ := unhide HC j hjx
    by_cases hlt : j < q
    · have hj1 : j < X1.length := by rw [← unhide HQ]; exact hlt
      obtain ⟨p, hp⟩ : ∃ p, p = (X1 ++ t :: X2)[j].p := ⟨_, rfl⟩
      have hp0 : (0 : Int) < (p : Int) := by
        have h1 := unhide HP _ (List.getElem_mem hj1)
        rw [List.getElem_append_left hj1] at hp
        rw [← hp] at h1
        omega
      rw [← hp] at d3
      clear hp d0 d1 d2
      go_wp2
      go_round
      case rel => exact ⟨j + 1, by go_num, by omega⟩
      case measure => simp [intOf]; omega
    · obtain rfl : j = q := by omega
      have ej : (X1 ++ t :: X2)[j] = t := by
        have e1 : j = X1.length := unhide HQ
        subst e1
        simp
      rw [ej] at d0 d1 d2 d3
      rw [ht] at d3
      clear ej hlt
      have WA : Hid (∀ W : World, RC W N b M (.slice (some ⟨g, 0, none⟩) n cap) (X1 ++ t :: X2) → Calls Try.prog 61 #[.pointer (some ⟨b, 0, none⟩), .int .i64 (j : Int)] W (WPost W (X1 ++ X2))) := hide (fun W hW => by rw [unhide HQ]; exact rwithout_any W N b M _ X1 X2 t hW)
      go_wp2_with fail
      refine (unhide WA _ ((unhide H).below ?bg)).mono ?_
      case bg => exact ((((below_drewN (unhide BZ) _).setCell (Nat.le_refl _) _).setCell (Nat.le_refl _) _).setCell (Nat.le_refl _) _).setCell (Nat.le_refl _) _
      rintro e w3 ⟨u, rfl, o3, g3⟩
      have bg := Ii.below_set (b := w1.heap.size) (i := 3) (Ii.below_set (b := w1.heap.size) (i := 2) (Ii.below_set (b := w1.heap.size) (i := 1) (Ii.below_set (b := w1.heap.size) (i := 0) (below_drewN (unhide BZ) nq) (Nat.le_refl _) (.int .i64 t.k)) (Nat.le_refl _) (.int .i64 t.v)) (Nat.le_refl _) (.bool t.d)) (Nat.le_refl _) (.int .i64 0)
      have gb := Ii.up (Ii.up (Ii.up (Ii.up (show ((w1.alloc (.cells #[.int .i64 0, .int .i64 0, .bool false, .int .i64 0] 130)).drewN nq).heap[w1.heap.size]? = some (.cells #[.int .i64 0, .int .i64 0, .bool false, .int .i64 0] 130 (0, 0)) from heap_alloc_new w1 _) 0 (.int .i64 t.k)) 1 (.int .i64 t.v)) 2 (.bool t.d)) 3 (.int .i64 0)
      have gb3 : w3.heap[w1.heap.size]? = some (.cells #[.int .i64 t.k, .int .i64 t.v, .bool t.d, .int .i64 0] 130 (0, 0)) := (g3.block w1.heap.size (lt_of_block gb) (by simp)).trans gb
      have hsz3 : w1.heap.size ≤ w3.heap.size := Nat.le_trans bg.size g3.size
      have hgz : w1.heap.size < w3.heap.size := lt_of_block gb3
      have o3N : IOwn w3 N u (X1 ++ X2) := o3.mono (Nat.le_trans hN bg.size)
      have rcg := (unhide H).below bg
      obtain ⟨r5, f5⟩ := RC.put rcg g3 o3N (unhide hxl)
      have hb3 := (rcg.grown g3)
      have e31 := hb3.c1
      have fz3 := hb3.fz
      have o3b : ∀ x, u.ownBlock = some x → w1.heap.size < x := fun x hx => Nat.lt_of_lt_of_le (lt_of_block gb) (o3.row hx).1
      have RG : Hid (RFr N w1 (w3.setCell ⟨b, 1, none⟩ u)) := hide ((RFr.of_below bg).trans f5)
      obtain ⟨ao3, cap3, hv3, _⟩ := o3.form
      obtain ⟨n3, hn3⟩ : ∃ n3, u = .slice ao3 n3 cap3 := ⟨_, hv3⟩
      clear hv3
      subst hn3
      have R5 := hide r5
      have GB3 := hide gb3
      have O3B := hide o3b
      have hbz : ¬ w1.heap.size = b := by omega
      have hbz' : ¬ b = w1.heap.size := by omega
      have BW : Hid (Below w3.heap.size (w3.setCell ⟨b, 1, none⟩ (.slice ao3 n3 cap3)) ((w3.setCell ⟨b, 1, none⟩ (.slice ao3 n3 cap3)).alloc (.cells #[.int .i64 k, .int .i64 v, .bool d, .int .i64 0] 130))) := hide ((Below.refl w3.heap.size _).alloc (by simp) _)
      have NB : Hid (((w3.setCell ⟨b, 1, none⟩ (.slice ao3 n3 cap3)).alloc (.cells #[.int .i64 k, .int .i64 v, .bool d, .int .i64 0] 130)).heap[w3.heap.size]? = some (.cells #[.int .i64 k, .int .i64 v, .bool d, .int .i64 ((0 : Nat) : Int)] 130 (0, 0))) := hide (by
        have e := heap_alloc_new (w3.setCell ⟨b, 1, none⟩ (.slice ao3 n3 cap3)) (.cells #[.int .i64 k, .int .i64 v, .bool d, .int .i64 0] 130)
        have e2 : (w3.setCell ⟨b, 1, none⟩ (.slice ao3 n3 cap3)).heap.size = w3.heap.size := by simp
        rw [e2] at e
        exact e)
      have ZB : Hid (((w3.setCell ⟨b, 1, none⟩ (.slice ao3 n3 cap3)).alloc (.cells #[.int .i64 k, .int .i64 v, .bool d, .int .i64 0] 130)).heap[w1.heap.size]? = some (.cells #[.int .i64 t.k, .int .i64 t.v, .bool t.d, .int .i64 0] 130 (0, 0))) := hide (((unhide BW).block w1.heap.size hgz).trans ((Below.heap_setCell w3 ⟨b, 1, none⟩ _ w1.heap.size hbz).trans gb3))
      have hbl3 : b < w3.heap.size := by omega
      clear o3 g3 gb gb3 bg o3N rcg r5 f5 hb3 o3b
      go_wp2_with (at_builtin; refine wpList_append_items rfl (.tmp 105) (.tmp 110) rfl N _ (X1 ++ X2) [⟨k, v, d, 0⟩] rfl ?p1 ?p2 (unhide hap) ⟨w3.heap.size, 0, none⟩ 1 1 rfl rfl ?p3 ?_)
      case p1 => exact (unhide R5).own.below ((unhide BW).mono (by simp))
      case p2 => simp; omega
      case p3 => exact item_cells ⟨k, v, d, 0⟩ (unhide NB)
      intro v4 w4 o4 g4
      rw [← List.append_assoc X1 X2] at o4
      have r5a : RC ((w3.setCell ⟨b, 1, none⟩ (.slice ao3 n3 cap3)).alloc (.cells #[.int .i64 k, .int .i64 v, .bool d, .int .i64 0] 130)) N b M (.slice ao3 n3 cap3) (X1 ++ X2) := (unhide R5).below ((unhide BW).mono (by simp))
      obtain ⟨r4, f4⟩ := RC.grew r5a ((unhide RG).trans (RFr.of_below ((unhide BW).mono (by simp)))) g4 o4 (unhide hyl)
      have R4 := hide r4
      have F4 := hide f4
      have zb4 : w4.heap[w1.heap.size]? = some (.cells #[.int .i64 t.k, .int .i64 t.v, .bool t.d, .int .i64 0] 130 (0, 0)) := (g4.block w1.heap.size (lt_of_block (unhide ZB)) (fun e => by
        have := unhide O3B _ e.symm
        omega)).trans (unhide ZB)
      have z0 : w4.cell? ⟨w1.heap.size, 0, none⟩ = some (.int .i64 t.k) := (cell_of_row _ _ _ _ _ _ zb4).trans rfl
      have z1 : w4.cell? ⟨w1.heap.size, 1, none⟩ = some (.int .i64 t.v) := (cell_of_row _ _ _ _ _ _ zb4).trans rfl
      have z2 : w4.cell? ⟨w1.heap.size, 2, none⟩ = some (.bool t.d) := (cell_of_row _ _ _ _ _ _ zb4).trans rfl
      have hb4 : w4.heap[b]? = some (.cells #[.int .i64 (M : Int), .slice ao3 n3 cap3] 77 (0, 0)) := (g4.block b (lt_of_block r5a.blk) (fun e => by
        obtain ⟨_, cur, hc⟩ := r5a.own.row e.symm
        have h1 := Option.some.inj (r5a.blk.symm.trans hc)
        injection h1 with _ h2 _
        exact absurd h2 (by decide))).trans r5a.blk
      have d4 : w4.cell? ⟨b, 1, none⟩ = some (.slice ao3 n3 cap3) := (cell_of_row _ _ _ _ _ _ hb4).trans rfl
      have fz4 : ∀ i, w4.frozen? ⟨b, i, none⟩ = false := fun i => by simp [World.frozen?, hb4]
      obtain ⟨ao4, cap4, hv4, _⟩ := o4.form
      obtain ⟨n4, hn4⟩ : ∃ n4, v4 = .slice ao4 n4 cap4 := ⟨_, hv4⟩
      clear hv4
      subst hn4
      clear r4 f4 zb4 hb4 o4 g4 r5a
      go_wp2_with fail
      go_quiet (fail)
      go_wp2
      exact bodyPost_ret (v := .tuple #[.int .i64 t.k, .int .i64 t.v, .bool true, .bool t.d, .int .i64 0]) (by simp [results, Try.results35, go_sem]) rfl ⟨rfl, ⟨_, (unhide R4).drewN _⟩, (unhide F4).drewN _⟩
end Go.Proofs.Ytmhlfbgchhmffaa
