/-
  DERIVED. The document's use.
-/
import Derived.Test.YtmhlfbgchhmffaaCrwith
import Derived.RegionCalls
namespace Go.Proofs.Ytmhlfbgchhmffaa
open Go.RowKit Go.Maps
set_option linter.unusedVariables false

theorem RC.grown {N b M : Nat} {v : Value} {xs : List It} {w w' : World} (h : RC w N b M v xs) (hf : w.grownBy w' none) : RC w' N b M v xs :=
  h.below ⟨hf.os, hf.tape, hf.output, hf.size, fun k hk => hf.block k hk (by simp)⟩
/-- The cells of one item in a block of its own. -/
theorem item_cells {w : World} {g : Nat} (t : It) (h : w.heap[g]? = some (.cells #[.int .i64 t.k, .int .i64 t.v, .bool t.d, .int .i64 (t.p : Int)] 130 (0, 0))) : ∀ j u, (icells [t])[j]? = some u → w.cell? ((⟨g, 0, none⟩ : Addr).add j) = some u := by
  intro j u hj
  rw [addr_add, Nat.zero_add, cell_of_row _ _ _ _ _ _ h, ← hj]
  simp [icells]
/-- The document's cache with another slice. -/
theorem RC.put {N b M : Nat} {v v' : Value} {xs ys : List It} {w w' : World} (h : RC w N b M v xs) (hg : w.grownBy w' none) (ho : IOwn w' N v' ys) (hl : ys.length ≤ 1024) : RC (w'.setCell ⟨b, 1, none⟩ v') N b M v' ys ∧ RFr N w (w'.setCell ⟨b, 1, none⟩ v') := by
  have hb := (h.grown hg).blk
  refine ⟨⟨heap_setCell_same w' b 1 _ _ _ hb, ho.keptB (fun q hq _ => Below.heap_setCell w' ⟨b, 1, none⟩ v' q (fun e => ?_)), h.nb, hl⟩, RFr.set (RFr.of_below ⟨hg.os, hg.tape, hg.output, hg.size, fun k hk => hg.block k hk (by simp)⟩) hb h.nb (by decide) _⟩
  obtain ⟨_, cur, hc⟩ := ho.row hq
  have e' : q = b := e
  rw [e', hb] at hc
  cases hc
theorem RC.fz {N b M : Nat} {v : Value} {xs : List It} {w : World} (h : RC w N b M v xs) (i : Nat) : w.frozen? ⟨b, i, none⟩ = false := by simp [World.frozen?, h.blk]

def UPost (w : World) (N b M : Nat) (ys : List It) (e : Ending) (w' : World) : Prop := e = .returned (.tuple #[]) ∧ (∃ v', RC w' N b M v' ys) ∧ RFr N w w'
set_option maxRecDepth 20000 in
set_option maxHeartbeats 4000000 in
theorem ruse_any (w : World) (N b M : Nat) (v : Value) (X1 X2 : List It) (t : It) (h : RC w N b M v (X1 ++ t :: X2)) (hN : N ≤ w.heap.size) :
    Calls Try.prog 60 #[.pointer (some ⟨b, 0, none⟩), .int .i64 (X1.length : Int)] w (UPost w N b M (X1 ++ X2 ++ [t])) := by
  have c1 := h.c1
  have hbl := lt_of_block h.blk
  have hi0 : X1.length < (X1 ++ t :: X2).length := by simp
  have H := hide h
  obtain ⟨ao, cap, rfl, h1, h2, _⟩ := h.own.form
  obtain ⟨g, rfl, _, ⟨cur, hg⟩, d0, d1, d2, d3⟩ := h.own.at hi0
  have hgl := lt_of_block hg
  have hl := h.len
  have et : (X1 ++ t :: X2)[X1.length] = t := by simp
  rw [et] at d0 d1 d2 d3
  obtain ⟨n, hn⟩ : ∃ n, n = (X1 ++ t :: X2).length := ⟨_, rfl⟩
  obtain ⟨q, hq⟩ : ∃ q, q = X1.length := ⟨_, rfl⟩
  rw [← hn] at c1 h1 hl hi0 H
  rw [← hq] at hi0 d0 d1 d2 d3 ⊢
  have hni : (n : Int) ≤ 1024 := by omega
  have hqi : (q : Int) < (n : Int) := by omega
  have hidx : (0 : Int) ≤ (q : Int) ∧ (q : Int) < (n : Int) := ⟨by omega, hqi⟩
  have HQ := hide hq
  have hylen : Hid ((X1 ++ X2 ++ [t]).length ≤ 1024) := hide (by rw [hn] at hl; simp at hl ⊢; omega)
  have hap : Hid ((X1 ++ X2).length + [t].length ≤ 65536) := hide (by rw [hn] at hl; simp at hl ⊢; omega)
  have WA : Hid (∀ W : World, w.grownBy W none → Calls Try.prog 61 #[.pointer (some ⟨b, 0, none⟩), .int .i64 (q : Int)] W (WPost W (X1 ++ X2))) := hide (fun W hW => by rw [hq]; exact rwithout_any W N b M _ X1 X2 t ((unhide H).grown hW))
  clear hn hq h hg et
  go_enter Try.func60, Try.ntmps60
  go_wp2_with fail
  have gA : Hid (w.grownBy (w.alloc (.cells #[.int .i64 t.k, .int .i64 t.v, .bool t.d, .int .i64 (t.p : Int)] 130)).drew none) := hide (gr_ad _ _)
  have gB : Hid (w.grownBy ((w.alloc (.cells #[.int .i64 t.k, .int .i64 t.v, .bool t.d, .int .i64 (t.p : Int)] 130)).alloc (.cells #[.int .i64 t.k, .int .i64 t.v, .bool t.d, .int .i64 (t.p : Int)] 130)).drew none) := hide ((World.grownBy_alloc w _ none).trans (gr_ad _ _))
  have zA : Hid (w.heap.size < (w.alloc (.cells #[.int .i64 t.k, .int .i64 t.v, .bool t.d, .int .i64 (t.p : Int)] 130)).drew.heap.size) := hide (by simp)
  have bA : Hid ((w.alloc (.cells #[.int .i64 t.k, .int .i64 t.v, .bool t.d, .int .i64 (t.p : Int)] 130)).drew.heap[w.heap.size]? = some (.cells #[.int .i64 t.k, .int .i64 t.v, .bool t.d, .int .i64 (t.p : Int)] 130 (0, 0))) := hide (heap_alloc_new w _)
  have zB : Hid (w.heap.size < ((w.alloc (.cells #[.int .i64 t.k, .int .i64 t.v, .bool t.d, .int .i64 (t.p : Int)] 130)).alloc (.cells #[.int .i64 t.k, .int .i64 t.v, .bool t.d, .int .i64 (t.p : Int)] 130)).drew.heap.size) := hide (by simp; omega)
  have bB : Hid (((w.alloc (.cells #[.int .i64 t.k, .int .i64 t.v, .bool t.d, .int .i64 (t.p : Int)] 130)).alloc (.cells #[.int .i64 t.k, .int .i64 t.v, .bool t.d, .int .i64 (t.p : Int)] 130)).drew.heap[w.heap.size]? = some (.cells #[.int .i64 t.k, .int .i64 t.v, .bool t.d, .int .i64 (t.p : Int)] 130 (0, 0))) := hide ((Below.heap_alloc (w.alloc (.cells #[.int .i64 t.k, .int .i64 t.v, .bool t.d, .int .i64 (t.p : Int)] 130)) _ w.heap.size (by simp)).trans (heap_alloc_new w _))
  have zB2 : Hid (w.heap.size + 1 < ((w.alloc (.cells #[.int .i64 t.k, .int .i64 t.v, .bool t.d, .int .i64 (t.p : Int)] 130)).alloc (.cells #[.int .i64 t.k, .int .i64 t.v, .bool t.d, .int .i64 (t.p : Int)] 130)).drew.heap.size) := hide (by simp)
  have bB2 : Hid (((w.alloc (.cells #[.int .i64 t.k, .int .i64 t.v, .bool t.d, .int .i64 (t.p : Int)] 130)).alloc (.cells #[.int .i64 t.k, .int .i64 t.v, .bool t.d, .int .i64 (t.p : Int)] 130)).drew.heap[w.heap.size + 1]? = some (.cells #[.int .i64 t.k, .int .i64 t.v, .bool t.d, .int .i64 (t.p : Int)] 130 (0, 0))) := hide (by
    rw [show w.heap.size + 1 = (w.alloc (.cells #[.int .i64 t.k, .int .i64 t.v, .bool t.d, .int .i64 (t.p : Int)] 130)).heap.size by simp]
    exact heap_alloc_new _ _)
  go_region_law (first | (refine step_append_items rfl (.tmp 15) (.tmp 17) rfl w.heap.size u (X1 ++ X2) [t] rfl ((unhide O3).keptB (fun q _ hq => Below.heap_alloc w3 _ q hq)) (Nat.le_trans (unhide Z3) (World.grownBy_alloc w3 _ none).size) (unhide hap) ⟨w3.heap.size, 0, none⟩ _ _ rfl rfl (item_cells t (heap_alloc_new w3 _)) ?_; intro v4 w4 o4 g4; have O4 : Hid (IOwn w4 w.heap.size v4 (X1 ++ X2 ++ [t])) := hide o4; have G4 : Hid (w.grownBy w4 none) := hide (((unhide G3).trans (World.grownBy_alloc w3 _ none)).andThen g4 (fun j e => .inl ((unhide O3).row e).1)); have d4 : w4.cell? ⟨b, 1, none⟩ = some (.slice (some ⟨g, 0, none⟩) n cap) := (unhide G4).cell c1 (by simp); have f4 : ∀ i, w4.frozen? ⟨b, i, none⟩ = false := ((unhide H).grown (unhide G4)).fz; obtain ⟨ao4, cap4, hv4, _⟩ := o4.form; obtain ⟨n4, hn4⟩ : ∃ n4, v4 = .slice ao4 n4 cap4 := ⟨_, hv4⟩; clear hv4; subst hn4; clear o4 g4) | (refine step_append_items rfl (.tmp 15) (.tmp 17) rfl w.heap.size u (X1 ++ X2) [t] rfl (unhide O3) (unhide Z3) (unhide hap) ⟨w.heap.size + 1, 0, none⟩ _ _ rfl rfl (item_cells t (unhide X2B)) ?_; intro v4 w4 o4 g4; have O4 : Hid (IOwn w4 w.heap.size v4 (X1 ++ X2 ++ [t])) := hide o4; have G4 : Hid (w.grownBy w4 none) := hide ((unhide G3).andThen g4 (fun j e => .inl ((unhide O3).row e).1)); have d4 : w4.cell? ⟨b, 1, none⟩ = some (.slice (some ⟨g, 0, none⟩) n cap) := (unhide G4).cell c1 (by simp); have f4 : ∀ i, w4.frozen? ⟨b, i, none⟩ = false := ((unhide H).grown (unhide G4)).fz; obtain ⟨ao4, cap4, hv4, _⟩ := o4.form; obtain ⟨n4, hn4⟩ : ∃ n4, v4 = .slice ao4 n4 cap4 := ⟨_, hv4⟩; clear hv4; subst hn4; clear o4 g4) | (go_simp; go_wp2_with (go_at_call 61; refine (unhide WA _ (by first | exact unhide gA | exact unhide gB)).mono ?_; rintro e w3 ⟨u, rfl, o3, g3⟩; have G3 : Hid (w.grownBy w3 none) := hide (by first | exact (unhide gA).trans g3 | exact (unhide gB).trans g3); have O3 : Hid (IOwn w3 w.heap.size u (X1 ++ X2)) := hide (by first | exact o3.mono (unhide gA).size | exact o3.mono (unhide gB).size); have XB : Hid (w3.heap[w.heap.size]? = some (.cells #[.int .i64 t.k, .int .i64 t.v, .bool t.d, .int .i64 (t.p : Int)] 130 (0, 0))) := hide (by first | exact (g3.block _ (unhide zA) (by simp)).trans (unhide bA) | exact (g3.block _ (unhide zB) (by simp)).trans (unhide bB)); (first | (have X2B : Hid (w3.heap[w.heap.size + 1]? = some (.cells #[.int .i64 t.k, .int .i64 t.v, .bool t.d, .int .i64 (t.p : Int)] 130 (0, 0))) := hide ((g3.block _ (unhide zB2) (by simp)).trans (unhide bB2))) | skip); have y0 : w3.cell? ⟨w.heap.size, 0, none⟩ = some (.int .i64 t.k) := (cell_of_row _ _ _ _ _ _ (unhide XB)).trans rfl; have y1 : w3.cell? ⟨w.heap.size, 1, none⟩ = some (.int .i64 t.v) := (cell_of_row _ _ _ _ _ _ (unhide XB)).trans rfl; have y2 : w3.cell? ⟨w.heap.size, 2, none⟩ = some (.bool t.d) := (cell_of_row _ _ _ _ _ _ (unhide XB)).trans rfl; have y3 : w3.cell? ⟨w.heap.size, 3, none⟩ = some (.int .i64 (t.p : Int)) := (cell_of_row _ _ _ _ _ _ (unhide XB)).trans rfl; have Z3 : Hid (w.heap.size ≤ w3.heap.size) := hide (unhide G3).size; clear o3 g3)))
  all_goals go_wp2
  all_goals go_end0
  all_goals rw [← List.append_assoc X1 X2 [t]]
  all_goals exact ⟨rfl, ⟨_, (RC.put (unhide H) (unhide G4) ((unhide O4).mono hN) (unhide hylen)).1⟩, (RC.put (unhide H) (unhide G4) ((unhide O4).mono hN) (unhide hylen)).2⟩

def GPost (w : World) (N b M : Nat) (r : Value) (ys : List It) (e : Ending) (w' : World) : Prop := e = .returned r ∧ (∃ v', RC w' N b M v' ys) ∧ RFr N w w'
theorem rGet_none (w : World) (N b M : Nat) (v : Value) (xs : List It) (k : Int) (h : RC w N b M v xs) (hk : ∀ x ∈ xs, x.k ≠ k) :
    Calls Try.prog 34 #[.pointer (some ⟨b, 0, none⟩), .int .i64 k] w (GPost w N b M (.tuple #[.int .i64 0, .bool false]) xs) := by
  have H := hide h
  have HK := hide hk
  clear h hk
  go_enter Try.func34, Try.ntmps34
  go_wp2_with fail
  refine (rFind_none w N b M v xs k (unhide H) (unhide HK)).mono ?_
  rintro e w1 ⟨rfl, rfl⟩
  go_wp2
  go_ret2
  exact ⟨rfl, ⟨v, unhide H⟩, RFr.refl _ _⟩
set_option maxHeartbeats 1000000 in
theorem rGet_some (w : World) (N b M : Nat) (v : Value) (X1 X2 : List It) (t : It) (h : RC w N b M v (X1 ++ t :: X2)) (hk : ∀ x ∈ X1, x.k ≠ t.k) (hN : N ≤ w.heap.size) :
    Calls Try.prog 34 #[.pointer (some ⟨b, 0, none⟩), .int .i64 t.k] w (GPost w N b M (.tuple #[.int .i64 t.v, .bool true]) (X1 ++ X2 ++ [t])) := by
  have c1 := h.c1
  have H := hide h
  have HK := hide hk
  have hi0 : X1.length < (X1 ++ t :: X2).length := by simp
  obtain ⟨ao, cap, rfl, h1, h2, _⟩ := h.own.form
  obtain ⟨g, rfl, _, ⟨cur, hg⟩, d0, d1, d2, d3⟩ := h.own.at hi0
  have hl := h.len
  have et : (X1 ++ t :: X2)[X1.length] = t := by simp
  rw [et] at d1
  obtain ⟨n, hn⟩ : ∃ n, n = (X1 ++ t :: X2).length := ⟨_, rfl⟩
  obtain ⟨q, hq⟩ : ∃ q, q = X1.length := ⟨_, rfl⟩
  rw [← hn] at c1 h1 hl hi0 H
  rw [← hq] at hi0 d1
  have hidx : (0 : Int) ≤ (q : Int) ∧ (q : Int) < (n : Int) := ⟨by omega, by omega⟩
  have FA := hide (rFind_some w N b M _ X1 X2 t (unhide H) (unhide HK))
  have UA := hide (ruse_any w N b M _ X1 X2 t (unhide H) hN)
  rw [← hq] at FA UA
  clear hn hq h hk hg et d0 d2 d3
  go_enter Try.func34, Try.ntmps34
  go_wp2_with fail
  refine (unhide FA).mono ?_
  rintro e w1 ⟨rfl, rfl⟩
  go_wp2_with fail
  refine (unhide UA).mono ?_
  rintro e w2 ⟨rfl, ⟨v2, h2⟩, f2⟩
  have H2 := hide h2
  have F2 := hide f2
  clear h2 f2
  go_wp2
  go_ret2
  exact ⟨rfl, ⟨v2, unhide H2⟩, unhide F2⟩
end Go.Proofs.Ytmhlfbgchhmffaa
