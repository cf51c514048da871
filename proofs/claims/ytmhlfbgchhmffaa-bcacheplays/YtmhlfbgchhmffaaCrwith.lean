/-
  DERIVED. The document's without and use.
-/
import Derived.Test.YtmhlfbgchhmffaaCrmem
import Derived.Deep.RegionLaw
import Derived.Maps.Range
import Derived.Maps.RangeWalk
namespace Go.Proofs.Ytmhlfbgchhmffaa
open Go.RowKit Go.Maps
set_option linter.unusedVariables false

theorem gr_ad (w : World) (o : Obj) : w.grownBy (w.alloc o).drew none := ⟨rfl, rfl, rfl, by simp, fun k hk _ => Below.heap_alloc w o k hk⟩
theorem run_append_items (w : World) (base : Nat) (ty : TypeId) (v : Value) (xs ys : List It) (hown : IOwn w base v xs) (hb : base ≤ w.heap.size) (hl : xs.length + ys.length ≤ 65536) (ad : Addr) (c : Nat)
    (hc : ∀ j u, (icells ys)[j]? = some u → w.cell? (ad.add j) = some u) :
    ∃ v' w', (Builtin.append_ #[75, 75] ty #[v, .slice (some ad) ys.length c]).run Try.prog w = .ok v' w' ∧ IOwn w' base v' (xs ++ ys) ∧ w.grownBy w' v.ownBlock := by
  obtain ⟨i0, hi, hz0, hz1, hz2⟩ := info_parts Try.infoItem
  obtain ⟨v', w', hr, r1, r2, _⟩ := run_append_own (P := Try.prog) w base 75 ty 130 i0 (.agg #[.int .i64 0, .int .i64 0, .bool false, .int .i64 0]) 4 32 Try.underlying75 hi hz0 hz1 hz2 rfl (by decide) v xs.length (icells xs) hown ad ys.length c (icells ys) (icells_len ys) hc (icells_one ys) (by unfold maxLen; omega) (by omega) hb
  exact ⟨v', w', hr, by unfold IOwn; rw [icells_append, List.length_append]; exact r1, r2⟩
theorem step_append_items {ops : Array Oper} {o : Oper} {a : Act} {w : World} {K : Act → World → Prop} {Q : Exit → Act → World → Prop} {E : Prop}
    (hg : o.guard = none) (s x : Operand) (ho : o.op = .call { callee := .builtin .append, args := #[s, x], argTypes := #[75, 75] })
    (base : Nat) (v : Value) (xs ys : List It) (hs : a.eval s = v) (hown : IOwn w base v xs) (hb : base ≤ w.heap.size) (hl : xs.length + ys.length ≤ 65536)
    (ad : Addr) (n c : Nat) (hx : a.eval x = .slice (some ad) n c) (hn : n = ys.length) (hc : ∀ j u, (icells ys)[j]? = some u → w.cell? (ad.add j) = some u)
    (hK : ∀ v' w', IOwn w' base v' (xs ++ ys) → w.grownBy w' v.ownBlock → K (a.put o.dst v') w') :
    if Region.wanted o (yielded ops a.tmps) = true then Oper.wp Try.prog o a w K Q else E := by
  have hw : Region.wanted o (yielded ops a.tmps) = true := by simp [Region.wanted, hg]
  rw [if_pos hw]
  subst hn
  obtain ⟨v', w', hrun, r1, r2⟩ := run_append_items w base o.type v xs ys hown hb hl ad c hc
  unfold Oper.wp
  simp [execOp, ho, resolve, invoke, builtin, hs, hx, hrun, Result.andThen]
  exact hK v' w' r1 r2
theorem iown_empty (w : World) : IOwn (w.alloc (.cells #[] 130)) w.heap.size (.slice (some ⟨w.heap.size, 0, none⟩) 0 0) [] :=
  ⟨rfl, .inr ⟨w.heap.size, 0, #[], rfl, Nat.le_refl _, heap_alloc_new _ _, by simp, by unfold maxLen; omega, by simp, by simp [icells]⟩⟩
theorem iown_empty_d (w : World) : IOwn (w.alloc (.cells #[] 130)).drew w.heap.size (.slice (some ⟨w.heap.size, 0, none⟩) 0 0) [] := (iown_empty w).keptB (fun _ _ _ => rfl)
theorem le_ad (w : World) (o : Obj) : w.heap.size ≤ (w.alloc o).drew.heap.size := (gr_ad w o).size
theorem icells_left (X1 X2 : List It) (j : Nat) (u : Value) (h : (icells X1)[j]? = some u) : (icells (X1 ++ X2))[j]? = some u := by
  rw [icells_append, List.getElem?_append_left (List.getElem?_eq_some_iff.1 h).1]
  exact h
theorem icells_right (X1 X2 : List It) (j : Nat) (u : Value) (h : (icells X2)[j]? = some u) : (icells (X1 ++ X2))[X1.length * 4 + j]? = some u := by
  rw [icells_append, List.getElem?_append_right (by rw [icells_len]; omega), icells_len, Nat.add_sub_cancel_left]
  exact h

def WPost (w : World) (ys : List It) (e : Ending) (w' : World) : Prop := ∃ u, e = .returned u ∧ IOwn w' w.heap.size u ys ∧ w.grownBy w' none
set_option maxRecDepth 20000 in
set_option maxHeartbeats 4000000 in
theorem rwithout_any (w : World) (N b M : Nat) (v : Value) (X1 X2 : List It) (t : It) (h : RC w N b M v (X1 ++ t :: X2)) :
    Calls Try.prog 61 #[.pointer (some ⟨b, 0, none⟩), .int .i64 (X1.length : Int)] w (WPost w (X1 ++ X2)) := by
  have c1 := h.c1
  have hbl := lt_of_block h.blk
  have hi0 : X1.length < (X1 ++ t :: X2).length := by simp
  obtain ⟨ao, cap, rfl, h1, h2, _⟩ := h.own.form
  obtain ⟨g, rfl, _, ⟨cur, hg⟩, _⟩ := h.own.at hi0
  have hgl := lt_of_block hg
  have HO := hide h.own
  have hl := h.len
  obtain ⟨n, hn⟩ : ∃ n, n = (X1 ++ t :: X2).length := ⟨_, rfl⟩
  obtain ⟨q, hq⟩ : ∃ q, q = X1.length := ⟨_, rfl⟩
  rw [← hn] at c1 h1 hl HO hi0
  rw [← hq] at hi0 ⊢
  have hni : (n : Int) ≤ 1024 := by omega
  have hqi : (q : Int) < (n : Int) := by omega
  have hci : (n : Int) ≤ (cap : Int) := by omega
  have HN := hide hn
  have HQ := hide hq
  have hm : Hid (X2.length = n - q - 1) := hide (by rw [hn, hq]; simp)
  have hx2 : Hid (X1.length + X2.length ≤ 65536) := hide (by rw [← hq, unhide hm]; omega)
  have c1' : ∀ o, (w.alloc o).cell? ⟨b, 1, none⟩ = some (.slice (some ⟨g, 0, none⟩) n cap) := fun o => (((Below.refl w.heap.size w).alloc (Nat.le_refl _) o).cell (p := ⟨b, 1, none⟩) hbl).trans c1
  have cell1 : Hid (∀ (W : World), w.grownBy W none → ∀ j u, (icells X1)[j]? = some u → W.cell? ((⟨g, 0, none⟩ : Addr).add j) = some u) := hide (fun W hW j u hj => by
    rw [addr_add, Nat.zero_add]
    exact hW.cell ((unhide HO).cells j u (icells_left X1 _ j u hj)) (by simp))
  have cell2 : Hid (∀ (W : World), w.grownBy W none → ∀ j u, (icells X2)[j]? = some u → W.cell? ((⟨g, (q + 1) * 4, none⟩ : Addr).add j) = some u) := hide (fun W hW j u hj => by
    rw [addr_add]
    have e : X1 ++ t :: X2 = (X1 ++ [t]) ++ X2 := by simp
    have h3 := icells_right (X1 ++ [t]) X2 j u hj
    rw [← e] at h3
    have e2 : (X1 ++ [t]).length * 4 + j = (q + 1) * 4 + j := by rw [unhide HQ]; simp
    rw [e2] at h3
    exact hW.cell ((unhide HO).cells _ u h3) (by simp))
  obtain ⟨q1, hq1⟩ : ∃ q1, q1 = q + 1 := ⟨_, rfl⟩
  rw [← hq1] at cell2
  have hw : IntKind.i64.wrap ((q : Int) + 1) = (q1 : Int) := by rw [IntKind.wrap_i64]; omega
  have hqc : q ≤ cap := by omega
  have hq1c : q1 ≤ cap := by omega
  have hq1n : q1 ≤ n := by omega
  have hm2 : Hid (n - q1 = X2.length) := hide (by rw [unhide hm]; omega)
  have hl1 : Hid (([] : List It).length + X1.length ≤ 65536) := hide (by have := unhide hx2; simp; omega)
  clear hn hq h hg hq1
  by_cases hcap : cap = q1
  · subst hcap
    have hm0 : Hid (0 = X2.length) := hide (by rw [← unhide hm2]; omega)
    have hX3 : Hid (∀ (j : Nat) (u : Value), ¬ (icells X2)[j]? = some u) := hide (fun j u hj => by
      rw [List.eq_nil_of_length_eq_zero (l := X2) (by rw [← unhide hm2]; omega)] at hj
      simp [icells] at hj)
    go_enter Try.func61, Try.ntmps61
    go_wp2_with fail
    go_region_law (first | (refine step_append_items rfl (.tmp 5) (.tmp 11) rfl w.heap.size (.slice (some ⟨w.heap.size, 0, none⟩) 0 0) [] X1 rfl (iown_empty_d w) (le_ad w _) (unhide hl1) ⟨g, 0, none⟩ _ _ rfl (unhide HQ) (unhide cell1 _ (gr_ad _ _)) ?_; intro v3 w3 o3 g3; have O3 : Hid (IOwn w3 w.heap.size v3 X1) := hide (by simpa using o3); have G3 : Hid (w.grownBy w3 none) := hide ((gr_ad _ _).andThen g3 (fun j e => by cases e; exact .inl (Nat.le_refl _))); have d1 : w3.cell? ⟨b, 1, none⟩ = some (.slice (some ⟨g, 0, none⟩) n cap) := (unhide G3).cell c1 (by simp); have Z3 : Hid (w.heap.size ≤ w3.heap.size) := hide (unhide G3).size; clear o3 g3) | (refine step_append_items rfl (.tmp 12) (.tmp 19) rfl w.heap.size v3 X1 X2 rfl (unhide O3) (unhide Z3) (unhide hx2) ⟨g, 0, none⟩ _ _ rfl (by first | exact unhide hm2 | exact unhide hm0) (fun j u hj => absurd hj (unhide hX3 j u)) ?_; intro v4 w4 o4 g4; have O4 : Hid (IOwn w4 w.heap.size v4 (X1 ++ X2)) := hide o4; have G4 : Hid (w.grownBy w4 none) := hide ((unhide G3).andThen g4 (fun j e => .inl ((unhide O3).row e).1)); clear o4 g4))
    all_goals go_wp2
    all_goals go_ret
    all_goals exact ⟨_, rfl, unhide O4, unhide G4⟩
  · skip
    go_enter Try.func61, Try.ntmps61
    go_wp2_with fail
    go_region_law (first | (refine step_append_items rfl (.tmp 5) (.tmp 11) rfl w.heap.size (.slice (some ⟨w.heap.size, 0, none⟩) 0 0) [] X1 rfl (iown_empty_d w) (le_ad w _) (unhide hl1) ⟨g, 0, none⟩ _ _ rfl (unhide HQ) (unhide cell1 _ (gr_ad _ _)) ?_; intro v3 w3 o3 g3; have O3 : Hid (IOwn w3 w.heap.size v3 X1) := hide (by simpa using o3); have G3 : Hid (w.grownBy w3 none) := hide ((gr_ad _ _).andThen g3 (fun j e => by cases e; exact .inl (Nat.le_refl _))); have d1 : w3.cell? ⟨b, 1, none⟩ = some (.slice (some ⟨g, 0, none⟩) n cap) := (unhide G3).cell c1 (by simp); have Z3 : Hid (w.heap.size ≤ w3.heap.size) := hide (unhide G3).size; clear o3 g3) | (refine step_append_items rfl (.tmp 12) (.tmp 19) rfl w.heap.size v3 X1 X2 rfl (unhide O3) (unhide Z3) (unhide hx2) ⟨g, q1 * 4, none⟩ _ _ rfl (unhide hm2) (unhide cell2 _ (unhide G3)) ?_; intro v4 w4 o4 g4; have O4 : Hid (IOwn w4 w.heap.size v4 (X1 ++ X2)) := hide o4; have G4 : Hid (w.grownBy w4 none) := hide ((unhide G3).andThen g4 (fun j e => .inl ((unhide O3).row e).1)); clear o4 g4))
    all_goals go_wp2
    all_goals go_ret
    all_goals exact ⟨_, rfl, unhide O4, unhide G4⟩
end Go.Proofs.Ytmhlfbgchhmffaa
