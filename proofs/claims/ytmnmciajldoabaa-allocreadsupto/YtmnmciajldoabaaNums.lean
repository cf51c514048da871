/-
  DERIVED. Slices of numbers: of one's own, as they are read; appends.
-/
import Derived.Test.YtmnmciajldoabaaBase
import Derived.Maps.AppendAt
import Derived.Maps.Range
namespace Go.Proofs.Ytmnmciajldoabaa
open Go.RowKit
set_option linter.unusedVariables false

theorem Try.infoInt : (Try.prog.info? 3).map (fun i => (i.zero, i.size, i.bytes)) = some (some (.int .i64 0), 1, 8) := by kernel_rfl
abbrev nv (n : Nat) : Value := .int .i64 (n : Int)
/-- A slice of numbers of one's own. -/
def NOwn (w : World) (base : Nat) (v : Value) (L : List Nat) : Prop := w.ownsRow base 3 1 v L.length (L.map nv)
theorem NOwn.nil (w : World) (base : Nat) : NOwn w base (.slice none 0 0) [] := World.ownsRow_nil w _ _ _
theorem NOwn.kept {W W' : World} {base : Nat} {v : Value} {xs : List Nat} {row : Option Nat} (h : NOwn W base v xs) (hg : W.grownBy W' row) (hne : ∀ q, v.ownBlock = some q → some q ≠ row) : NOwn W' base v xs := by
  obtain ⟨h1, h2⟩ := h
  refine ⟨h1, ?_⟩
  rcases h2 with h2 | ⟨g, cap, cur, rfl, hb, hgb, r⟩
  · exact .inl h2
  · exact .inr ⟨g, cap, cur, rfl, hb, (hg.block g (lt_of_block hgb) (hne g rfl)).trans hgb, r⟩
theorem NOwn.grown {W W' : World} {base : Nat} {v : Value} {xs : List Nat} (h : NOwn W base v xs) (hg : W.grownBy W' none) : NOwn W' base v xs := h.kept hg (fun q _ e => by cases e)
theorem NOwn.row {W : World} {base : Nat} {v : Value} {xs : List Nat} (h : NOwn W base v xs) {q : Nat} (hq : v.ownBlock = some q) : base ≤ q ∧ ∃ cur, W.heap[q]? = some (.cells cur 3 (0, 0)) := by
  rcases h.2 with ⟨rfl, _⟩ | ⟨g, cap, cur, rfl, hb, hg, r⟩
  · cases hq
  · cases hq; exact ⟨hb, cur, hg⟩
theorem NOwn.ne {W : World} {base : Nat} {v : Value} {xs : List Nat} (h : NOwn W base v xs) {q j : Nat} {C : Array Value} {t : TypeId} {fr : Nat × Nat} (hq : v.ownBlock = some q) (hj : W.heap[j]? = some (.cells C t fr)) (ht : t ≠ 3) : q ≠ j := by
  rintro rfl
  obtain ⟨_, cur, hc⟩ := h.row hq
  rw [hc] at hj
  cases hj
  exact ht rfl
theorem NOwn.form {w : World} {base : Nat} {v : Value} {xs : List Nat} (h : NOwn w base v xs) : ∃ ao cap, v = .slice ao xs.length cap ∧ xs.length ≤ cap ∧ cap ≤ 9223372036854775807 ∧ (xs.length ≠ 0 → ∃ g, ao = some ⟨g, 0, none⟩ ∧ g < w.heap.size ∧ ∀ i, (h : i < xs.length) → w.cell? ⟨g, i, none⟩ = some (.int .i64 (xs[i] : Int))) := by
  rcases h.2 with ⟨rfl, h0⟩ | ⟨g, cap, cur, rfl, hb, hg, hn, hm, hs, ht⟩
  · exact ⟨none, 0, by rw [h0], by omega, by omega, fun h => absurd h0 h⟩
  · refine ⟨some ⟨g, 0, none⟩, cap, rfl, hn, by unfold maxLen at hm; omega, fun _ => ⟨g, rfl, lt_of_block hg, fun i hi => ?_⟩⟩
    have e : (cur.toList.take (xs.length * 1))[i]? = (xs.map nv)[i]? := by rw [ht]
    rw [List.getElem?_take_of_lt (by omega)] at e
    rw [cell_of_row _ _ _ _ _ _ hg]
    simpa [hi] using e
theorem wpList_append_int {ops : Array Oper} {rest : List Oper} {o : Oper} {a : Act} {w : World} {Q : Exit → Act → World → Prop} (hgd : o.guard = none) (s x : Operand)
    (hop : o.op = Op.call { callee := Callee.builtin Builtin.append, args := #[s, x], argTypes := #[60, 60] }) (base : Nat) (v : Value) (xs : List Nat) (hs : a.eval s = v) (hown : NOwn w base v xs) (hb : base ≤ w.heap.size) (hl : xs.length ≤ 65536) (ad : Addr) (c : Nat) (y : Nat)
    (hx : a.eval x = .slice (some ad) 1 c) (hc : w.cell? ad = some (.int .i64 (y : Int)))
    (hK : ∀ v' w', NOwn w' base v' (xs ++ [y]) → w.grownBy w' v.ownBlock → wpList Try.prog ops Q rest (a.put o.dst v') w') :
    wpList Try.prog ops Q (o :: rest) a w := by
  obtain ⟨i0, hi, hz0, hz1, hz2⟩ := info_parts Try.infoInt
  refine wpList_append_own w hgd s x 60 hop base 3 i0 (.int .i64 0) 1 8 Try.underlying60 hi hz0 hz1 hz2 rfl (by decide) v xs.length (xs.map nv) hs hown ad 1 c [nv y] hx rfl ?_ ?_ (by unfold maxLen; omega) (by omega) hb ?_
  · intro j u hj
    match j with
    | 0 =>
      simp at hj
      subst hj
      simpa [Addr.add] using hc
    | j + 1 => simp at hj
  · intro u hu
    simp at hu
    subst hu
    rfl
  intro v' w' ho' hgr _
  refine hK v' w' ?_ hgr
  unfold NOwn
  rw [List.map_append, List.length_append]
  exact ho'

/-- A slice that reads as these numbers. -/
def Nr (w : World) (v : Value) (l : List Nat) : Prop :=
  ∃ ao cap, v = .slice ao l.length cap ∧ l.length ≤ cap ∧ cap ≤ 9223372036854775807 ∧ (l.length ≠ 0 → ∃ g off, ao = some ⟨g, off, none⟩ ∧ g < w.heap.size ∧ ∀ i, (h : i < l.length) → w.cell? ⟨g, off + i, none⟩ = some (.int .i64 (l[i] : Int)))
theorem Nr.kept {w w' : World} {v : Value} {l : List Nat} (h : Nr w v l) (hg : w.grownBy w' none) : Nr w' v l := by
  obtain ⟨ao, cap, e, h1, h2, h4⟩ := h
  refine ⟨ao, cap, e, h1, h2, fun hl => ?_⟩
  obtain ⟨g, off, e2, hb, hc⟩ := h4 hl
  exact ⟨g, off, e2, by have := hg.size; omega, fun i hi => hg.cell (hc i hi) (by simp)⟩
theorem NOwn.nr {w : World} {base : Nat} {v : Value} {xs : List Nat} (h : NOwn w base v xs) : Nr w v xs := by
  obtain ⟨ao, cap, e, h1, h2, h4⟩ := h.form
  refine ⟨ao, cap, e, h1, h2, fun hl => ?_⟩
  obtain ⟨g, e2, hb, hc⟩ := h4 hl
  exact ⟨g, 0, e2, hb, fun i hi => by rw [Nat.zero_add]; exact hc i hi⟩

/-- A piece of a slice of numbers of one's own. -/
theorem NOwn.piece {w : World} {base : Nat} {lo : Option Addr} {q cap : Nat} {L : List Nat} (h : NOwn w base (.slice lo q cap) L) (a z : Nat) (haz : a ≤ z) (hz : z ≤ L.length) :
    Nr w (.slice (lo.map fun x => x.add a) (z - a) (cap - a)) ((L.take z).drop a) := by
  obtain ⟨ao, cap', e, h1, h2, h4⟩ := h.form
  injection e with e1 e2 e3
  subst e1 e3
  have hl : ((L.take z).drop a).length = z - a := by rw [List.length_drop, List.length_take]; omega
  refine ⟨_, cap - a, by rw [hl], by rw [hl]; omega, by omega, fun hne => ?_⟩
  rw [hl] at hne
  obtain ⟨g, rfl, hg, hc⟩ := h4 (by omega)
  refine ⟨g, a, by simp [addr_add], hg, fun i hi => ?_⟩
  rw [hl] at hi
  rw [hc (a + i) (by omega)]
  simp

theorem Nr.empty (w : World) (A : Option Addr) (C : Nat) (hC : C ≤ 9223372036854775807) : Nr w (.slice A 0 C) [] := ⟨A, C, rfl, by simp, hC, fun h => absurd rfl h⟩
theorem NOwn.pieces {w : World} {base : Nat} {lo : Option Addr} {q cap : Nat} {L : List Nat} (h : NOwn w base (.slice lo q cap) L) (hq : q = L.length) (a z N C : Nat) (A : Option Addr) (haz : a ≤ z) (hz : z ≤ q) (hqc : q ≤ cap) (hN : N = z - a)
    (hA : (A = lo.map (fun x => x.add a) ∧ C = cap - a) ∨ (a = 0 ∧ A = lo ∧ C = cap) ∨ (cap = a ∧ C ≤ 9223372036854775807)) : Nr w (.slice A N C) ((L.take z).drop a) := by
  subst hN
  rcases hA with ⟨rfl, rfl⟩ | ⟨rfl, rfl, rfl⟩ | ⟨h1, h2⟩
  · exact h.piece a z haz (by omega)
  · have := h.piece 0 z haz (by omega)
    cases A with
    | none => simpa using this
    | some ad => simpa [Addr.add] using this
  · have e : (L.take z).drop a = [] := List.drop_eq_nil_of_le (by rw [List.length_take]; omega)
    rw [e, show z - a = 0 by omega]
    exact Nr.empty w A C h2


/-- An append of numbers to a slice of one's own, of whatever many: none, too. -/
theorem wpList_append_nums {w : World} {ops : Array Oper} {rest : List Oper} {o : Oper} {a : Act} {Q : Exit → Act → World → Prop} (hgd : o.guard = none) (s x : Operand)
    (ho : o.op = .call { callee := .builtin .append, args := #[s, x], argTypes := #[60, 60] })
    (base : Nat) (v : Value) (l : List Nat) (hs : a.eval s = v) (hown : NOwn w base v l)
    (y : Value) (m : List Nat) (hx : a.eval x = y) (hy : Nr w y m) (hne : ∀ c, y = .slice none 0 c → c = 0) (hlen : l.length + m.length ≤ 65536) (hbase : base ≤ w.heap.size)
    (h : ∀ v' w', NOwn w' base v' (l ++ m) → w.grownBy w' v.ownBlock → wpList Try.prog ops Q rest (a.put o.dst v') w') : wpList Try.prog ops Q (o :: rest) a w := by
  obtain ⟨i0, hi, hz0, hz1, hz2⟩ := info_parts Try.infoInt
  obtain ⟨ao, cap, rfl, h1, h2, h4⟩ := hy
  cases ao with
  | none =>
    have hm0 : m = [] := by
      cases m with
      | nil => rfl
      | cons x r => obtain ⟨_, _, e, _⟩ := h4 (by simp); cases e
    subst hm0
    obtain rfl : cap = 0 := hne cap rfl
    refine wpList_append_own_none hgd s x 60 ho base 3 i0 1 Try.underlying60 hi v l.length (l.map nv) hs hown hx ?_
    exact h v w (by simpa using hown) (World.grownBy.refl _ _)
  | some ad =>
    refine wpList_append_own w hgd s x 60 ho base 3 i0 (.int .i64 0) 1 8 Try.underlying60 hi hz0 hz1 hz2 rfl (by decide) v l.length (l.map nv) hs hown ad m.length cap (m.map nv) hx (by simp) ?_ ?_ (by unfold maxLen; omega) (by omega) hbase ?_
    · intro j u hj
      rw [List.getElem?_map] at hj
      by_cases hjl : j < m.length
      · obtain ⟨g, off, e, _, hc⟩ := h4 (by omega)
        cases e
        rw [List.getElem?_eq_getElem hjl] at hj
        simp only [Option.map_some, Option.some.injEq] at hj
        subst hj
        rw [addr_add]
        exact hc j hjl
      · rw [List.getElem?_eq_none (by omega)] at hj
        cases hj
    · intro u hu
      obtain ⟨z, _, rfl⟩ := List.mem_map.1 hu
      rfl
    · intro v' w' ho' hgr _
      refine h v' w' ?_ hgr
      unfold NOwn
      rw [List.map_append, List.length_append]
      exact ho'
theorem nown_empty (w : World) : NOwn (w.alloc (.cells #[] 3)) w.heap.size (.slice (some ⟨w.heap.size, 0, none⟩) 0 0) [] := ⟨rfl, .inr ⟨w.heap.size, 0, #[], rfl, Nat.le_refl _, heap_alloc_new _ _, by simp, by unfold maxLen; omega, by simp, by simp⟩⟩
end Go.Proofs.Ytmnmciajldoabaa
