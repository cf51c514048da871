/-
  DERIVED. Slices of ints of one's own.
-/
import Derived.Test.YtmhlfbgchhmffaaCmem
namespace Go.Proofs.Ytmhlfbgchhmffaa
open Go.RowKit Go.Maps
set_option linter.unusedVariables false

theorem Try.infoInt : (Try.prog.info? 3).map (fun i => (i.zero, i.size, i.bytes)) = some (some (.int .i64 0), 1, 8) := by kernel_rfl
abbrev zv (n : Int) : Value := .int .i64 n
def ZOwn (w : World) (base : Nat) (v : Value) (L : List Int) : Prop := w.ownsRow base 3 1 v L.length (L.map zv)
theorem ZOwn.nil (w : World) (base : Nat) : ZOwn w base (.slice none 0 0) [] := World.ownsRow_nil w _ _ _
theorem ZOwn.kept {W W' : World} {base : Nat} {v : Value} {xs : List Int} (h : ZOwn W base v xs) (hg : ∀ q C fr, W.heap[q]? = some (.cells C 3 fr) → base ≤ q → W'.heap[q]? = W.heap[q]?) : ZOwn W' base v xs := by
  obtain ⟨h1, h2⟩ := h
  refine ⟨h1, ?_⟩
  rcases h2 with h2 | ⟨g, cap, cur, rfl, hb, hgb, r⟩
  · exact .inl h2
  · exact .inr ⟨g, cap, cur, rfl, hb, (hg g _ _ hgb hb).trans hgb, r⟩
theorem ZOwn.keptB {W W' : World} {base : Nat} {v : Value} {xs : List Int} (h : ZOwn W base v xs) (hg : ∀ q, v.ownBlock = some q → q < W.heap.size → W'.heap[q]? = W.heap[q]?) : ZOwn W' base v xs := by
  obtain ⟨h1, h2⟩ := h
  refine ⟨h1, ?_⟩
  rcases h2 with h2 | ⟨g, cap, cur, rfl, hb, hgb, r⟩
  · exact .inl h2
  · exact .inr ⟨g, cap, cur, rfl, hb, (hg g rfl (lt_of_block hgb)).trans hgb, r⟩
theorem ZOwn.below {W W' : World} {base : Nat} {v : Value} {xs : List Int} (h : ZOwn W base v xs) (hg : Below W.heap.size W W') : ZOwn W' base v xs := h.kept (fun q C fr hq _ => hg.block q (lt_of_block hq))
theorem ZOwn.mono {w : World} {base b2 : Nat} {v : Value} {xs : List Int} (h : ZOwn w base v xs) (hb : b2 ≤ base) : ZOwn w b2 v xs := by
  obtain ⟨h1, h2⟩ := h
  refine ⟨h1, ?_⟩
  rcases h2 with h | ⟨g, cap, cur, a, b, c⟩
  · exact .inl h
  · exact .inr ⟨g, cap, cur, a, by omega, c⟩
theorem ZOwn.row {W : World} {base : Nat} {v : Value} {xs : List Int} (h : ZOwn W base v xs) {q : Nat} (hq : v.ownBlock = some q) : base ≤ q ∧ ∃ cur, W.heap[q]? = some (.cells cur 3 (0, 0)) := by
  rcases h.2 with ⟨rfl, _⟩ | ⟨g, cap, cur, rfl, hb, hg, r⟩
  · cases hq
  · cases hq; exact ⟨hb, cur, hg⟩
theorem ZOwn.form {w : World} {base : Nat} {v : Value} {xs : List Int} (h : ZOwn w base v xs) : ∃ ao cap, v = .slice ao xs.length cap ∧ xs.length ≤ cap ∧ cap ≤ 9223372036854775807 ∧ (xs.length ≠ 0 → ∃ g, ao = some ⟨g, 0, none⟩ ∧ base ≤ g ∧ (∃ cur, w.heap[g]? = some (.cells cur 3 (0, 0))) ∧ ∀ i, (h : i < xs.length) → w.cell? ⟨g, i, none⟩ = some (.int .i64 xs[i])) := by
  rcases h.2 with ⟨rfl, h0⟩ | ⟨g, cap, cur, rfl, hb, hg, hn, hm, hs, ht⟩
  · exact ⟨none, 0, by rw [h0], by omega, by omega, fun h => absurd h0 h⟩
  · refine ⟨some ⟨g, 0, none⟩, cap, rfl, hn, by unfold maxLen at hm; omega, fun _ => ⟨g, rfl, hb, ⟨cur, hg⟩, fun i hi => ?_⟩⟩
    have e : (cur.toList.take (xs.length * 1))[i]? = (xs.map zv)[i]? := by rw [ht]
    rw [List.getElem?_take_of_lt (by omega)] at e
    rw [cell_of_row _ _ _ _ _ _ hg]
    simpa [hi] using e
theorem ZOwn.at {w : World} {base n cap : Nat} {ao : Option Addr} {xs : List Int} (h : ZOwn w base (.slice ao n cap) xs) {i : Nat} (hi : i < xs.length) : ∃ g, ao = some ⟨g, 0, none⟩ ∧ base ≤ g ∧ (∃ cur, w.heap[g]? = some (.cells cur 3 (0, 0))) ∧ w.cell? ⟨g, i, none⟩ = some (.int .i64 xs[i]) := by
  obtain ⟨ao', cap', e, _, _, h3⟩ := h.form
  cases e
  obtain ⟨g, e, h4, h5, h6⟩ := h3 (by omega)
  exact ⟨g, e, h4, h5, h6 i hi⟩
theorem wpList_append_z {ops : Array Oper} {rest : List Oper} {o : Oper} {a : Act} {w : World} {Q : Exit → Act → World → Prop} (hgd : o.guard = none) (s x : Operand)
    (hop : o.op = Op.call { callee := Callee.builtin Builtin.append, args := #[s, x], argTypes := #[48, 48] }) (base : Nat) (v : Value) (xs : List Int) (hs : a.eval s = v) (hown : ZOwn w base v xs) (hb : base ≤ w.heap.size) (hl : xs.length ≤ 65536) (ad : Addr) (c : Nat) (y : Int)
    (hx : a.eval x = .slice (some ad) 1 c) (hc : w.cell? ad = some (.int .i64 y))
    (hK : ∀ v' w', ZOwn w' base v' (xs ++ [y]) → w.grownBy w' v.ownBlock → wpList Try.prog ops Q rest (a.put o.dst v') w') :
    wpList Try.prog ops Q (o :: rest) a w := by
  obtain ⟨i0, hi, hz0, hz1, hz2⟩ := info_parts Try.infoInt
  refine wpList_append_own w hgd s x 48 hop base 3 i0 (.int .i64 0) 1 8 Try.underlying48 hi hz0 hz1 hz2 rfl (by decide) v xs.length (xs.map zv) hs hown ad 1 c [zv y] hx rfl ?_ ?_ (by unfold maxLen; omega) (by omega) hb ?_
  · intro j u hj
    match j with
    | 0 =>
      simp at hj
      subst hj
      simpa [Addr.add] using hc
    | j + 1 => simp at hj
  · intro u hu
    simp at hu
    subst hu
    rfl
  intro v' w' ho' hgr _
  refine hK v' w' ?_ hgr
  unfold ZOwn
  rw [List.map_append, List.length_append]
  exact ho'
end Go.Proofs.Ytmhlfbgchhmffaa
