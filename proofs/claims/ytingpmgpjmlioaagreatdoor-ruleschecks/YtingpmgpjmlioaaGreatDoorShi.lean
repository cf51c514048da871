/-
  DERIVED. Fields in a row of one's own; lists of fields by rising names.
-/
import Derived.Test.YtingpmgpjmlioaaGreatDoorShq
import Derived.Laws.OwnMore
namespace Go.Proofs.YtingpmgpjmlioaaGreatDoor
open Go.RowKit Go.Maps
set_option linter.unusedVariables false

/-- Fields by rising names. -/
def Rising (R : List Fld) : Prop := R.Pairwise (fun a b => a.name < b.name)
/-- The record of these fields. -/
def IsRec (S R : List Fld) : Prop := Rising R ∧ ∀ f, f ∈ R ↔ f ∈ S

theorem rising_tail {a : Fld} {r : List Fld} (h : Rising (a :: r)) : Rising r := (List.pairwise_cons.1 h).2

theorem rising_eq : ∀ {A B : List Fld}, Rising A → Rising B → (∀ f, f ∈ A ↔ f ∈ B) → A = B
  | [], [], _, _, _ => rfl
  | [], b :: r, _, _, h => absurd ((h b).2 (by simp)) (by simp)
  | a :: r, [], _, _, h => absurd ((h a).1 (by simp)) (by simp)
  | a :: r, b :: q, hA, hB, h => by
    obtain ⟨a1, a2⟩ := List.pairwise_cons.1 hA
    obtain ⟨b1, b2⟩ := List.pairwise_cons.1 hB
    have e : a = b := by
      rcases List.mem_cons.1 ((h a).1 (by simp)) with e | e
      · exact e
      · rcases List.mem_cons.1 ((h b).2 (by simp)) with e2 | e2
        · exact e2.symm
        · exact absurd (List.lt_trans (b1 a e) (a1 b e2)) (List.lt_irrefl _)
    subst e
    have : r = q := rising_eq a2 b2 (fun f => by
      constructor
      · intro hf
        rcases List.mem_cons.1 ((h f).1 (by simp [hf])) with e | e
        · subst e; exact absurd (a1 f hf) (List.lt_irrefl _)
        · exact e
      · intro hf
        rcases List.mem_cons.1 ((h f).2 (by simp [hf])) with e | e
        · subst e; exact absurd (b1 f hf) (List.lt_irrefl _)
        · exact e)
    rw [this]
theorem IsRec.unique {S A B : List Fld} (h : IsRec S A) (k : IsRec S B) : A = B := rising_eq h.1 k.1 (fun f => (h.2 f).trans (k.2 f).symm)

/-! ### Cells -/
def fcs (R : List Fld) : List Value := R.flatMap (fun f => (fv f).toList)
theorem fcs_cons (f : Fld) (r : List Fld) : fcs (f :: r) = sv f.name :: .bool f.text :: .int .i64 f.n :: sv f.s :: fcs r := by simp [fcs]
theorem fcs_len (R : List Fld) : (fcs R).length = R.length * 4 := by
  induction R with
  | nil => rfl
  | cons f r ih => rw [fcs_cons]; simp [ih]; omega
theorem fcs_append (A B : List Fld) : fcs (A ++ B) = fcs A ++ fcs B := by simp [fcs]
theorem fcs_one (R : List Fld) : ∀ u ∈ fcs R, u.oneCell' = true := by
  induction R with
  | nil => intro u hu; simp [fcs] at hu
  | cons f r ih =>
    intro u hu
    rw [fcs_cons] at hu
    simp only [List.mem_cons] at hu
    rcases hu with rfl | rfl | rfl | rfl | hu
    · rfl
    · rfl
    · rfl
    · rfl
    · exact ih u hu
theorem fcs_get : ∀ (R : List Fld) (i : Nat) (h : i < R.length), (fcs R)[i * 4]? = some (sv R[i].name) ∧ (fcs R)[i * 4 + 1]? = some (.bool R[i].text) ∧ (fcs R)[i * 4 + 2]? = some (.int .i64 R[i].n) ∧ (fcs R)[i * 4 + 3]? = some (sv R[i].s)
  | [], i, h => by simp at h
  | f :: r, 0, h => by rw [fcs_cons]; simp
  | f :: r, i + 1, h => by
    have := fcs_get r i (by simp at h; omega)
    rw [fcs_cons]
    have e : (i + 1) * 4 = i * 4 + 1 + 1 + 1 + 1 := by omega
    have e1 : (i + 1) * 4 + 1 = (i * 4 + 1) + 1 + 1 + 1 + 1 := by omega
    have e2 : (i + 1) * 4 + 2 = (i * 4 + 2) + 1 + 1 + 1 + 1 := by omega
    have e3 : (i + 1) * 4 + 3 = (i * 4 + 3) + 1 + 1 + 1 + 1 := by omega
    rw [e1, e2, e3, e]
    simp only [List.getElem?_cons_succ, List.getElem_cons_succ]
    exact this

/-- A slice of fields that a call made for itself. -/
def FOwn (w : World) (base : Nat) (v : Value) (R : List Fld) : Prop := w.ownsRow base 48 4 v R.length (fcs R)
theorem Tryz.infoField : (Tryz.prog.info? 48).map (fun i => (i.zero, i.size, i.bytes)) = some (some (.agg (fv fld0)), 4, 48) := by kernel_rfl

theorem FOwn.below {B base : Nat} {w w' : World} {v : Value} {l : List Fld} (h : FOwn w base v l) (hb : Below B w w') (hB : w.heap.size ≤ B) : FOwn w' base v l := by
  obtain ⟨h1, h2⟩ := h
  refine ⟨h1, ?_⟩
  rcases h2 with h | ⟨g, cap, cur, a, b, c, r⟩
  · exact .inl h
  · exact .inr ⟨g, cap, cur, a, b, (hb.block g (by have := lt_of_block c; omega)).trans c, r⟩

theorem FOwn.fdl {w : World} {base : Nat} {v : Value} {R : List Fld} (h : FOwn w base v R) : FdL w v R := by
  obtain ⟨h1, h2⟩ := h
  rcases h2 with ⟨rfl, h⟩ | ⟨g, cap, cur, rfl, hb, hg, hn, hm, hs, ht⟩
  · exact ⟨none, 0, by rw [h], by omega, by omega, fun hz => absurd h hz⟩
  · refine ⟨some ⟨g, 0, none⟩, cap, rfl, hn, by unfold maxLen at hm; omega, fun _ => ⟨g, 0, rfl, lt_of_block hg, fun i hi => ?_⟩⟩
    have at' : ∀ j x, j < R.length * 4 → (fcs R)[j]? = some x → w.cell? ⟨g, 0 + j, none⟩ = some x := by
      intro j x hj hx
      have e : (cur.toList.take (R.length * 4))[j]? = (fcs R)[j]? := by rw [ht]
      rw [List.getElem?_take_of_lt hj, hx] at e
      simp only [World.cell?, hg, Nat.zero_add]
      simpa using e
    obtain ⟨g0, g1, g2, g3⟩ := fcs_get R i hi
    exact ⟨at' _ _ (by omega) g0, at' _ _ (by omega) g1, at' _ _ (by omega) g2, at' _ _ (by omega) g3⟩

/-- make([]Field, 0, m) -/
theorem make_flds (w : World) (m : Nat) (hm : m ≤ 100000) : ∃ o, (Instr.makeSlice 30 (.int .i64 0) (.int .i64 (m : Int))).run Tryz.prog w = .ok (.slice (some ⟨w.heap.size, 0, none⟩) 0 m) (w.alloc o) ∧ FOwn (w.alloc o) w.heap.size (.slice (some ⟨w.heap.size, 0, none⟩) 0 m) [] := by
  obtain ⟨i, hi, hh⟩ := Option.map_eq_some_iff.1 Tryz.infoField
  simp only [Prod.mk.injEq] at hh
  have h := run_make (P := Tryz.prog) w 30 48 i _ Tryz.underlying30 hi hh.1 .i64 .i64 0 m (by omega) (by omega) (by rw [hh.2.2]; omega) (by omega)
  rw [Int.toNat_natCast, hh.2.1] at h
  refine ⟨_, h, ?_⟩
  refine ⟨rfl, .inr ⟨w.heap.size, m, madeCells (Value.agg (fv fld0)).cells (m * 4), rfl, Nat.le_refl _, ?_, by simp, by unfold maxLen; omega, ?_, by simp [fcs]⟩⟩
  · show (w.heap.push _)[w.heap.size]? = _
    simp
  · simp [madeCells]

/-- An append of a field to a slice of one's own. -/
theorem wpList_append_fld {w : World} {ops : Array Oper} {rest : List Oper} {o : Oper} {a : Act} {Q : Exit → Act → World → Prop} (hgd : o.guard = none) (s x : Operand)
    (ho : o.op = .call { callee := .builtin .append, args := #[s, x], argTypes := #[30, 30] })
    (base : Nat) (v : Value) (R : List Fld) (hs : a.eval s = v) (hown : FOwn w base v R) (q : Nat) (f : Fld) (hx : a.eval x = .slice (some ⟨q, 0, none⟩) 1 1) (hq : FBox w q f) (hlen : R.length ≤ 2000000000) (hbase : base ≤ w.heap.size)
    (h : ∀ v' w', FOwn w' base v' (R ++ [f]) → Below base w w' → (∀ (p : Nat) (cur : Array Value) (t : TypeId) (fr : Nat × Nat), w.heap[p]? = some (.cells cur t fr) → t ≠ 48 → w'.heap[p]? = w.heap[p]?) → wpList Tryz.prog ops Q rest (a.put o.dst v') w') : wpList Tryz.prog ops Q (o :: rest) a w := by
  obtain ⟨i0, hi, hh⟩ := Option.map_eq_some_iff.1 Tryz.infoField
  simp only [Prod.mk.injEq] at hh
  refine wpList_append_own w hgd s x 30 ho base 48 i0 (.agg (fv fld0)) 4 48 Tryz.underlying30 hi hh.1 hh.2.1 hh.2.2 rfl (by decide) v R.length (fcs R) hs hown ⟨q, 0, none⟩ 1 1 (fcs [f]) hx (by simp [fcs]) (fun j u hj => by
    rw [addr_add, Nat.zero_add, cell_of_row _ _ _ _ _ _ hq]
    rw [← hj]; simp [fcs]) (fcs_one [f]) (by unfold maxLen; omega) (by omega) hbase ?_
  intro v' w' ho' hgr _
  refine h v' w' (by unfold FOwn; rw [fcs_append, List.length_append]; exact ho') ((Below.refl _ _).grown hgr hbase ?_) ?_
  · intro k hk
    rcases hown.2 with ⟨rfl, _⟩ | ⟨g, cap', cur, rfl, hb, _⟩
    · cases hk
    · simp only [Value.ownBlock, Option.some.injEq] at hk; omega
  · intro p cur t fr hp ht
    refine hgr.block p (lt_of_block hp) (fun e => ?_)
    rcases hown.2 with ⟨rfl, _⟩ | ⟨g, cap', cur', rfl, hb, hg, _⟩
    · cases e
    · simp only [Value.ownBlock, Option.some.injEq] at e
      subst e
      rw [hp] at hg
      simp only [Option.some.injEq, Obj.cells.injEq] at hg
      exact ht hg.2.1
end Go.Proofs.YtingpmgpjmlioaaGreatDoor
