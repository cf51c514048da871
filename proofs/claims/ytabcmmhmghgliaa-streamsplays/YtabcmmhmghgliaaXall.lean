/-
  DERIVED. Rows of entries that go out; the walk of Index.All.
-/
import Derived.Test.YtabcmmhmghgliaaXent
import Derived.Laws.OwnMore
namespace Go.Proofs.Ytabcmmhmghgliaa
open Go.RowKit Go.Maps
set_option linter.unusedVariables false

/-- A block of n entries, the first of them these. -/
def EnBlk (w : World) (q n : Nat) (zs : List Eno) : Prop := (∃ cs : Array Value, w.heap[q]? = some (.cells cs 64 (0, 0)) ∧ cs.size = n * 6 ∧ zs.length ≤ n ∧ ∀ i, (h : i < zs.length) → cs[i * 6]? = some (natV zs[i].pos) ∧ cs[i * 6 + 1]? = some (sv zs[i].e.s) ∧ cs[i * 6 + 2]? = some (natV zs[i].e.num) ∧ cs[i * 6 + 3]? = some (sv zs[i].e.e.type) ∧ cs[i * 6 + 4]? = some (.int .i64 zs[i].e.e.ver) ∧ cs[i * 6 + 5]? = some (.slice (some ⟨zs[i].fb, 0, none⟩) zs[i].e.e.fields.length zs[i].e.e.fields.length)) ∧ ∀ z ∈ zs, FdBlk w z.fb z.e.e.fields.length z.e.e.fields ∧ z.e.e.fields.length ≤ 16
theorem EnBlk.lt {w : World} {q n : Nat} {zs : List Eno} (h : EnBlk w q n zs) : q < w.heap.size := by obtain ⟨⟨cs, h1, _⟩, _⟩ := h; exact lt_of_block h1
theorem EnBlk.same {w w' : World} {q n : Nat} {zs : List Eno} (h : EnBlk w q n zs) (e : w'.heap[q]? = w.heap[q]?) (e2 : ∀ z ∈ zs, w'.heap[z.fb]? = w.heap[z.fb]?) : EnBlk w' q n zs := by
  obtain ⟨⟨cs, h1, h2⟩, h3⟩ := h
  exact ⟨⟨cs, e.trans h1, h2⟩, fun z hz => ⟨(h3 z hz).1.same (e2 z hz), (h3 z hz).2⟩⟩
theorem EnBlk.grown {w w' : World} {q n : Nat} {zs : List Eno} (h : EnBlk w q n zs) (hb : Below w.heap.size w w') : EnBlk w' q n zs := h.same (hb.block q h.lt) (fun z hz => hb.block _ (h.2 z hz).1.lt)
theorem EnBlk.room {w : World} {q n : Nat} {zs : List Eno} (h : EnBlk w q n zs) (hl : zs.length < n) (j : Nat) (hj : j < 6) : (∃ v, w.cell? ⟨q, zs.length * 6 + j, none⟩ = some v) ∧ w.frozen? ⟨q, zs.length * 6 + j, none⟩ = false := by
  obtain ⟨⟨cs, h1, h2, h3, h4⟩, _⟩ := h
  have hlt : zs.length * 6 + j < cs.size := by omega
  exact ⟨⟨cs[zs.length * 6 + j], (cell_of_row _ _ _ _ _ _ h1).trans (Array.getElem?_eq_getElem hlt)⟩, by simp [World.frozen?, h1]⟩
def put6 (w : World) (q i : Nat) (z : Eno) : World := (((((w.setCell ⟨q, i * 6, none⟩ (natV z.pos)).setCell ⟨q, i * 6 + 1, none⟩ (sv z.e.s)).setCell ⟨q, i * 6 + 2, none⟩ (natV z.e.num)).setCell ⟨q, i * 6 + 3, none⟩ (sv z.e.e.type)).setCell ⟨q, i * 6 + 4, none⟩ (.int .i64 z.e.e.ver)).setCell ⟨q, i * 6 + 5, none⟩ (.slice (some ⟨z.fb, 0, none⟩) z.e.e.fields.length z.e.e.fields.length)
theorem put6_other (w : World) (q i : Nat) (z : Eno) {p : Nat} (hp : p ≠ q) : (put6 w q i z).heap[p]? = w.heap[p]? := by
  unfold put6
  rw [heap_setCell_other _ ⟨q, i * 6 + 5, none⟩ _ _ hp, heap_setCell_other _ ⟨q, i * 6 + 4, none⟩ _ _ hp, heap_setCell_other _ ⟨q, i * 6 + 3, none⟩ _ _ hp, heap_setCell_other _ ⟨q, i * 6 + 2, none⟩ _ _ hp, heap_setCell_other _ ⟨q, i * 6 + 1, none⟩ _ _ hp, heap_setCell_other _ ⟨q, i * 6, none⟩ _ _ hp]
theorem EnBlk.put {w : World} {q n : Nat} {zs : List Eno} (h : EnBlk w q n zs) (hl : zs.length < n) (z : Eno) (hf : FdBlk w z.fb z.e.e.fields.length z.e.e.fields) (h16 : z.e.e.fields.length ≤ 16) : EnBlk (put6 w q zs.length z) q n (zs ++ [z]) := by
  obtain ⟨⟨cs, h1, h2, h3, h4⟩, h5⟩ := h
  have hfq : z.fb ≠ q := hf.kind h1 (by decide)
  have e1 := heap_setCell_same w q (zs.length * 6) _ _ (natV z.pos) h1
  have e2 := heap_setCell_same _ q (zs.length * 6 + 1) _ _ (sv z.e.s) e1
  have e3 := heap_setCell_same _ q (zs.length * 6 + 2) _ _ (natV z.e.num) e2
  have e4 := heap_setCell_same _ q (zs.length * 6 + 3) _ _ (sv z.e.e.type) e3
  have e5 := heap_setCell_same _ q (zs.length * 6 + 4) _ _ (.int .i64 z.e.e.ver) e4
  have e6 := heap_setCell_same _ q (zs.length * 6 + 5) _ _ (.slice (some ⟨z.fb, 0, none⟩) z.e.e.fields.length z.e.e.fields.length) e5
  refine ⟨⟨_, e6, by simp [h2], by simp; omega, fun i hi => ?_⟩, fun x hx => ?_⟩
  · simp only [Array.getElem?_setIfInBounds, Array.size_setIfInBounds]
    by_cases hlt : i < zs.length
    · rw [List.getElem_append_left hlt]
      obtain ⟨a0, a1, a2, a3, a4, a5⟩ := h4 i hlt
      refine ⟨?_, ?_, ?_, ?_, ?_, ?_⟩
      · rw [if_neg (by omega), if_neg (by omega), if_neg (by omega), if_neg (by omega), if_neg (by omega), if_neg (by omega)]; exact a0
      · rw [if_neg (by omega), if_neg (by omega), if_neg (by omega), if_neg (by omega), if_neg (by omega), if_neg (by omega)]; exact a1
      · rw [if_neg (by omega), if_neg (by omega), if_neg (by omega), if_neg (by omega), if_neg (by omega), if_neg (by omega)]; exact a2
      · rw [if_neg (by omega), if_neg (by omega), if_neg (by omega), if_neg (by omega), if_neg (by omega), if_neg (by omega)]; exact a3
      · rw [if_neg (by omega), if_neg (by omega), if_neg (by omega), if_neg (by omega), if_neg (by omega), if_neg (by omega)]; exact a4
      · rw [if_neg (by omega), if_neg (by omega), if_neg (by omega), if_neg (by omega), if_neg (by omega), if_neg (by omega)]; exact a5
    · have hi' : i = zs.length := by simp at hi; omega
      subst hi'
      have hf' : (zs ++ [z])[zs.length] = z := by simp
      rw [hf']
      refine ⟨?_, ?_, ?_, ?_, ?_, ?_⟩
      · rw [if_neg (by omega), if_neg (by omega), if_neg (by omega), if_neg (by omega), if_neg (by omega), if_pos rfl, if_pos (by omega)]
      · rw [if_neg (by omega), if_neg (by omega), if_neg (by omega), if_neg (by omega), if_pos rfl, if_pos (by omega)]
      · rw [if_neg (by omega), if_neg (by omega), if_neg (by omega), if_pos rfl, if_pos (by omega)]
      · rw [if_neg (by omega), if_neg (by omega), if_pos rfl, if_pos (by omega)]
      · rw [if_neg (by omega), if_pos rfl, if_pos (by omega)]
      · rw [if_pos rfl, if_pos (by omega)]
  · rcases List.mem_append.1 hx with h' | h'
    · exact ⟨(h5 x h').1.same (put6_other w q _ z ((h5 x h').1.kind h1 (by decide))), (h5 x h').2⟩
    · rw [List.mem_singleton.1 h']
      exact ⟨hf.same (put6_other w q _ z hfq), h16⟩
theorem make_entries (w : World) (n : Nat) (hn : n ≤ 100000) : ∃ w', (Instr.makeSlice 36 (.int .i64 (n : Int)) (.int .i64 (n : Int))).run Try.prog w = .ok (.slice (some ⟨w.heap.size, 0, none⟩) n n) w' ∧ EnBlk w' w.heap.size n [] ∧ w.grownBy w' none := by
  obtain ⟨i, hi, hh⟩ := Option.map_eq_some_iff.1 infoEntry3
  simp only [Prod.mk.injEq] at hh
  have h := run_make (P := Try.prog) w 36 64 i _ Try.underlying36 hi hh.1 .i64 .i64 n n (by omega) (Int.le_refl _) (by rw [hh.2.2]; omega) (by omega)
  rw [hh.2.1, Int.toNat_natCast] at h
  exact ⟨_, h, ⟨⟨_, heap_alloc_self _ _, size_madeCells _ _, Nat.zero_le _, fun i hi => by simp at hi⟩, fun x hx => by simp at hx⟩, World.grownBy_alloc _ _ _⟩

theorem ecell_len (i : Nat) (x : Ent × Nat) : (ecell i x).length = 6 := rfl
theorem ecells_at : ∀ (xs : List (Ent × Nat)) (k i j : Nat) (h : i < xs.length), j < 6 → (ecells xs k)[i * 6 + j]? = (ecell (k + i) xs[i])[j]?
  | [], _, _, _, h, _ => by simp at h
  | x :: r, k, 0, j, h, hj => by
    show (ecell k x ++ ecells r (k + 1))[0 * 6 + j]? = _
    rw [List.getElem?_append_left (by rw [ecell_len]; omega)]
    simp
  | x :: r, k, i + 1, j, h, hj => by
    show (ecell k x ++ ecells r (k + 1))[(i + 1) * 6 + j]? = _
    rw [List.getElem?_append_right (by rw [ecell_len]; omega), ecell_len, show (i + 1) * 6 + j - 6 = i * 6 + j by omega, ecells_at r (k + 1) i j (by simpa using h) hj]
    rw [show k + 1 + i = k + (i + 1) by omega]
    rfl

/-- An entry of the index, where it lies. -/
theorem IxIn.ent {w : World} {F : Nat → Prop} {st mp mk N : Nat} {I : Ix} {xs : List (Ent × Nat)} {q c : Nat} {pf : List UInt8 → Value} {D1 D2 : DataW Value} (h : IxIn w F st mp mk N I xs (.slice (some ⟨q, 0, none⟩) xs.length c) pf D1 D2) (i : Nat) (hi : i < xs.length) :
    w.cell? ⟨q, i * 6, none⟩ = some (natV i) ∧ w.cell? ⟨q, i * 6 + 1, none⟩ = some (sv xs[i].1.s) ∧ w.cell? ⟨q, i * 6 + 2, none⟩ = some (natV xs[i].1.num) ∧ w.cell? ⟨q, i * 6 + 3, none⟩ = some (sv xs[i].1.e.type) ∧ w.cell? ⟨q, i * 6 + 4, none⟩ = some (.int .i64 xs[i].1.e.ver) ∧ w.cell? ⟨q, i * 6 + 5, none⟩ = some (.slice (some ⟨xs[i].2, 0, none⟩) xs[i].1.e.fields.length xs[i].1.e.fields.length) ∧ FdBlk w xs[i].2 xs[i].1.e.fields.length xs[i].1.e.fields ∧ xs[i].1.e.fields.length ≤ 16 := by
  have c : ∀ j, j < 6 → w.cell? ⟨q, i * 6 + j, none⟩ = (ecell i xs[i])[j]? := fun j hj => by
    rw [h.row.cellAt (i * 6 + j) (by omega), ecells_at xs 0 i j hi hj, Nat.zero_add]
  obtain ⟨f1, f2, _⟩ := h.fds xs[i] (List.getElem_mem hi)
  exact ⟨c 0 (by omega), c 1 (by omega), c 2 (by omega), c 3 (by omega), c 4 (by omega), c 5 (by omega), f1, f2⟩
end Go.Proofs.Ytabcmmhmghgliaa
