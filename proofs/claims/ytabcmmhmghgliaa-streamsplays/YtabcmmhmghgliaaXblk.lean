/-
  DERIVED. Blocks of fields and of events that were made for them; boxes of an event, of a batch.
-/
import Derived.Test.YtabcmmhmghgliaaXev
import Derived.Laws.MakeOwn
import Derived.Laws.CopyRow
import Derived.Deep.RegionLaw
namespace Go.Proofs.Ytabcmmhmghgliaa
open Go.RowKit
set_option linter.unusedVariables false

theorem heap_alloc_self (w : World) (o : Obj) : (w.alloc o).heap[w.heap.size]? = some o := heap_alloc_new w o
/-- A block of room for n fields, the first of which are these. -/
def FdBlk (w : World) (q n : Nat) (fs : List Fld) : Prop := ∃ cs : Array Value, w.heap[q]? = some (.cells cs 73 (0, 0)) ∧ cs.size = n * 4 ∧ fs.length ≤ n ∧ ∀ i, (h : i < fs.length) → cs[i * 4]? = some (sv fs[i].name) ∧ cs[i * 4 + 1]? = some (.bool fs[i].text) ∧ cs[i * 4 + 2]? = some (.int .i64 fs[i].n) ∧ cs[i * 4 + 3]? = some (sv fs[i].s)
theorem FdBlk.lt {w : World} {q n : Nat} {fs : List Fld} (h : FdBlk w q n fs) : q < w.heap.size := by obtain ⟨cs, h1, _⟩ := h; exact lt_of_block h1
theorem FdBlk.same {w w' : World} {q n : Nat} {fs : List Fld} (h : FdBlk w q n fs) (e : w'.heap[q]? = w.heap[q]?) : FdBlk w' q n fs := by obtain ⟨cs, h1, h2⟩ := h; exact ⟨cs, e.trans h1, h2⟩
theorem FdBlk.kind {w : World} {q n b : Nat} {fs : List Fld} {cs : Array Value} {t : TypeId} {fr : Nat × Nat} (h : FdBlk w q n fs) (hb : w.heap[b]? = some (.cells cs t fr)) (ht : t ≠ 73) : q ≠ b := by
  intro e
  subst e
  obtain ⟨cs', h1, _⟩ := h
  rw [h1] at hb
  simp only [Option.some.injEq, Obj.cells.injEq] at hb
  exact ht hb.2.1.symm
theorem FdBlk.fdl {w : World} {q n : Nat} {fs : List Fld} (h : FdBlk w q n fs) (hn : fs.length = n) (hm : n ≤ 1000000) : FdL w (.slice (some ⟨q, 0, none⟩) n n) fs := by
  have hl := h.lt
  obtain ⟨cs, h1, h2, h3, h4⟩ := h
  refine ⟨_, n, by rw [hn], by omega, by omega, fun _ => ⟨q, 0, rfl, hl, fun i hi => ?_⟩⟩
  obtain ⟨a0, a1, a2, a3⟩ := h4 i hi
  rw [Nat.zero_add]
  exact ⟨(cell_of_row _ _ _ _ _ _ h1).trans a0, (cell_of_row _ _ _ _ _ _ h1).trans a1, (cell_of_row _ _ _ _ _ _ h1).trans a2, (cell_of_row _ _ _ _ _ _ h1).trans a3⟩
theorem FdBlk.room {w : World} {q n : Nat} {fs : List Fld} (h : FdBlk w q n fs) (hl : fs.length < n) (j : Nat) (hj : j < 4) : (∃ v, w.cell? ⟨q, fs.length * 4 + j, none⟩ = some v) ∧ w.frozen? ⟨q, fs.length * 4 + j, none⟩ = false := by
  obtain ⟨cs, h1, h2, h3, h4⟩ := h
  have hlt : fs.length * 4 + j < cs.size := by omega
  exact ⟨⟨cs[fs.length * 4 + j], (cell_of_row _ _ _ _ _ _ h1).trans (Array.getElem?_eq_getElem hlt)⟩, by simp [World.frozen?, h1]⟩
theorem FdBlk.put {w : World} {q n : Nat} {fs : List Fld} (h : FdBlk w q n fs) (hl : fs.length < n) (f : Fld) : FdBlk ((((w.setCell ⟨q, fs.length * 4, none⟩ (sv f.name)).setCell ⟨q, fs.length * 4 + 1, none⟩ (.bool f.text)).setCell ⟨q, fs.length * 4 + 2, none⟩ (.int .i64 f.n)).setCell ⟨q, fs.length * 4 + 3, none⟩ (sv f.s)) q n (fs ++ [f]) := by
  obtain ⟨cs, h1, h2, h3, h4⟩ := h
  have e1 := heap_setCell_same w q (fs.length * 4) _ _ (sv f.name) h1
  have e2 := heap_setCell_same _ q (fs.length * 4 + 1) _ _ (.bool f.text) e1
  have e3 := heap_setCell_same _ q (fs.length * 4 + 2) _ _ (.int .i64 f.n) e2
  have e4 := heap_setCell_same _ q (fs.length * 4 + 3) _ _ (sv f.s) e3
  refine ⟨_, e4, by simp [h2], by simp; omega, fun i hi => ?_⟩
  simp only [Array.getElem?_setIfInBounds, Array.size_setIfInBounds]
  by_cases hlt : i < fs.length
  · rw [List.getElem_append_left hlt]
    obtain ⟨a0, a1, a2, a3⟩ := h4 i hlt
    refine ⟨?_, ?_, ?_, ?_⟩
    · rw [if_neg (by omega), if_neg (by omega), if_neg (by omega), if_neg (by omega)]; exact a0
    · rw [if_neg (by omega), if_neg (by omega), if_neg (by omega), if_neg (by omega)]; exact a1
    · rw [if_neg (by omega), if_neg (by omega), if_neg (by omega), if_neg (by omega)]; exact a2
    · rw [if_neg (by omega), if_neg (by omega), if_neg (by omega), if_neg (by omega)]; exact a3
  · have hi' : i = fs.length := by simp at hi; omega
    subst hi'
    have hf : (fs ++ [f])[fs.length] = f := by simp
    rw [hf]
    refine ⟨?_, ?_, ?_, ?_⟩
    · rw [if_neg (by omega), if_neg (by omega), if_neg (by omega), if_pos rfl, if_pos (by omega)]
    · rw [if_neg (by omega), if_neg (by omega), if_pos rfl, if_pos (by omega)]
    · rw [if_neg (by omega), if_pos rfl, if_pos (by omega)]
    · rw [if_pos rfl, if_pos (by omega)]
theorem infoField : (Try.prog.info? 73).map (fun i => (i.zero, i.size, i.bytes)) = some (some (.agg (fv ⟨[], false, 0, []⟩)), 4, 48) := by kernel_rfl
theorem make_fields (w : World) (n : Nat) (hn : n ≤ 16) : ∃ w', (Instr.makeSlice 47 (.int .i64 (n : Int)) (.int .i64 (n : Int))).run Try.prog w = .ok (.slice (some ⟨w.heap.size, 0, none⟩) n n) w' ∧ FdBlk w' w.heap.size n [] ∧ w.grownBy w' none := by
  obtain ⟨i, hi, hh⟩ := Option.map_eq_some_iff.1 infoField
  simp only [Prod.mk.injEq] at hh
  have h := run_make (P := Try.prog) w 47 73 i _ Try.underlying47 hi hh.1 .i64 .i64 n n (by omega) (Int.le_refl _) (by rw [hh.2.2]; omega) (by omega)
  rw [hh.2.1, Int.toNat_natCast] at h
  exact ⟨_, h, ⟨_, heap_alloc_self _ _, size_madeCells _ _, Nat.zero_le _, fun i hi => by simp at hi⟩, World.grownBy_alloc _ _ _⟩
/-- An event in a block of its own. -/
def EBox (w : World) (q : Nat) (t : List UInt8) (ver : Int) (v : Value) : Prop := w.heap[q]? = some (.cells #[sv t, .int .i64 ver, v] 49 (0, 0))
theorem EBox.cells {w : World} {q : Nat} {t : List UInt8} {ver : Int} {v : Value} (h : EBox w q t ver v) : w.cell? ⟨q, 0, none⟩ = some (sv t) ∧ w.cell? ⟨q, 1, none⟩ = some (.int .i64 ver) ∧ w.cell? ⟨q, 2, none⟩ = some v ∧ ∀ i, w.frozen? ⟨q, i, none⟩ = false :=
  ⟨(cell_of_row _ _ _ _ _ _ h).trans rfl, (cell_of_row _ _ _ _ _ _ h).trans rfl, (cell_of_row _ _ _ _ _ _ h).trans rfl, fun i => by simp [World.frozen?, show w.heap[q]? = _ from h]⟩
theorem EBox.set0 {w : World} {q : Nat} {t : List UInt8} {ver : Int} {v : Value} (h : EBox w q t ver v) (s : List UInt8) : EBox (w.setCell ⟨q, 0, none⟩ (sv s)) q s ver v := by unfold EBox; rw [heap_setCell_same w q 0 _ _ _ h]; rfl
theorem EBox.set1 {w : World} {q : Nat} {t : List UInt8} {ver : Int} {v : Value} (h : EBox w q t ver v) (n : Int) : EBox (w.setCell ⟨q, 1, none⟩ (.int .i64 n)) q t n v := by unfold EBox; rw [heap_setCell_same w q 1 _ _ _ h]; rfl
theorem EBox.set2 {w : World} {q : Nat} {t : List UInt8} {ver : Int} {v : Value} (h : EBox w q t ver v) (u : Value) : EBox (w.setCell ⟨q, 2, none⟩ u) q t ver u := by unfold EBox; rw [heap_setCell_same w q 2 _ _ _ h]; rfl
theorem EBox.same {w w' : World} {q : Nat} {t : List UInt8} {ver : Int} {v : Value} (h : EBox w q t ver v) (e : w'.heap[q]? = w.heap[q]?) : EBox w' q t ver v := e.trans h
theorem sizeEvent : (Try.prog.info? 49).map (·.size) = some 3 := by kernel_rfl
/-- A block of room for n events, the first of which are these; each with the block of its fields. -/
def EvBlk (w : World) (q n : Nat) (xs : List (Evn × Nat)) : Prop := (∃ cs : Array Value, w.heap[q]? = some (.cells cs 49 (0, 0)) ∧ cs.size = n * 3 ∧ xs.length ≤ n ∧ ∀ i, (h : i < xs.length) → cs[i * 3]? = some (sv xs[i].1.type) ∧ cs[i * 3 + 1]? = some (.int .i64 xs[i].1.ver) ∧ cs[i * 3 + 2]? = some (.slice (some ⟨xs[i].2, 0, none⟩) xs[i].1.fields.length xs[i].1.fields.length)) ∧ ∀ x ∈ xs, FdBlk w x.2 x.1.fields.length x.1.fields ∧ x.1.fields.length ≤ 16
theorem EvBlk.lt {w : World} {q n : Nat} {xs : List (Evn × Nat)} (h : EvBlk w q n xs) : q < w.heap.size := by obtain ⟨⟨cs, h1, _⟩, _⟩ := h; exact lt_of_block h1
theorem EvBlk.same {w w' : World} {q n : Nat} {xs : List (Evn × Nat)} (h : EvBlk w q n xs) (e : w'.heap[q]? = w.heap[q]?) (e2 : ∀ x ∈ xs, w'.heap[x.2]? = w.heap[x.2]?) : EvBlk w' q n xs := by
  obtain ⟨⟨cs, h1, h2⟩, h3⟩ := h
  exact ⟨⟨cs, e.trans h1, h2⟩, fun x hx => ⟨(h3 x hx).1.same (e2 x hx), (h3 x hx).2⟩⟩
theorem EvBlk.kind {w : World} {q n b : Nat} {xs : List (Evn × Nat)} {cs : Array Value} {t : TypeId} {fr : Nat × Nat} (h : EvBlk w q n xs) (hb : w.heap[b]? = some (.cells cs t fr)) (ht : t ≠ 49) : q ≠ b := by
  intro e
  subst e
  obtain ⟨⟨cs', h1, _⟩, _⟩ := h
  rw [h1] at hb
  simp only [Option.some.injEq, Obj.cells.injEq] at hb
  exact ht hb.2.1.symm
theorem EvBlk.fld {w : World} {q n : Nat} {xs : List (Evn × Nat)} (h : EvBlk w q n xs) : ∀ x ∈ xs, x.2 ≠ q := fun x hx => by
  obtain ⟨⟨cs, h1, _⟩, h3⟩ := h
  exact (h3 x hx).1.kind h1 (by decide)
theorem EvBlk.evl {w : World} {q n : Nat} {xs : List (Evn × Nat)} (h : EvBlk w q n xs) (hn : xs.length = n) (hm : n ≤ 16) : EvL w (.slice (some ⟨q, 0, none⟩) n n) (xs.map (·.1)) := by
  have hl := h.lt
  obtain ⟨⟨cs, h1, h2, h3, h4⟩, h5⟩ := h
  have hlen : (xs.map (·.1)).length = n := by rw [List.length_map, hn]
  refine ⟨_, n, by rw [hlen], by omega, by omega, fun _ => ⟨q, 0, rfl, hl, fun i hi => ?_⟩⟩
  have hi' : i < xs.length := by rw [hlen] at hi; omega
  obtain ⟨a0, a1, a2⟩ := h4 i hi'
  have he : (xs.map (·.1))[i] = xs[i].1 := by simp
  rw [Nat.zero_add, he]
  obtain ⟨q1, q2⟩ := h5 xs[i] (List.getElem_mem hi')
  exact ⟨(cell_of_row _ _ _ _ _ _ h1).trans a0, (cell_of_row _ _ _ _ _ _ h1).trans a1, _, _, _, (cell_of_row _ _ _ _ _ _ h1).trans a2, q1.fdl rfl (by omega)⟩
theorem EvBlk.room {w : World} {q n : Nat} {xs : List (Evn × Nat)} (h : EvBlk w q n xs) (hl : xs.length < n) (j : Nat) (hj : j < 3) : (∃ v, w.cell? ⟨q, xs.length * 3 + j, none⟩ = some v) ∧ w.frozen? ⟨q, xs.length * 3 + j, none⟩ = false := by
  obtain ⟨⟨cs, h1, h2, h3, h4⟩, _⟩ := h
  have hlt : xs.length * 3 + j < cs.size := by omega
  exact ⟨⟨cs[xs.length * 3 + j], (cell_of_row _ _ _ _ _ _ h1).trans (Array.getElem?_eq_getElem hlt)⟩, by simp [World.frozen?, h1]⟩
theorem EvBlk.put {w : World} {q n : Nat} {xs : List (Evn × Nat)} (h : EvBlk w q n xs) (hl : xs.length < n) (t : List UInt8) (ver : Int) (fb m : Nat) (fs : List Fld) (hf : FdBlk w fb m fs) (hm : fs.length = m) (hm2 : m ≤ 16) : EvBlk (((w.setCell ⟨q, xs.length * 3, none⟩ (sv t)).setCell ⟨q, xs.length * 3 + 1, none⟩ (.int .i64 ver)).setCell ⟨q, xs.length * 3 + 2, none⟩ (.slice (some ⟨fb, 0, none⟩) m m)) q n (xs ++ [(⟨t, ver, fs⟩, fb)]) := by
  have hfl := h.fld
  obtain ⟨⟨cs, h1, h2, h3, h4⟩, h5⟩ := h
  have hfq : fb ≠ q := hf.kind h1 (by decide)
  have e1 := heap_setCell_same w q (xs.length * 3) _ _ (sv t) h1
  have e2 := heap_setCell_same _ q (xs.length * 3 + 1) _ _ (.int .i64 ver) e1
  have e3 := heap_setCell_same _ q (xs.length * 3 + 2) _ _ (.slice (some ⟨fb, 0, none⟩) m m) e2
  have ho : ∀ p, p ≠ q → (((w.setCell ⟨q, xs.length * 3, none⟩ (sv t)).setCell ⟨q, xs.length * 3 + 1, none⟩ (.int .i64 ver)).setCell ⟨q, xs.length * 3 + 2, none⟩ (.slice (some ⟨fb, 0, none⟩) m m)).heap[p]? = w.heap[p]? := fun p hp => by
    rw [heap_setCell_other _ _ _ _ hp, heap_setCell_other _ _ _ _ hp, heap_setCell_other _ _ _ _ hp]
  refine ⟨⟨_, e3, by simp [h2], by simp; omega, fun i hi => ?_⟩, fun x hx => ?_⟩
  · simp only [Array.getElem?_setIfInBounds, Array.size_setIfInBounds]
    by_cases hlt : i < xs.length
    · rw [List.getElem_append_left hlt]
      obtain ⟨a0, a1, a2⟩ := h4 i hlt
      refine ⟨?_, ?_, ?_⟩
      · rw [if_neg (by omega), if_neg (by omega), if_neg (by omega)]; exact a0
      · rw [if_neg (by omega), if_neg (by omega), if_neg (by omega)]; exact a1
      · rw [if_neg (by omega), if_neg (by omega), if_neg (by omega)]; exact a2
    · have hi' : i = xs.length := by simp at hi; omega
      subst hi'
      have hf' : (xs ++ [((⟨t, ver, fs⟩ : Evn), fb)])[xs.length] = (⟨t, ver, fs⟩, fb) := by simp
      rw [hf']
      refine ⟨?_, ?_, ?_⟩
      · rw [if_neg (by omega), if_neg (by omega), if_pos rfl, if_pos (by omega)]
      · rw [if_neg (by omega), if_pos rfl, if_pos (by omega)]
      · rw [if_pos rfl, if_pos (by omega), hm]
  · rcases List.mem_append.1 hx with h' | h'
    · exact ⟨(h5 x h').1.same (ho _ (hfl x h')), (h5 x h').2⟩
    · rw [List.mem_singleton.1 h']
      show FdBlk _ fb fs.length fs ∧ fs.length ≤ 16
      rw [hm]
      exact ⟨hf.same (ho _ hfq), hm2⟩
theorem infoEvent3 : (Try.prog.info? 49).map (fun i => (i.zero, i.size, i.bytes)) = some (some (.agg (ev [] 0 none 0 0)), 3, 48) := by kernel_rfl
theorem make_events (w : World) (n : Nat) (hn : n ≤ 16) : ∃ w', (Instr.makeSlice 31 (.int .i64 (n : Int)) (.int .i64 (n : Int))).run Try.prog w = .ok (.slice (some ⟨w.heap.size, 0, none⟩) n n) w' ∧ EvBlk w' w.heap.size n [] ∧ w.grownBy w' none := by
  obtain ⟨i, hi, hh⟩ := Option.map_eq_some_iff.1 infoEvent3
  simp only [Prod.mk.injEq] at hh
  have h := run_make (P := Try.prog) w 31 49 i _ Try.underlying31 hi hh.1 .i64 .i64 n n (by omega) (Int.le_refl _) (by rw [hh.2.2]; omega) (by omega)
  rw [hh.2.1, Int.toNat_natCast] at h
  exact ⟨_, h, ⟨⟨_, heap_alloc_self _ _, size_madeCells _ _, Nat.zero_le _, fun i hi => by simp at hi⟩, fun x hx => by simp at hx⟩, World.grownBy_alloc _ _ _⟩
/-- A batch in a block of its own. -/
def BBox (w : World) (q : Nat) (s k : List UInt8) (fi : Int) (v : Value) : Prop := w.heap[q]? = some (.cells #[sv s, sv k, .int .i64 fi, v] 33 (0, 0))
theorem BBox.cells {w : World} {q : Nat} {s k : List UInt8} {fi : Int} {v : Value} (h : BBox w q s k fi v) : w.cell? ⟨q, 0, none⟩ = some (sv s) ∧ w.cell? ⟨q, 1, none⟩ = some (sv k) ∧ w.cell? ⟨q, 2, none⟩ = some (.int .i64 fi) ∧ w.cell? ⟨q, 3, none⟩ = some v ∧ ∀ i, w.frozen? ⟨q, i, none⟩ = false :=
  ⟨(cell_of_row _ _ _ _ _ _ h).trans rfl, (cell_of_row _ _ _ _ _ _ h).trans rfl, (cell_of_row _ _ _ _ _ _ h).trans rfl, (cell_of_row _ _ _ _ _ _ h).trans rfl, fun i => by simp [World.frozen?, show w.heap[q]? = _ from h]⟩
theorem BBox.set0 {w : World} {q : Nat} {s k : List UInt8} {fi : Int} {v : Value} (h : BBox w q s k fi v) (x : List UInt8) : BBox (w.setCell ⟨q, 0, none⟩ (sv x)) q x k fi v := by unfold BBox; rw [heap_setCell_same w q 0 _ _ _ h]; rfl
theorem BBox.set1 {w : World} {q : Nat} {s k : List UInt8} {fi : Int} {v : Value} (h : BBox w q s k fi v) (x : List UInt8) : BBox (w.setCell ⟨q, 1, none⟩ (sv x)) q s x fi v := by unfold BBox; rw [heap_setCell_same w q 1 _ _ _ h]; rfl
theorem BBox.set2 {w : World} {q : Nat} {s k : List UInt8} {fi : Int} {v : Value} (h : BBox w q s k fi v) (x : Int) : BBox (w.setCell ⟨q, 2, none⟩ (.int .i64 x)) q s k x v := by unfold BBox; rw [heap_setCell_same w q 2 _ _ _ h]; rfl
theorem BBox.set3 {w : World} {q : Nat} {s k : List UInt8} {fi : Int} {v : Value} (h : BBox w q s k fi v) (x : Value) : BBox (w.setCell ⟨q, 3, none⟩ x) q s k fi x := by unfold BBox; rw [heap_setCell_same w q 3 _ _ _ h]; rfl
theorem BBox.same {w w' : World} {q : Nat} {s k : List UInt8} {fi : Int} {v : Value} (h : BBox w q s k fi v) (e : w'.heap[q]? = w.heap[q]?) : BBox w' q s k fi v := e.trans h
theorem sizeBatch : (Try.prog.info? 33).map (·.size) = some 4 := by kernel_rfl

/-- Fields as cells. -/
def fcells (fs : List Fld) : List Value := fs.flatMap fun f => (fv f).toList
theorem fcells_len : ∀ fs : List Fld, (fcells fs).length = fs.length * 4
  | [] => rfl
  | f :: r => by
    have e : fcells (f :: r) = sv f.name :: .bool f.text :: .int .i64 f.n :: sv f.s :: fcells r := rfl
    rw [e]
    simp only [List.length_cons, fcells_len r]
    omega
theorem fcells_one (fs : List Fld) : ∀ v ∈ fcells fs, v.oneCell' = true := by
  intro v hv
  obtain ⟨f, _, h⟩ := List.mem_flatMap.1 hv
  simp at h
  rcases h with rfl | rfl | rfl | rfl <;> rfl
theorem fcells_at : ∀ (fs : List Fld) (k : Nat) (hk : k < fs.length), (fcells fs)[k * 4]? = some (sv fs[k].name) ∧ (fcells fs)[k * 4 + 1]? = some (.bool fs[k].text) ∧ (fcells fs)[k * 4 + 2]? = some (.int .i64 fs[k].n) ∧ (fcells fs)[k * 4 + 3]? = some (sv fs[k].s)
  | [], k, hk => by simp at hk
  | f :: r, 0, _ => ⟨rfl, rfl, rfl, rfl⟩
  | f :: r, k + 1, hk => by
    have ih := fcells_at r k (by simpa using hk)
    have e : fcells (f :: r) = sv f.name :: .bool f.text :: .int .i64 f.n :: sv f.s :: fcells r := rfl
    have z : ∀ (j : Nat) (a b c d : Value) (l : List Value), (a :: b :: c :: d :: l)[(k + 1) * 4 + j]? = l[k * 4 + j]? := fun j a b c d l => by
      rw [show (k + 1) * 4 + j = k * 4 + j + 1 + 1 + 1 + 1 by omega]; rfl
    rw [e]
    exact ⟨(z 0 _ _ _ _ _).trans ih.1, (z 1 _ _ _ _ _).trans ih.2.1, (z 2 _ _ _ _ _).trans ih.2.2.1, (z 3 _ _ _ _ _).trans ih.2.2.2⟩

theorem FdL.src {w : World} {b off n c : Nat} {fs : List Fld} (hc : ∀ i, (h : i < fs.length) → w.cell? ⟨b, off + i * 4, none⟩ = some (sv fs[i].name) ∧ w.cell? ⟨b, off + i * 4 + 1, none⟩ = some (.bool fs[i].text) ∧ w.cell? ⟨b, off + i * 4 + 2, none⟩ = some (.int .i64 fs[i].n) ∧ w.cell? ⟨b, off + i * 4 + 3, none⟩ = some (sv fs[i].s)) :
    ∀ j v, (fcells fs)[j]? = some v → w.cell? ((⟨b, off, none⟩ : Addr).add j) = some v := by
  intro j v hj
  rw [addr_add]
  have hl : j < fs.length * 4 := by rw [← fcells_len]; exact (List.getElem?_eq_some_iff.1 hj).1
  have hk : j / 4 < fs.length := by omega
  obtain ⟨c0, c1, c2, c3⟩ := hc (j / 4) hk
  obtain ⟨d0, d1, d2, d3⟩ := fcells_at fs (j / 4) hk
  have h4 : j % 4 < 4 := Nat.mod_lt _ (by omega)
  have e : j = j / 4 * 4 + j % 4 := by omega
  generalize j % 4 = m at h4 e
  generalize j / 4 = k at *
  subst e
  obtain rfl | rfl | rfl | rfl : m = 0 ∨ m = 1 ∨ m = 2 ∨ m = 3 := by omega
  · rw [Nat.add_zero] at hj ⊢; rw [d0] at hj; cases hj; exact c0
  · rw [d1] at hj; cases hj; exact c1
  · rw [d2] at hj; cases hj; exact c2
  · rw [d3] at hj; cases hj; exact c3

theorem copy_fields (w : World) (ty : TypeId) (q : Nat) (a : Option Addr) (n c : Nat) (fs : List Fld) (hv : FdL w (.slice a n c) fs) (hq : FdBlk w q fs.length []) :
    ∃ w', (Builtin.copy_ #[47, 47] ty #[.slice (some ⟨q, 0, none⟩) n n, .slice a n c]).run Try.prog w = .ok (goInt n) w' ∧ FdBlk w' q fs.length fs ∧ w.grownBy w' (some q) := by
  obtain ⟨ao, cap, e, h1, h2, h4⟩ := hv
  cases e
  obtain ⟨i, hi, hh⟩ := Option.map_eq_some_iff.1 infoField
  simp only [Prod.mk.injEq] at hh
  obtain ⟨cs, g1, g2, g3, g4⟩ := hq
  by_cases hz : fs.length = 0
  · obtain rfl : fs = [] := List.eq_nil_of_length_eq_zero hz
    refine ⟨w, ?_, ⟨cs, g1, g2, g3, g4⟩, ⟨rfl, rfl, rfl, Nat.le_refl _, fun _ _ _ => rfl⟩⟩
    have hl : ∀ (x : Addr), (loadCells x 0).run Try.prog w = .ok #[] w := fun x => by simpa using run_loadCells_list (P := Try.prog) w x [] (by simp)
    cases a <;> simp [Builtin.copy_, run_underlying Try.underlying47, Builtin.lenOf, Builtin.firstCells, sizeOf, typeInfo, hi, storeCells, hl]
  · obtain ⟨b, off, rfl, hb, hc⟩ := h4 hz
    have hl := run_loadCells_list (P := Try.prog) w ⟨b, off, none⟩ (fcells fs) (FdL.src (n := 0) (c := 0) hc)
    have hst := run_storeCells_at Try.prog q 0 73 (fcells fs) 0 cs w g1 (by rw [fcells_len, g2]; omega) (fcells_one fs)
    rw [fcells_len] at hl
    have e : (cs.toList.take (0 + 0) ++ fcells fs ++ cs.toList.drop (0 + 0 + (fcells fs).length)) = fcells fs := by
      rw [List.drop_eq_nil_of_le (by rw [Array.length_toList, g2, fcells_len]; omega), List.append_nil]; rfl
    rw [e] at hst
    refine ⟨w.setRow q (fcells fs).toArray, ?_, ⟨(fcells fs).toArray, setRow_heap _ _ _ _ _ _ g1, by simp [fcells_len], Nat.le_refl _, fun k hk => by simpa using fcells_at fs k hk⟩, ?_⟩
    · have hmin : Nat.min fs.length fs.length = fs.length := Nat.min_self _
      simp [Builtin.copy_, run_underlying Try.underlying47, Builtin.lenOf, Builtin.firstCells, sizeOf, typeInfo, hi, hh.2.1, hl, hst, hmin]
    · exact ⟨rfl, rfl, rfl, Nat.le_of_eq (by simp [World.setRow]), fun k hk hn => setRow_other _ _ _ _ (fun e => hn (by rw [e]))⟩
end Go.Proofs.Ytabcmmhmghgliaa
