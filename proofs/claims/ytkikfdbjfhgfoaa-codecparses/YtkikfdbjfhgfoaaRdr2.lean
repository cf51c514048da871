/-
  DERIVED. The reader of a batch: a field.
-/
import Derived.Test.YtkikfdbjfhgfoaaRdr
import Derived.Laws.Rows
namespace Go.Proofs.Ytkikfdbjfhgfoaa
open Go.RowKit
set_option linter.unusedVariables false

theorem heap_alloc_self (w : World) (o : Obj) : (w.alloc o).heap[w.heap.size]? = some o := by
  show (w.heap.push o)[w.heap.size]? = _
  simp
/-- A field in a block of its own. -/
def FBox (w : World) (q : Nat) (f : Fld) : Prop := w.heap[q]? = some (.cells (fv f) 62 (0, 0))
theorem FBox.cells {w : World} {q : Nat} {f : Fld} (h : FBox w q f) : w.cell? ⟨q, 0, none⟩ = some (sv f.name) ∧ w.cell? ⟨q, 1, none⟩ = some (.bool f.text) ∧ w.cell? ⟨q, 2, none⟩ = some (.int .i64 f.n) ∧ w.cell? ⟨q, 3, none⟩ = some (sv f.s) ∧ ∀ i, w.frozen? ⟨q, i, none⟩ = false :=
  ⟨(cell_of_row _ _ _ _ _ _ h).trans rfl, (cell_of_row _ _ _ _ _ _ h).trans rfl, (cell_of_row _ _ _ _ _ _ h).trans rfl, (cell_of_row _ _ _ _ _ _ h).trans rfl, fun i => by simp [World.frozen?, show w.heap[q]? = _ from h]⟩
theorem FBox.set0 {w : World} {q : Nat} {f : Fld} (h : FBox w q f) (s : List UInt8) : FBox (w.setCell ⟨q, 0, none⟩ (sv s)) q { f with name := s } := by
  unfold FBox; rw [heap_setCell_same w q 0 _ _ _ h]; rfl
theorem FBox.set1 {w : World} {q : Nat} {f : Fld} (h : FBox w q f) (t : Bool) : FBox (w.setCell ⟨q, 1, none⟩ (.bool t)) q { f with text := t } := by
  unfold FBox; rw [heap_setCell_same w q 1 _ _ _ h]; rfl
theorem FBox.set2 {w : World} {q : Nat} {f : Fld} (h : FBox w q f) (n : Int) : FBox (w.setCell ⟨q, 2, none⟩ (.int .i64 n)) q { f with n := n } := by
  unfold FBox; rw [heap_setCell_same w q 2 _ _ _ h]; rfl
theorem FBox.set3 {w : World} {q : Nat} {f : Fld} (h : FBox w q f) (s : List UInt8) : FBox (w.setCell ⟨q, 3, none⟩ (sv s)) q { f with s := s } := by
  unfold FBox; rw [heap_setCell_same w q 3 _ _ _ h]; rfl
/-- The reader and a box beside it; what the reader does leaves the box. -/
structure RB (w0 w w' : World) (b q : Nat) (l : List UInt8) : Prop where
  at_ : RrAt w0 w' b l
  grown : w.grownBy w' (some b)
  newQ : w.heap.size ≤ q
  newB : b < w.heap.size
theorem RB.step {w0 w w1 w2 : World} {b q : Nat} {l l' : List UInt8} (h : RB w0 w w1 b q l) (hr : RrAt w0 w2 b l') (hg : w1.grownBy w2 (some b)) : RB w0 w w2 b q l' := ⟨hr, h.grown.trans hg, h.newQ, h.newB⟩
theorem RB.set {w0 w w1 : World} {b q : Nat} {l : List UInt8} (h : RB w0 w w1 b q l) (i : Nat) (v : Value) : RB w0 w (w1.setCell ⟨q, i, none⟩ v) b q l := by
  have h0 := h.at_.grown.size
  have hb0 := h.at_.new
  have hbw := h.newB
  have hq := h.newQ
  refine ⟨h.at_.beside (setCell_grown _ _ _ _) (by omega) (by omega), h.grown.andThen (setCell_grown _ _ _ _) (fun j e => by cases e; exact .inl h.newQ), h.newQ, h.newB⟩
theorem FBox.far {w w' : World} {q b : Nat} {f : Fld} (h : FBox w q f) (hg : w.grownBy w' (some b)) (hne : q ≠ b) : FBox w' q f := (hg.block q (lt_of_block h) (fun e => hne (by cases e; rfl))).trans h

theorem sizeField : (Try.prog.info? 62).map (·.size) = some 4 := by kernel_rfl
def FldPost (w0 w : World) (b : Nat) (l : List UInt8) (o : Ending) (w' : World) : Prop := ∃ (f : Fld) (l' : List UInt8), o = .returned (.agg (fv f)) ∧ RrAt w0 w' b l' ∧ w.grownBy w' (some b) ∧ fits f ∧ fitN f ∧ ∀ g r, l = layFld g ++ r → okField g → fitN g → f = g ∧ l' = r
set_option maxHeartbeats 2000000 in
theorem field_any (w0 w : World) (b : Nat) (l : List UInt8) (h : RrAt w0 w b l) :
    Calls Try.prog 58 #[.pointer (some ⟨b, 0, none⟩)] w (FldPost w0 w b l) := by
  have hbl := h.lt
  have hb1 : w.heap.size + 1 ≠ b := by omega
  obtain ⟨w2, hw2⟩ : ∃ w2, w2 = (w.alloc (.cells (fv ⟨[], false, 0, []⟩) 62)).alloc (.cells (fv ⟨[], false, 0, []⟩) 62) := ⟨_, rfl⟩
  have g2 : w.grownBy w2 none := by rw [hw2]; exact (World.grownBy_alloc _ _ _).trans (World.grownBy_alloc _ _ _)
  have HQ : Hid (RB w0 w w2 b (w.heap.size + 1) l) := hide ⟨h.kept g2, g2.but _, Nat.le_succ _, hbl⟩
  have HF : Hid (FBox w2 (w.heap.size + 1) ⟨[], false, 0, []⟩) := hide (by
    rw [hw2]
    have := heap_alloc_self (w.alloc (.cells (fv ⟨[], false, 0, []⟩) 62)) (.cells (fv ⟨[], false, 0, []⟩) 62)
    simpa [FBox] using this)
  have HX : Hid (w2.heap[w.heap.size]? = some (.cells (fv ⟨[], false, 0, []⟩) 62 (0, 0))) := hide (by
    rw [hw2, Below.heap_alloc _ _ _ (by simp)]; exact heap_alloc_self _ _)
  have HW2 := hide hw2
  clear h g2 hw2
  go_enter Try.func58, Try.ntmps58
  go_wp2_with fail
  rw [← unhide HW2]
  refine (text_any w0 w2 b l (unhide HQ).at_ 60 (by decide)).mono ?_
  rintro e w3 ⟨nm, l3, rfl, r3, g3, hn3, hc3⟩
  have Q3 := hide ((unhide HQ).step r3 g3)
  have F3 := hide ((unhide HF).far g3 hb1)
  have c3 := (unhide F3).cells.1
  have z3 := (unhide F3).cells.2.2.2.2 0
  have X3 := hide ((g3.block w.heap.size (by have := lt_of_block (unhide HX); omega) (fun e => by cases e; omega)).trans (unhide HX))
  have HC3 := hide hc3
  clear r3 g3 HQ HF HX hc3 HW2
  go_wp2_with fail
  have Q3s := hide ((unhide Q3).set 0 (sv nm))
  have F3s := hide ((unhide F3).set0 nm)
  have X3s : Hid ((w3.setCell ⟨w.heap.size + 1, 0, none⟩ (sv nm)).heap[w.heap.size]? = some (.cells (fv ⟨[], false, 0, []⟩) 62 (0, 0))) := hide ((heap_setCell_other _ _ _ _ (by show w.heap.size ≠ w.heap.size + 1; omega)).trans (unhide X3))
  obtain ⟨w4, hw4⟩ : ∃ w4, w4 = w3.setCell ⟨w.heap.size + 1, 0, none⟩ (sv nm) := ⟨_, rfl⟩
  rw [← hw4] at Q3s F3s X3s ⊢
  clear hw4 Q3 F3 X3 c3 z3
  refine (number_any w0 w4 b l3 (unhide Q3s).at_ 1 (by decide)).mono ?_
  rintro e w5 ⟨n5, l5, rfl, r5, g5, hn5, hc5⟩
  have Q5 := hide ((unhide Q3s).step r5 g5)
  have F5 := hide ((unhide F3s).far g5 hb1)
  have X5 := hide ((g5.block w.heap.size (by have := lt_of_block (unhide X3s); omega) (fun e => by cases e; omega)).trans (unhide X3s))
  have z5 := (unhide F5).cells.2.2.2.2 1
  have c5 := (unhide F5).cells.2.1
  have HC5 := hide hc5
  simp only at c5
  clear r5 g5 Q3s F3s X3s hc5
  have FIN : Hid (∀ (f : Fld) l6 (W : World), RB w0 w W b (w.heap.size + 1) l6 → W.heap[w.heap.size]? = some (.cells (fv ⟨[], false, 0, []⟩) 62 (0, 0)) → f.name = nm → f.text = (n5 == 1) → f.s.length ≤ 200 → fitN f → (f.text = true → f.n = 0 ∧ ∀ t r, l5 = layT t ++ r → t.length ≤ 200 → f.s = t ∧ l6 = r) → (f.text = false → f.s = [] ∧ ∀ i r, l5 = lay (zig i) ++ r → (-9223372036854775808 ≤ i ∧ i ≤ 9223372036854775807) → f.n = i ∧ l6 = r) →
      FldPost w0 w b l (.returned (.agg (fv f))) ((((W.setCell ⟨w.heap.size, 0, none⟩ (sv f.name)).setCell ⟨w.heap.size, 1, none⟩ (.bool f.text)).setCell ⟨w.heap.size, 2, none⟩ (.int .i64 f.n)).setCell ⟨w.heap.size, 3, none⟩ (sv f.s)) ∧ FBox ((((W.setCell ⟨w.heap.size, 0, none⟩ (sv f.name)).setCell ⟨w.heap.size, 1, none⟩ (.bool f.text)).setCell ⟨w.heap.size, 2, none⟩ (.int .i64 f.n)).setCell ⟨w.heap.size, 3, none⟩ (sv f.s)) w.heap.size f) := hide (by
    intro f l6 W hq hx h1 h2 h3 h4 h5 h6
    refine ⟨?_, ((((show FBox W w.heap.size ⟨[], false, 0, []⟩ from hx).set0 f.name).set1 f.text).set2 f.n).set3 f.s⟩
    have hset : ∀ W' i v, RB w0 w W' b w.heap.size l6 → RB w0 w (W'.setCell ⟨w.heap.size, i, none⟩ v) b w.heap.size l6 := fun W' i v h => h.set i v
    have k := hset _ 3 (sv f.s) (hset _ 2 (.int .i64 f.n) (hset _ 1 (.bool f.text) (hset _ 0 (sv f.name) (show RB w0 w W b w.heap.size l6 from ⟨hq.at_, hq.grown, Nat.le_refl _, hq.newB⟩))))
    refine ⟨f, l6, rfl, k.at_, k.grown, ⟨by rw [h1]; omega, by omega⟩, h4, fun g r hl hok hfit => ?_⟩
    obtain ⟨gn, gt, gi, gs⟩ := g
    obtain ⟨fn, ft, fi, fss⟩ := f
    obtain ⟨o1, o2, o3⟩ := hok
    simp only at h1 h2 h3 h5 h6 o1 o2 o3
    unfold fitN at hfit
    simp only at hfit
    subst h1
    unfold layFld at hl
    simp only [List.append_assoc] at hl
    obtain ⟨e1, e2⟩ := unhide HC3 gn _ hl (by have := o1.2; omega)
    subst e1
    cases gt with
    | true =>
      have e3 : l3 = lay 1 ++ (layT gs ++ r) := by rw [e2, lay_small (n := 1) (by decide)]; simp
      obtain ⟨e4, e5⟩ := unhide HC5 1 _ e3 (Nat.le_refl _)
      subst e4
      simp only [beq_self_eq_true] at h2
      subst h2
      obtain ⟨q1, q2⟩ := h5 rfl
      obtain ⟨q3, q4⟩ := q2 gs r e5 (o2 rfl).1
      rw [q1, q3, (o2 rfl).2]
      exact ⟨rfl, q4⟩
    | false =>
      have e3 : l3 = lay 0 ++ (lay (zig gi) ++ r) := by rw [e2, lay_small (n := 0) (by decide)]; simp
      obtain ⟨e4, e5⟩ := unhide HC5 0 _ e3 (by omega)
      subst e4
      have h2' : ft = false := h2
      subst h2'
      obtain ⟨q1, q2⟩ := h6 rfl
      obtain ⟨q3, q4⟩ := q2 gi r e5 hfit
      rw [q1, q3, o3 rfl]
      exact ⟨rfl, q4⟩)
  clear HC3 HC5
  have F5s : Hid (∀ t, FBox (w5.setCell ⟨w.heap.size + 1, 1, none⟩ (.bool t)) (w.heap.size + 1) ⟨nm, t, 0, []⟩) := hide fun t => (unhide F5).set1 t
  have Q5s := hide (fun t => (unhide Q5).set 1 (.bool t))
  have X5s : Hid (∀ t, (w5.setCell ⟨w.heap.size + 1, 1, none⟩ (.bool t)).heap[w.heap.size]? = some (.cells (fv ⟨[], false, 0, []⟩) 62 (0, 0))) := hide fun t => (heap_setCell_other _ _ _ _ (by show w.heap.size ≠ w.heap.size + 1; omega)).trans (unhide X5)
  have X6 : Hid (∀ (W : World), W.heap[w.heap.size]? = some (.cells (fv ⟨[], false, 0, []⟩) 62 (0, 0)) → (W.cell? ⟨w.heap.size, 0, none⟩ = some (sv []) ∧ W.cell? ⟨w.heap.size, 1, none⟩ = some (.bool false) ∧ W.cell? ⟨w.heap.size, 2, none⟩ = some (.int .i64 0) ∧ W.cell? ⟨w.heap.size, 3, none⟩ = some (sv []) ∧ ∀ i, W.frozen? ⟨w.heap.size, i, none⟩ = false)) := hide fun W h => FBox.cells (w := W) (q := w.heap.size) (f := ⟨[], false, 0, []⟩) h
  clear F5 Q5 X5
  by_cases hn1 : n5 = 1
  · subst hn1
    go_wp2_with fail
    have Q6 := hide (unhide Q5s true)
    have F6 := hide (unhide F5s true)
    have X7 := hide (unhide X5s true)
    clear Q5s F5s X5s
    obtain ⟨w6, hw6⟩ : ∃ w6, w6 = w5.setCell ⟨w.heap.size + 1, 1, none⟩ (.bool true) := ⟨_, rfl⟩
    rw [← hw6] at Q6 F6 X7 ⊢
    clear hw6 c5 z5
    refine (text_any w0 w6 b l5 (unhide Q6).at_ 200 (by decide)).mono ?_
    rintro e w7 ⟨sx, l7, rfl, r7, g7, hn7, hc7⟩
    have Q7 := hide (((unhide Q6).step r7 g7).set 3 (sv sx))
    have F7 := hide ((unhide F6).far g7 hb1)
    have z7 := (unhide F7).cells.2.2.2.2 3
    have c7 := (unhide F7).cells.2.2.2.1
    have F8 := hide ((unhide F7).set3 sx)
    have X8 : Hid ((w7.setCell ⟨w.heap.size + 1, 3, none⟩ (sv sx)).heap[w.heap.size]? = some (.cells (fv ⟨[], false, 0, []⟩) 62 (0, 0))) := hide ((heap_setCell_other _ _ _ _ (by show w.heap.size ≠ w.heap.size + 1; omega)).trans ((g7.block w.heap.size (by have := lt_of_block (unhide X7); omega) (fun e => by cases e; omega)).trans (unhide X7)))
    have R8 := hide (unhide FIN ⟨nm, true, 0, sx⟩ l7 _ (unhide Q7) (unhide X8) rfl rfl hn7 (by unfold fitN; simp) (fun _ => ⟨rfl, hc7⟩) (fun h => by cases h))
    have LD := (unhide F8).cells
    have ZD := unhide X6 _ (unhide X8)
    obtain ⟨w8, hw8⟩ : ∃ w8, w8 = w7.setCell ⟨w.heap.size + 1, 3, none⟩ (sv sx) := ⟨_, rfl⟩
    rw [← hw8] at Q7 F8 X8 R8 LD ZD
    simp only at LD R8 c7
    obtain ⟨l0, l1, l2, l3', l4⟩ := LD
    obtain ⟨d0, d1, d2, d3, d4⟩ := ZD
    have HW8 := hide hw8
    clear r7 g7 hc7 F7 F8 X8 Q6 Q7 F6 X7 X6 FIN hw8
    go_wp2_with (rw [← unhide HW8])
    refine bodyPost_ret (results_cell_row rfl _ _ w.heap.size 62 _ (0, 0) _ rfl (unhide R8).2 Try.underlying62 rfl sizeField) rfl ?_
    exact (unhide R8).1
  · obtain rfl : n5 = 0 := by omega
    go_wp2_with fail
    have Q6 := hide (unhide Q5s false)
    have F6 := hide (unhide F5s false)
    have X7 := hide (unhide X5s false)
    clear Q5s F5s X5s
    obtain ⟨w6, hw6⟩ : ∃ w6, w6 = w5.setCell ⟨w.heap.size + 1, 1, none⟩ (.bool false) := ⟨_, rfl⟩
    rw [← hw6] at Q6 F6 X7 ⊢
    clear hw6 c5 z5
    refine (integer_any w0 w6 b l5 (unhide Q6).at_).mono ?_
    rintro e w7 ⟨ix, l7, rfl, r7, g7, hn7, hc7⟩
    have Q7 := hide (((unhide Q6).step r7 g7).set 2 (.int .i64 ix))
    have F7 := hide ((unhide F6).far g7 hb1)
    have z7 := (unhide F7).cells.2.2.2.2 2
    have c7 := (unhide F7).cells.2.2.1
    have F8 := hide ((unhide F7).set2 ix)
    have X8 : Hid ((w7.setCell ⟨w.heap.size + 1, 2, none⟩ (.int .i64 ix)).heap[w.heap.size]? = some (.cells (fv ⟨[], false, 0, []⟩) 62 (0, 0))) := hide ((heap_setCell_other _ _ _ _ (by show w.heap.size ≠ w.heap.size + 1; omega)).trans ((g7.block w.heap.size (by have := lt_of_block (unhide X7); omega) (fun e => by cases e; omega)).trans (unhide X7)))
    have R8 := hide (unhide FIN ⟨nm, false, ix, []⟩ l7 _ (unhide Q7) (unhide X8) rfl rfl (by simp) hn7 (fun h => by cases h) (fun _ => ⟨rfl, hc7⟩))
    have LD := (unhide F8).cells
    have ZD := unhide X6 _ (unhide X8)
    obtain ⟨w8, hw8⟩ : ∃ w8, w8 = w7.setCell ⟨w.heap.size + 1, 2, none⟩ (.int .i64 ix) := ⟨_, rfl⟩
    rw [← hw8] at Q7 F8 X8 R8 LD ZD
    simp only at LD R8 c7
    obtain ⟨l0, l1, l2, l3', l4⟩ := LD
    obtain ⟨d0, d1, d2, d3, d4⟩ := ZD
    have HW8 := hide hw8
    clear r7 g7 hc7 F7 F8 X8 Q6 Q7 F6 X7 X6 FIN hw8
    go_wp2_with (rw [← unhide HW8])
    refine bodyPost_ret (results_cell_row rfl _ _ w.heap.size 62 _ (0, 0) _ rfl (unhide R8).2 Try.underlying62 rfl sizeField) rfl ?_
    exact (unhide R8).1
end Go.Proofs.Ytkikfdbjfhgfoaa
