/-
  DERIVED. The reader of a batch: events in a block that was made for them; a batch.
-/
import Derived.Test.YtkikfdbjfhgfoaaRdr3
namespace Go.Proofs.Ytkikfdbjfhgfoaa
open Go.RowKit
set_option linter.unusedVariables false

/-- A block of room for n events, the first of which are these; each with the block of its fields. -/
def EvBlk (w : World) (q n : Nat) (xs : List (Evn × Nat)) : Prop := (∃ cs : Array Value, w.heap[q]? = some (.cells cs 59 (0, 0)) ∧ cs.size = n * 3 ∧ xs.length ≤ n ∧ ∀ i, (h : i < xs.length) → cs[i * 3]? = some (sv xs[i].1.type) ∧ cs[i * 3 + 1]? = some (.int .i64 xs[i].1.ver) ∧ cs[i * 3 + 2]? = some (.slice (some ⟨xs[i].2, 0, none⟩) xs[i].1.fields.length xs[i].1.fields.length)) ∧ ∀ x ∈ xs, FdBlk w x.2 x.1.fields.length x.1.fields ∧ x.1.fields.length ≤ 16
theorem EvBlk.lt {w : World} {q n : Nat} {xs : List (Evn × Nat)} (h : EvBlk w q n xs) : q < w.heap.size := by obtain ⟨⟨cs, h1, _⟩, _⟩ := h; exact lt_of_block h1
theorem EvBlk.same {w w' : World} {q n : Nat} {xs : List (Evn × Nat)} (h : EvBlk w q n xs) (e : w'.heap[q]? = w.heap[q]?) (e2 : ∀ x ∈ xs, w'.heap[x.2]? = w.heap[x.2]?) : EvBlk w' q n xs := by
  obtain ⟨⟨cs, h1, h2⟩, h3⟩ := h
  exact ⟨⟨cs, e.trans h1, h2⟩, fun x hx => ⟨(h3 x hx).1.same (e2 x hx), (h3 x hx).2⟩⟩
theorem EvBlk.kind {w : World} {q n b : Nat} {xs : List (Evn × Nat)} {cs : Array Value} {t : TypeId} {fr : Nat × Nat} (h : EvBlk w q n xs) (hb : w.heap[b]? = some (.cells cs t fr)) (ht : t ≠ 59) : q ≠ b := by
  intro e
  subst e
  obtain ⟨⟨cs', h1, _⟩, _⟩ := h
  rw [h1] at hb
  simp only [Option.some.injEq, Obj.cells.injEq] at hb
  exact ht hb.2.1.symm
theorem EvBlk.fld {w : World} {q n : Nat} {xs : List (Evn × Nat)} (h : EvBlk w q n xs) : ∀ x ∈ xs, x.2 ≠ q := fun x hx => by
  obtain ⟨⟨cs, h1, _⟩, h3⟩ := h
  exact (h3 x hx).1.kind h1 (by decide)
theorem EvBlk.evl {w : World} {q n : Nat} {xs : List (Evn × Nat)} (h : EvBlk w q n xs) (hn : xs.length = n) (hm : n ≤ 16) : EvL w (.slice (some ⟨q, 0, none⟩) n n) (xs.map (·.1)) := by
  have hl := h.lt
  obtain ⟨⟨cs, h1, h2, h3, h4⟩, h5⟩ := h
  have hlen : (xs.map (·.1)).length = n := by rw [List.length_map, hn]
  refine ⟨_, n, by rw [hlen], by omega, by omega, fun _ => ⟨q, 0, rfl, hl, fun i hi => ?_⟩⟩
  have hi' : i < xs.length := by rw [hlen] at hi; omega
  obtain ⟨a0, a1, a2⟩ := h4 i hi'
  have he : (xs.map (·.1))[i] = xs[i].1 := by simp
  rw [Nat.zero_add, he]
  obtain ⟨q1, q2⟩ := h5 xs[i] (List.getElem_mem hi')
  exact ⟨(cell_of_row _ _ _ _ _ _ h1).trans a0, (cell_of_row _ _ _ _ _ _ h1).trans a1, _, _, _, (cell_of_row _ _ _ _ _ _ h1).trans a2, q1.fdl rfl (by omega)⟩
theorem EvBlk.room {w : World} {q n : Nat} {xs : List (Evn × Nat)} (h : EvBlk w q n xs) (hl : xs.length < n) (j : Nat) (hj : j < 3) : (∃ v, w.cell? ⟨q, xs.length * 3 + j, none⟩ = some v) ∧ w.frozen? ⟨q, xs.length * 3 + j, none⟩ = false := by
  obtain ⟨⟨cs, h1, h2, h3, h4⟩, _⟩ := h
  have hlt : xs.length * 3 + j < cs.size := by omega
  exact ⟨⟨cs[xs.length * 3 + j], (cell_of_row _ _ _ _ _ _ h1).trans (Array.getElem?_eq_getElem hlt)⟩, by simp [World.frozen?, h1]⟩
theorem EvBlk.put {w : World} {q n : Nat} {xs : List (Evn × Nat)} (h : EvBlk w q n xs) (hl : xs.length < n) (t : List UInt8) (ver : Int) (fb m : Nat) (fs : List Fld) (hf : FdBlk w fb m fs) (hm : fs.length = m) (hm2 : m ≤ 16) : EvBlk (((w.setCell ⟨q, xs.length * 3, none⟩ (sv t)).setCell ⟨q, xs.length * 3 + 1, none⟩ (.int .i64 ver)).setCell ⟨q, xs.length * 3 + 2, none⟩ (.slice (some ⟨fb, 0, none⟩) m m)) q n (xs ++ [(⟨t, ver, fs⟩, fb)]) := by
  have hfl := h.fld
  obtain ⟨⟨cs, h1, h2, h3, h4⟩, h5⟩ := h
  have hfq : fb ≠ q := hf.kind h1 (by decide)
  have e1 := heap_setCell_same w q (xs.length * 3) _ _ (sv t) h1
  have e2 := heap_setCell_same _ q (xs.length * 3 + 1) _ _ (.int .i64 ver) e1
  have e3 := heap_setCell_same _ q (xs.length * 3 + 2) _ _ (.slice (some ⟨fb, 0, none⟩) m m) e2
  have ho : ∀ p, p ≠ q → (((w.setCell ⟨q, xs.length * 3, none⟩ (sv t)).setCell ⟨q, xs.length * 3 + 1, none⟩ (.int .i64 ver)).setCell ⟨q, xs.length * 3 + 2, none⟩ (.slice (some ⟨fb, 0, none⟩) m m)).heap[p]? = w.heap[p]? := fun p hp => by
    rw [heap_setCell_other _ _ _ _ hp, heap_setCell_other _ _ _ _ hp, heap_setCell_other _ _ _ _ hp]
  refine ⟨⟨_, e3, by simp [h2], by simp; omega, fun i hi => ?_⟩, fun x hx => ?_⟩
  · simp only [Array.getElem?_setIfInBounds, Array.size_setIfInBounds]
    by_cases hlt : i < xs.length
    · rw [List.getElem_append_left hlt]
      obtain ⟨a0, a1, a2⟩ := h4 i hlt
      refine ⟨?_, ?_, ?_⟩
      · rw [if_neg (by omega), if_neg (by omega), if_neg (by omega)]; exact a0
      · rw [if_neg (by omega), if_neg (by omega), if_neg (by omega)]; exact a1
      · rw [if_neg (by omega), if_neg (by omega), if_neg (by omega)]; exact a2
    · have hi' : i = xs.length := by simp at hi; omega
      subst hi'
      have hf' : (xs ++ [((⟨t, ver, fs⟩ : Evn), fb)])[xs.length] = (⟨t, ver, fs⟩, fb) := by simp
      rw [hf']
      refine ⟨?_, ?_, ?_⟩
      · rw [if_neg (by omega), if_neg (by omega), if_pos rfl, if_pos (by omega)]
      · rw [if_neg (by omega), if_pos rfl, if_pos (by omega)]
      · rw [if_pos rfl, if_pos (by omega), hm]
  · rcases List.mem_append.1 hx with h' | h'
    · exact ⟨(h5 x h').1.same (ho _ (hfl x h')), (h5 x h').2⟩
    · rw [List.mem_singleton.1 h']
      show FdBlk _ fb fs.length fs ∧ fs.length ≤ 16
      rw [hm]
      exact ⟨hf.same (ho _ hfq), hm2⟩
theorem infoEvent : (Try.prog.info? 59).map (fun i => (i.zero, i.size, i.bytes)) = some (some (.agg (ev [] 0 none 0 0)), 3, 48) := by kernel_rfl
theorem make_events (w : World) (n : Nat) (hn : n ≤ 16) : ∃ w', (Instr.makeSlice 23 (.int .i64 (n : Int)) (.int .i64 (n : Int))).run Try.prog w = .ok (.slice (some ⟨w.heap.size, 0, none⟩) n n) w' ∧ EvBlk w' w.heap.size n [] ∧ w.grownBy w' none := by
  obtain ⟨i, hi, hh⟩ := Option.map_eq_some_iff.1 infoEvent
  simp only [Prod.mk.injEq] at hh
  have h := run_make (P := Try.prog) w 23 59 i _ Try.underlying23 hi hh.1 .i64 .i64 n n (by omega) (Int.le_refl _) (by rw [hh.2.2]; omega) (by omega)
  rw [hh.2.1, Int.toNat_natCast] at h
  exact ⟨_, h, ⟨⟨_, heap_alloc_self _ _, size_madeCells _ _, Nat.zero_le _, fun i hi => by simp at hi⟩, fun x hx => by simp at hx⟩, World.grownBy_alloc _ _ _⟩

/-- A batch in a block of its own. -/
def BBox (w : World) (q : Nat) (s k : List UInt8) (fi : Int) (v : Value) : Prop := w.heap[q]? = some (.cells #[sv s, sv k, .int .i64 fi, v] 25 (0, 0))
theorem BBox.cells {w : World} {q : Nat} {s k : List UInt8} {fi : Int} {v : Value} (h : BBox w q s k fi v) : w.cell? ⟨q, 0, none⟩ = some (sv s) ∧ w.cell? ⟨q, 1, none⟩ = some (sv k) ∧ w.cell? ⟨q, 2, none⟩ = some (.int .i64 fi) ∧ w.cell? ⟨q, 3, none⟩ = some v ∧ ∀ i, w.frozen? ⟨q, i, none⟩ = false :=
  ⟨(cell_of_row _ _ _ _ _ _ h).trans rfl, (cell_of_row _ _ _ _ _ _ h).trans rfl, (cell_of_row _ _ _ _ _ _ h).trans rfl, (cell_of_row _ _ _ _ _ _ h).trans rfl, fun i => by simp [World.frozen?, show w.heap[q]? = _ from h]⟩
theorem BBox.set0 {w : World} {q : Nat} {s k : List UInt8} {fi : Int} {v : Value} (h : BBox w q s k fi v) (x : List UInt8) : BBox (w.setCell ⟨q, 0, none⟩ (sv x)) q x k fi v := by unfold BBox; rw [heap_setCell_same w q 0 _ _ _ h]; rfl
theorem BBox.set1 {w : World} {q : Nat} {s k : List UInt8} {fi : Int} {v : Value} (h : BBox w q s k fi v) (x : List UInt8) : BBox (w.setCell ⟨q, 1, none⟩ (sv x)) q s x fi v := by unfold BBox; rw [heap_setCell_same w q 1 _ _ _ h]; rfl
theorem BBox.set2 {w : World} {q : Nat} {s k : List UInt8} {fi : Int} {v : Value} (h : BBox w q s k fi v) (x : Int) : BBox (w.setCell ⟨q, 2, none⟩ (.int .i64 x)) q s k x v := by unfold BBox; rw [heap_setCell_same w q 2 _ _ _ h]; rfl
theorem BBox.set3 {w : World} {q : Nat} {s k : List UInt8} {fi : Int} {v : Value} (h : BBox w q s k fi v) (x : Value) : BBox (w.setCell ⟨q, 3, none⟩ x) q s k fi x := by unfold BBox; rw [heap_setCell_same w q 3 _ _ _ h]; rfl
theorem BBox.same {w w' : World} {q : Nat} {s k : List UInt8} {fi : Int} {v : Value} (h : BBox w q s k fi v) (e : w'.heap[q]? = w.heap[q]?) : BBox w' q s k fi v := e.trans h
theorem sizeBatch : (Try.prog.info? 25).map (·.size) = some 4 := by kernel_rfl

/-- A batch that may be laid. -/
def goodB (y : Bat) : Prop := okBatch y ∧ ∀ e ∈ y.events, okEv e ∧ ∀ f ∈ e.fields, fitN f
def BatPost (w0 w : World) (b : Nat) (l : List UInt8) (o : Ending) (w' : World) : Prop := ∃ (s k : List UInt8) (fi : Int) (q n : Nat) (xs : List (Evn × Nat)), o = .returned (.agg (bt s k fi (some ⟨q, 0, none⟩) n n)) ∧ w0.grownBy w' none ∧ w.grownBy w' (some b) ∧ EvBlk w' q n xs ∧ xs.length = n ∧ n ≤ 16 ∧ s.length ≤ 60 ∧ (∀ e ∈ xs.map (·.1), fitE e) ∧ ∀ y, l = layBt y → goodB y → (⟨s, k, fi, xs.map (·.1)⟩ : Bat) = y
/-- Where the loop over the events stands. -/
structure BtSt (w0 w W : World) (b qb n k : Nat) (l s ky : List UInt8) (fi : Nat) (xs : List (Evn × Nat)) (l' : List UInt8) : Prop where
  rb : RB w0 w W b (w.heap.size + 1) l'
  box : BBox W (w.heap.size + 1) s ky fi (.slice (some ⟨qb, 0, none⟩) n n)
  res : BBox W w.heap.size [] [] 0 (.slice none 0 0)
  blk : EvBlk W qb n xs
  new : w.heap.size ≤ qb
  len : xs.length = k
  fit : ∀ x ∈ xs, fitE x.1
  back : ∀ y, l = layBt y → goodB y → s = y.stream ∧ ky = y.key ∧ (fi : Int) = y.first ∧ n = y.events.length ∧ xs.map (·.1) = y.events.take k ∧ l' = laysL layEv (y.events.drop k)
theorem BtSt.drew {w0 w W : World} {b qb n k : Nat} {l s ky : List UInt8} {fi : Nat} {xs : List (Evn × Nat)} {l' : List UInt8} (h : BtSt w0 w W b qb n k l s ky fi xs l') : BtSt w0 w W.drew b qb n k l s ky fi xs l' :=
  { h with rb := ⟨h.rb.at_.kept ⟨rfl, rfl, rfl, Nat.le_refl _, fun _ _ _ => rfl⟩, ⟨h.rb.grown.os, h.rb.grown.tape, h.rb.grown.output, h.rb.grown.size, h.rb.grown.block⟩, h.rb.newQ, h.rb.newB⟩, box := h.box, res := h.res, blk := h.blk.same rfl fun _ _ => rfl }
theorem BtSt.step {w0 w W W' : World} {b qb n k : Nat} {l s ky : List UInt8} {fi : Nat} {xs : List (Evn × Nat)} {l' l2 : List UInt8} (h : BtSt w0 w W b qb n k l s ky fi xs l') (hk : k < n) (t : List UInt8) (ver : Int) (fb m : Nat) (fs : List Fld) (hr : RrAt w0 W' b l2) (hg : W.grownBy W' (some b)) (hf : FdBlk W' fb m fs) (hm : fs.length = m) (hm2 : m ≤ 16) (hfit : fitE ⟨t, ver, fs⟩) (hc : ∀ g r, l' = layEv g ++ r → okEv g → (∀ f ∈ g.fields, fitN f) → (⟨t, ver, fs⟩ : Evn) = g ∧ l2 = r) :
    BBox W' (w.heap.size + 1) s ky fi (.slice (some ⟨qb, 0, none⟩) n n) ∧ (∀ j, j < 3 → (∃ v, W'.cell? ⟨qb, k * 3 + j, none⟩ = some v) ∧ W'.frozen? ⟨qb, k * 3 + j, none⟩ = false) ∧
    BtSt w0 w (((W'.setCell ⟨qb, k * 3, none⟩ (sv t)).setCell ⟨qb, k * 3 + 1, none⟩ (.int .i64 ver)).setCell ⟨qb, k * 3 + 2, none⟩ (.slice (some ⟨fb, 0, none⟩) m m)) b qb n (k + 1) l s ky fi (xs ++ [(⟨t, ver, fs⟩, fb)]) l2 := by
  have hlb := lt_of_block h.box
  have hlr := lt_of_block h.res
  have hbw := h.rb.newB
  obtain ⟨rv, hrv⟩ := h.rb.at_.blk
  have hne : qb ≠ b := h.blk.kind hrv (by decide)
  have hbx : W'.heap[w.heap.size + 1]? = W.heap[w.heap.size + 1]? := hg.block _ hlb (fun e => by cases e; omega)
  have hrs : W'.heap[w.heap.size]? = W.heap[w.heap.size]? := hg.block _ hlr (fun e => by cases e; omega)
  have hbk : EvBlk W' qb n xs := h.blk.same (hg.block _ h.blk.lt (fun e => by cases e; exact hne rfl)) (fun x hx => hg.block _ (h.blk.2 x hx).1.lt (fun e => by cases e; exact (h.blk.2 x hx).1.kind hrv (by decide) rfl))
  have hfx : qb ≠ w.heap.size + 1 := h.blk.kind h.box (by decide)
  have hfr : qb ≠ w.heap.size := h.blk.kind h.res (by decide)
  have hlen := h.len
  subst hlen
  refine ⟨h.box.same hbx, fun j hj => hbk.room hk j hj, ?_⟩
  have hset : ∀ (X : World) (i : Nat) (v : Value), RB w0 w X b (w.heap.size + 1) l2 ∧ X.heap[w.heap.size + 1]? = W'.heap[w.heap.size + 1]? ∧ X.heap[w.heap.size]? = W'.heap[w.heap.size]? → RB w0 w (X.setCell ⟨qb, i, none⟩ v) b (w.heap.size + 1) l2 ∧ (X.setCell ⟨qb, i, none⟩ v).heap[w.heap.size + 1]? = W'.heap[w.heap.size + 1]? ∧ (X.setCell ⟨qb, i, none⟩ v).heap[w.heap.size]? = W'.heap[w.heap.size]? := fun X i v ⟨x1, x2, x3⟩ => by
    have y := (show RB w0 w X b qb l2 from ⟨x1.at_, x1.grown, h.new, x1.newB⟩).set i v
    exact ⟨⟨y.at_, y.grown, Nat.le_succ _, y.newB⟩, (heap_setCell_other _ _ _ _ (show w.heap.size + 1 ≠ qb from Ne.symm hfx)).trans x2, (heap_setCell_other _ _ _ _ (show w.heap.size ≠ qb from Ne.symm hfr)).trans x3⟩
  obtain ⟨y1, y2, y3⟩ := hset _ (xs.length * 3 + 2) (.slice (some ⟨fb, 0, none⟩) m m) (hset _ (xs.length * 3 + 1) (.int .i64 ver) (hset W' (xs.length * 3) (sv t) ⟨h.rb.step hr hg, rfl, rfl⟩))
  refine { rb := y1, box := h.box.same (y2.trans hbx), res := h.res.same (y3.trans hrs), blk := hbk.put hk t ver fb m fs hf hm hm2, new := h.new, len := by simp, fit := ?_, back := ?_ }
  · intro g hg'
    rcases List.mem_append.1 hg' with h' | h'
    · exact h.fit g h'
    · rw [List.mem_singleton.1 h']; exact hfit
  · intro y hl hy
    obtain ⟨q1, q2, q3, q4, q5, q6⟩ := h.back y hl hy
    have hkg : xs.length < y.events.length := by omega
    rw [List.drop_eq_getElem_cons hkg] at q6
    simp only [laysL] at q6
    have hmem := List.getElem_mem hkg
    obtain ⟨s1, s2⟩ := hc y.events[xs.length] _ q6 (hy.2 _ hmem).1 (hy.2 _ hmem).2
    refine ⟨q1, q2, q3, q4, ?_, s2⟩
    rw [take_succ_get _ _ hkg, ← q5, ← s1]
    simp
set_option maxHeartbeats 4000000 in
theorem batch_any (w0 w : World) (b : Nat) (l : List UInt8) (h : RrAt w0 w b l) :
    Calls Try.prog 28 #[.pointer (some ⟨b, 0, none⟩)] w (BatPost w0 w b l) := by
  have hbl := h.lt
  have hb1 : w.heap.size + 1 ≠ b := by omega
  obtain ⟨w2, hw2⟩ : ∃ w2, w2 = (w.alloc (.cells (bt [] [] 0 none 0 0) 25)).alloc (.cells (bt [] [] 0 none 0 0) 25) := ⟨_, rfl⟩
  have g2 : w.grownBy w2 none := by rw [hw2]; exact (World.grownBy_alloc _ _ _).trans (World.grownBy_alloc _ _ _)
  have HQ : Hid (RB w0 w w2 b (w.heap.size + 1) l) := hide ⟨h.kept g2, g2.but _, Nat.le_succ _, hbl⟩
  have HF : Hid (BBox w2 (w.heap.size + 1) [] [] 0 (.slice none 0 0)) := hide (by
    rw [hw2]
    have := heap_alloc_self (w.alloc (.cells (bt [] [] 0 none 0 0) 25)) (.cells (bt [] [] 0 none 0 0) 25)
    simpa [BBox] using this)
  have HX : Hid (BBox w2 w.heap.size [] [] 0 (.slice none 0 0)) := hide (by
    unfold BBox; rw [hw2, Below.heap_alloc _ _ _ (by simp)]; exact heap_alloc_self _ _)
  have HW2 := hide hw2
  clear h g2 hw2
  go_enter Try.func28, Try.ntmps28
  go_wp2_with fail
  rw [← unhide HW2]
  refine (text_any w0 w2 b l (unhide HQ).at_ 60 (by decide)).mono ?_
  rintro e w3 ⟨s, l3, rfl, r3, g3, hn3, hc3⟩
  have Q3 := hide (((unhide HQ).step r3 g3).set 0 (sv s))
  have E3 : BBox w3 (w.heap.size + 1) [] [] 0 (.slice none 0 0) := (unhide HF).same (g3.block _ (lt_of_block (unhide HF)) (fun e => by cases e; omega))
  have c3 := E3.cells.1
  have z3 := E3.cells.2.2.2.2 0
  have F3 := hide (E3.set0 s)
  have X3 : Hid (BBox (w3.setCell ⟨w.heap.size + 1, 0, none⟩ (sv s)) w.heap.size [] [] 0 (.slice none 0 0)) := hide ((unhide HX).same ((heap_setCell_other _ _ _ _ (by show w.heap.size ≠ w.heap.size + 1; omega)).trans (g3.block _ (lt_of_block (unhide HX)) (fun e => by cases e; omega))))
  have HC3 := hide hc3
  clear r3 g3 HQ HF HX hc3 HW2 E3
  go_wp2_with fail
  obtain ⟨w4, hw4⟩ : ∃ w4, w4 = w3.setCell ⟨w.heap.size + 1, 0, none⟩ (sv s) := ⟨_, rfl⟩
  rw [← hw4] at Q3 F3 X3 ⊢
  clear hw4 c3 z3
  refine (text_any w0 w4 b l3 (unhide Q3).at_ 60 (by decide)).mono ?_
  rintro e v5 ⟨ky, k5, rfl, r5, g5, hk5, hc5⟩
  have Q4 := hide (((unhide Q3).step r5 g5).set 1 (sv ky))
  have E4 : BBox v5 (w.heap.size + 1) s [] 0 (.slice none 0 0) := (unhide F3).same (g5.block _ (lt_of_block (unhide F3)) (fun e => by cases e; omega))
  have c4 := E4.cells.2.1
  have z4 := E4.cells.2.2.2.2 1
  have F4 := hide (E4.set1 ky)
  have X4 : Hid (BBox (v5.setCell ⟨w.heap.size + 1, 1, none⟩ (sv ky)) w.heap.size [] [] 0 (.slice none 0 0)) := hide ((unhide X3).same ((heap_setCell_other _ _ _ _ (by show w.heap.size ≠ w.heap.size + 1; omega)).trans (g5.block _ (lt_of_block (unhide X3)) (fun e => by cases e; omega))))
  have HC4 := hide hc5
  clear r5 g5 Q3 F3 X3 hc5 E4
  go_wp2_with fail
  obtain ⟨v6, hv6⟩ : ∃ v6, v6 = v5.setCell ⟨w.heap.size + 1, 1, none⟩ (sv ky) := ⟨_, rfl⟩
  rw [← hv6] at Q4 F4 X4 ⊢
  clear hv6 c4 z4
  refine (number_any w0 v6 b k5 (unhide Q4).at_ 1099511627776 (by decide)).mono ?_
  rintro e w5 ⟨fi, l5, rfl, r5, g5, hn5, hc5⟩
  have Q5 := hide (((unhide Q4).step r5 g5).set 2 (.int .i64 (fi : Int)))
  have E5 : BBox w5 (w.heap.size + 1) s ky 0 (.slice none 0 0) := (unhide F4).same (g5.block _ (lt_of_block (unhide F4)) (fun e => by cases e; omega))
  have c5 := E5.cells.2.2.1
  have z5 := E5.cells.2.2.2.2 2
  have F5 := hide (E5.set2 (fi : Int))
  have X5 : Hid (BBox (w5.setCell ⟨w.heap.size + 1, 2, none⟩ (.int .i64 (fi : Int))) w.heap.size [] [] 0 (.slice none 0 0)) := hide ((unhide X4).same ((heap_setCell_other _ _ _ _ (by show w.heap.size ≠ w.heap.size + 1; omega)).trans (g5.block _ (lt_of_block (unhide X4)) (fun e => by cases e; omega))))
  have HC5 := hide hc5
  clear r5 g5 Q4 F4 X4 hc5 E5
  go_wp2_with fail
  obtain ⟨w6, hw6⟩ : ∃ w6, w6 = w5.setCell ⟨w.heap.size + 1, 2, none⟩ (.int .i64 (fi : Int)) := ⟨_, rfl⟩
  rw [← hw6] at Q5 F5 X5 ⊢
  clear hw6 c5 z5
  refine (number_any w0 w6 b l5 (unhide Q5).at_ 16 (by decide)).mono ?_
  rintro e w7 ⟨n, l7, rfl, r7, g7, hn7, hc7⟩
  obtain ⟨w8, mk, fb8, g8⟩ := make_events w7 n hn7
  have s7 := g7.size
  have s5 := lt_of_block (unhide F5)
  have g78 : w6.grownBy w8 (some b) := g7.trans (g8.but _)
  have E8 : BBox w8 (w.heap.size + 1) s ky fi (.slice none 0 0) := (unhide F5).same (g78.block _ (lt_of_block (unhide F5)) (fun e => by cases e; omega))
  have c8 := E8.cells.2.2.2.1
  have z8 := E8.cells.2.2.2.2 3
  have ST : Hid (BtSt w0 w (w8.setCell ⟨w.heap.size + 1, 3, none⟩ (.slice (some ⟨w7.heap.size, 0, none⟩) n n)) b w7.heap.size n 0 l s ky fi [] l7) := hide
    { rb := ((unhide Q5).step (r7.kept g8) g78).set 3 _
      box := E8.set3 _
      res := (unhide X5).same ((heap_setCell_other _ _ _ _ (by show w.heap.size ≠ w.heap.size + 1; omega)).trans (g78.block _ (lt_of_block (unhide X5)) (fun e => by cases e; omega)))
      blk := fb8.same (heap_setCell_other _ _ _ _ (by show w7.heap.size ≠ w.heap.size + 1; omega)) (fun x hx => by simp at hx)
      new := by omega
      len := rfl
      fit := fun f hf => by simp at hf
      back := fun y hl hy => by
        obtain ⟨⟨o1, o2, o3, o4, o5, o6⟩, _⟩ := hy
        unfold layBt at hl
        simp only [List.append_assoc] at hl
        obtain ⟨e1, e2⟩ := unhide HC3 y.stream _ hl (by have := o1.2; omega)
        obtain ⟨d1, d2⟩ := unhide HC4 y.key _ e2 o2
        obtain ⟨e3, e4⟩ := unhide HC5 y.first.toNat _ d2 (by omega)
        obtain ⟨e5, e6⟩ := hc7 y.events.length _ e4 (by omega)
        exact ⟨e1, d1, by omega, e5, by simp, by simpa using e6⟩ }
  have HT3 := hide hn3
  clear r7 g7 fb8 g8 g78 Q5 F5 X5 HC3 HC4 HC5 hc7 E8
  go_wp2_with fail
  obtain ⟨w9, hw9⟩ : ∃ w9, w9 = w8.setCell ⟨w.heap.size + 1, 3, none⟩ (.slice (some ⟨w7.heap.size, 0, none⟩) n n) := ⟨_, rfl⟩
  rw [← hw9] at ST ⊢
  obtain ⟨qb, hfb⟩ : ∃ qb, qb = w7.heap.size := ⟨_, rfl⟩
  rw [← hfb] at ST ⊢
  clear hw9 hfb mk c8 z8
  go_loopw [4, 21] (fun _ i wr => ∃ (k : Nat) (xs : List (Evn × Nat)) (l' : List UInt8), i = .int .i64 (k : Int) ∧ k ≤ n ∧ Hid (BtSt w0 w wr b qb n k l s ky fi xs l')) (fun _ i _ => n - (intOf i).toNat)
  case atStart => exact ⟨0, [], l7, rfl, Nat.zero_le _, ST⟩
  case round =>
    obtain ⟨k, xs, l', rfl, hk, HS⟩ := hrel
    clear ST
    by_cases hlt : k < n
    · have hltI : (k : Int) < (n : Int) := by omega
      have c2 := (unhide HS).box.cells.2.2.2.1
      have HS' := hide ((unhide HS).drew)
      go_wp2_with fail
      go_region_law (first | (go_simp; go_wp2_with (first | (go_at_call 47; refine (event_any w0 _ b l' (unhide HS').rb.at_).mono ?_; rintro e wc ⟨t, ver, fb, m, fs, lc, rfl, rc, gc, f1, f2, f3, f4, f5, fc⟩; have EX := hide ((unhide HS').step hlt t ver fb m fs rc gc f1 f3 f4 f5 fc); have cc := (unhide EX).1.cells.2.2.2.1; obtain ⟨⟨v0, a0⟩, z0⟩ := (unhide EX).2.1 0 (by decide); rw [Nat.add_zero] at a0 z0; obtain ⟨⟨v1, a1⟩, z1⟩ := (unhide EX).2.1 1 (by decide); obtain ⟨⟨v2, a2⟩, z2⟩ := (unhide EX).2.1 2 (by decide); have S2 := hide (unhide EX).2.2; clear EX rc gc f1 f2 f3 f4 f5 fc) | fail)))
      all_goals
        obtain ⟨wz, hwz⟩ : ∃ wz, wz = (((wc.setCell ⟨qb, k * 3, none⟩ (sv t)).setCell ⟨qb, k * 3 + 1, none⟩ (.int .i64 ver)).setCell ⟨qb, k * 3 + 2, none⟩ (.slice (some ⟨fb, 0, none⟩) m m)) := ⟨_, rfl⟩
        rw [← hwz] at S2 ⊢
        clear hwz a0 a1 a2 z0 z1 z2 cc c2 HS HS'
        go_wp2
        go_roundw
        case rel => exact ⟨k + 1, _, _, by go_num, by omega, S2⟩
        case measure => simp [intOf]; omega
    · have hltI : ¬ (k : Int) < (n : Int) := by omega
      obtain rfl : k = n := by omega
      obtain ⟨e0, e1, e2, e3, e4⟩ := (unhide HS).box.cells
      obtain ⟨d0, d1, d2, d3, d4⟩ := (unhide HS).res.cells
      have FIN : Hid (BatPost w0 w b l (.returned (.agg (bt s ky fi (some ⟨qb, 0, none⟩) k k))) ((((wr.setCell ⟨w.heap.size, 0, none⟩ (sv s)).setCell ⟨w.heap.size, 1, none⟩ (sv ky)).setCell ⟨w.heap.size, 2, none⟩ (.int .i64 (fi : Int))).setCell ⟨w.heap.size, 3, none⟩ (.slice (some ⟨qb, 0, none⟩) k k)) ∧ BBox ((((wr.setCell ⟨w.heap.size, 0, none⟩ (sv s)).setCell ⟨w.heap.size, 1, none⟩ (sv ky)).setCell ⟨w.heap.size, 2, none⟩ (.int .i64 (fi : Int))).setCell ⟨w.heap.size, 3, none⟩ (.slice (some ⟨qb, 0, none⟩) k k)) w.heap.size s ky fi (.slice (some ⟨qb, 0, none⟩) k k)) := hide (by
        have S := unhide HS
        have hfr : qb ≠ w.heap.size := S.blk.kind S.res (by decide)
        have hset : ∀ (X : World) (i : Nat) (v : Value), RB w0 w X b w.heap.size l' ∧ (∀ p, p ≠ w.heap.size → X.heap[p]? = wr.heap[p]?) → RB w0 w (X.setCell ⟨w.heap.size, i, none⟩ v) b w.heap.size l' ∧ (∀ p, p ≠ w.heap.size → (X.setCell ⟨w.heap.size, i, none⟩ v).heap[p]? = wr.heap[p]?) := fun X i v ⟨x1, x2⟩ => ⟨x1.set i v, fun p hp => (heap_setCell_other _ _ _ _ (show p ≠ w.heap.size from hp)).trans (x2 p hp)⟩
        obtain ⟨y1, y2⟩ := hset _ 3 (.slice (some ⟨qb, 0, none⟩) k k) (hset _ 2 (.int .i64 (fi : Int)) (hset _ 1 (sv ky) (hset wr 0 (sv s) ⟨⟨S.rb.at_, S.rb.grown, Nat.le_refl _, S.rb.newB⟩, fun _ _ => rfl⟩)))
        refine ⟨⟨s, ky, fi, qb, k, xs, rfl, y1.at_.grown, y1.grown, S.blk.same (y2 qb hfr) (fun x hx => y2 x.2 ((S.blk.2 x hx).1.kind S.res (by decide))), S.len, hn7, unhide HT3, fun e he => ?_, fun y hl hy => ?_⟩, (((S.res.set0 s).set1 _).set2 _).set3 _⟩
        · obtain ⟨x, hx, rfl⟩ := List.mem_map.1 he
          exact S.fit x hx
        · obtain ⟨q1, q2, q3, q4, q5, q6⟩ := S.back y hl hy
          obtain ⟨ys, yk, yf, ye⟩ := y
          simp only at q1 q2 q3 q4 q5 q6
          subst q4
          rw [List.take_of_length_le (Nat.le_refl _)] at q5
          rw [q1, q2, q3, q5])
      clear HS
      go_wp2
      refine bodyPost_ret (results_cell_row rfl _ _ w.heap.size 25 _ (0, 0) _ rfl (unhide FIN).2 Try.underlying25 rfl sizeBatch) rfl ?_
      exact (unhide FIN).1
end Go.Proofs.Ytkikfdbjfhgfoaa
