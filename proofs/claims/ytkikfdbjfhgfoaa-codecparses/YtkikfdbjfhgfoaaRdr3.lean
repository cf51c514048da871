/-
  DERIVED. The reader of a batch: fields in a block that was made for them; an event.
-/
import Derived.Test.YtkikfdbjfhgfoaaRdr2
import Derived.Test.YtkikfdbjfhgfoaaBat
import Derived.Laws.MakeOwn
import Derived.Deep.RegionLaw
namespace Go.Proofs.Ytkikfdbjfhgfoaa
open Go.RowKit
set_option linter.unusedVariables false

/-- A block of room for n fields, the first of which are these. -/
def FdBlk (w : World) (q n : Nat) (fs : List Fld) : Prop := ∃ cs : Array Value, w.heap[q]? = some (.cells cs 62 (0, 0)) ∧ cs.size = n * 4 ∧ fs.length ≤ n ∧ ∀ i, (h : i < fs.length) → cs[i * 4]? = some (sv fs[i].name) ∧ cs[i * 4 + 1]? = some (.bool fs[i].text) ∧ cs[i * 4 + 2]? = some (.int .i64 fs[i].n) ∧ cs[i * 4 + 3]? = some (sv fs[i].s)
theorem FdBlk.lt {w : World} {q n : Nat} {fs : List Fld} (h : FdBlk w q n fs) : q < w.heap.size := by obtain ⟨cs, h1, _⟩ := h; exact lt_of_block h1
theorem FdBlk.same {w w' : World} {q n : Nat} {fs : List Fld} (h : FdBlk w q n fs) (e : w'.heap[q]? = w.heap[q]?) : FdBlk w' q n fs := by obtain ⟨cs, h1, h2⟩ := h; exact ⟨cs, e.trans h1, h2⟩
theorem FdBlk.kind {w : World} {q n b : Nat} {fs : List Fld} {cs : Array Value} {t : TypeId} {fr : Nat × Nat} (h : FdBlk w q n fs) (hb : w.heap[b]? = some (.cells cs t fr)) (ht : t ≠ 62) : q ≠ b := by
  intro e
  subst e
  obtain ⟨cs', h1, _⟩ := h
  rw [h1] at hb
  simp only [Option.some.injEq, Obj.cells.injEq] at hb
  exact ht hb.2.1.symm
theorem RrAt.blk {w0 w : World} {b : Nat} {l : List UInt8} (h : RrAt w0 w b l) : ∃ v, w.heap[b]? = some (.cells #[v] 65 (0, 0)) := by obtain ⟨v, hv, _⟩ := h.ex; exact ⟨v, hv⟩
theorem FdBlk.ne {w0 w : World} {q n b : Nat} {fs : List Fld} {l : List UInt8} (h : FdBlk w q n fs) (hb : RrAt w0 w b l) : q ≠ b := by
  obtain ⟨v, hv⟩ := hb.blk
  exact h.kind hv (by decide)
theorem FdBlk.fdl {w : World} {q n : Nat} {fs : List Fld} (h : FdBlk w q n fs) (hn : fs.length = n) (hm : n ≤ 1000000) : FdL w (.slice (some ⟨q, 0, none⟩) n n) fs := by
  have hl := h.lt
  obtain ⟨cs, h1, h2, h3, h4⟩ := h
  refine ⟨_, n, by rw [hn], by omega, by omega, fun _ => ⟨q, 0, rfl, hl, fun i hi => ?_⟩⟩
  obtain ⟨a0, a1, a2, a3⟩ := h4 i hi
  rw [Nat.zero_add]
  exact ⟨(cell_of_row _ _ _ _ _ _ h1).trans a0, (cell_of_row _ _ _ _ _ _ h1).trans a1, (cell_of_row _ _ _ _ _ _ h1).trans a2, (cell_of_row _ _ _ _ _ _ h1).trans a3⟩
theorem FdBlk.room {w : World} {q n : Nat} {fs : List Fld} (h : FdBlk w q n fs) (hl : fs.length < n) (j : Nat) (hj : j < 4) : (∃ v, w.cell? ⟨q, fs.length * 4 + j, none⟩ = some v) ∧ w.frozen? ⟨q, fs.length * 4 + j, none⟩ = false := by
  obtain ⟨cs, h1, h2, h3, h4⟩ := h
  have hlt : fs.length * 4 + j < cs.size := by omega
  exact ⟨⟨cs[fs.length * 4 + j], (cell_of_row _ _ _ _ _ _ h1).trans (Array.getElem?_eq_getElem hlt)⟩, by simp [World.frozen?, h1]⟩
theorem FdBlk.put {w : World} {q n : Nat} {fs : List Fld} (h : FdBlk w q n fs) (hl : fs.length < n) (f : Fld) : FdBlk ((((w.setCell ⟨q, fs.length * 4, none⟩ (sv f.name)).setCell ⟨q, fs.length * 4 + 1, none⟩ (.bool f.text)).setCell ⟨q, fs.length * 4 + 2, none⟩ (.int .i64 f.n)).setCell ⟨q, fs.length * 4 + 3, none⟩ (sv f.s)) q n (fs ++ [f]) := by
  obtain ⟨cs, h1, h2, h3, h4⟩ := h
  have e1 := heap_setCell_same w q (fs.length * 4) _ _ (sv f.name) h1
  have e2 := heap_setCell_same _ q (fs.length * 4 + 1) _ _ (.bool f.text) e1
  have e3 := heap_setCell_same _ q (fs.length * 4 + 2) _ _ (.int .i64 f.n) e2
  have e4 := heap_setCell_same _ q (fs.length * 4 + 3) _ _ (sv f.s) e3
  refine ⟨_, e4, by simp [h2], by simp; omega, fun i hi => ?_⟩
  simp only [Array.getElem?_setIfInBounds, Array.size_setIfInBounds]
  by_cases hlt : i < fs.length
  · rw [List.getElem_append_left hlt]
    obtain ⟨a0, a1, a2, a3⟩ := h4 i hlt
    refine ⟨?_, ?_, ?_, ?_⟩
    · rw [if_neg (by omega), if_neg (by omega), if_neg (by omega), if_neg (by omega)]; exact a0
    · rw [if_neg (by omega), if_neg (by omega), if_neg (by omega), if_neg (by omega)]; exact a1
    · rw [if_neg (by omega), if_neg (by omega), if_neg (by omega), if_neg (by omega)]; exact a2
    · rw [if_neg (by omega), if_neg (by omega), if_neg (by omega), if_neg (by omega)]; exact a3
  · have hi' : i = fs.length := by simp at hi; omega
    subst hi'
    have hf : (fs ++ [f])[fs.length] = f := by simp
    rw [hf]
    refine ⟨?_, ?_, ?_, ?_⟩
    · rw [if_neg (by omega), if_neg (by omega), if_neg (by omega), if_pos rfl, if_pos (by omega)]
    · rw [if_neg (by omega), if_neg (by omega), if_pos rfl, if_pos (by omega)]
    · rw [if_neg (by omega), if_pos rfl, if_pos (by omega)]
    · rw [if_pos rfl, if_pos (by omega)]
theorem infoField : (Try.prog.info? 62).map (fun i => (i.zero, i.size, i.bytes)) = some (some (.agg (fv ⟨[], false, 0, []⟩)), 4, 48) := by kernel_rfl
theorem make_fields (w : World) (n : Nat) (hn : n ≤ 16) : ∃ w', (Instr.makeSlice 57 (.int .i64 (n : Int)) (.int .i64 (n : Int))).run Try.prog w = .ok (.slice (some ⟨w.heap.size, 0, none⟩) n n) w' ∧ FdBlk w' w.heap.size n [] ∧ w.grownBy w' none := by
  obtain ⟨i, hi, hh⟩ := Option.map_eq_some_iff.1 infoField
  simp only [Prod.mk.injEq] at hh
  have h := run_make (P := Try.prog) w 57 62 i _ Try.underlying57 hi hh.1 .i64 .i64 n n (by omega) (Int.le_refl _) (by rw [hh.2.2]; omega) (by omega)
  rw [hh.2.1, Int.toNat_natCast] at h
  exact ⟨_, h, ⟨_, heap_alloc_self _ _, size_madeCells _ _, Nat.zero_le _, fun i hi => by simp at hi⟩, World.grownBy_alloc _ _ _⟩

/-- An event in a block of its own. -/
def EBox (w : World) (q : Nat) (t : List UInt8) (ver : Int) (v : Value) : Prop := w.heap[q]? = some (.cells #[sv t, .int .i64 ver, v] 59 (0, 0))
theorem EBox.cells {w : World} {q : Nat} {t : List UInt8} {ver : Int} {v : Value} (h : EBox w q t ver v) : w.cell? ⟨q, 0, none⟩ = some (sv t) ∧ w.cell? ⟨q, 1, none⟩ = some (.int .i64 ver) ∧ w.cell? ⟨q, 2, none⟩ = some v ∧ ∀ i, w.frozen? ⟨q, i, none⟩ = false :=
  ⟨(cell_of_row _ _ _ _ _ _ h).trans rfl, (cell_of_row _ _ _ _ _ _ h).trans rfl, (cell_of_row _ _ _ _ _ _ h).trans rfl, fun i => by simp [World.frozen?, show w.heap[q]? = _ from h]⟩
theorem EBox.set0 {w : World} {q : Nat} {t : List UInt8} {ver : Int} {v : Value} (h : EBox w q t ver v) (s : List UInt8) : EBox (w.setCell ⟨q, 0, none⟩ (sv s)) q s ver v := by unfold EBox; rw [heap_setCell_same w q 0 _ _ _ h]; rfl
theorem EBox.set1 {w : World} {q : Nat} {t : List UInt8} {ver : Int} {v : Value} (h : EBox w q t ver v) (n : Int) : EBox (w.setCell ⟨q, 1, none⟩ (.int .i64 n)) q t n v := by unfold EBox; rw [heap_setCell_same w q 1 _ _ _ h]; rfl
theorem EBox.set2 {w : World} {q : Nat} {t : List UInt8} {ver : Int} {v : Value} (h : EBox w q t ver v) (u : Value) : EBox (w.setCell ⟨q, 2, none⟩ u) q t ver u := by unfold EBox; rw [heap_setCell_same w q 2 _ _ _ h]; rfl
theorem EBox.same {w w' : World} {q : Nat} {t : List UInt8} {ver : Int} {v : Value} (h : EBox w q t ver v) (e : w'.heap[q]? = w.heap[q]?) : EBox w' q t ver v := e.trans h
theorem sizeEvent : (Try.prog.info? 59).map (·.size) = some 3 := by kernel_rfl

def EvnPost (w0 w : World) (b : Nat) (l : List UInt8) (o : Ending) (w' : World) : Prop := ∃ (t : List UInt8) (ver : Int) (q n : Nat) (fs : List Fld) (l' : List UInt8), o = .returned (.agg (ev t ver (some ⟨q, 0, none⟩) n n)) ∧ RrAt w0 w' b l' ∧ w.grownBy w' (some b) ∧ FdBlk w' q n fs ∧ w.heap.size ≤ q ∧ fs.length = n ∧ n ≤ 16 ∧ fitE ⟨t, ver, fs⟩ ∧ ∀ g r, l = layEv g ++ r → okEv g → (∀ f ∈ g.fields, fitN f) → (⟨t, ver, fs⟩ : Evn) = g ∧ l' = r
/-- Where the loop over the fields stands. -/
structure EvSt (w0 w W : World) (b fb n k : Nat) (l : List UInt8) (t : List UInt8) (ver : Nat) (fs : List Fld) (l' : List UInt8) : Prop where
  rb : RB w0 w W b (w.heap.size + 1) l'
  box : EBox W (w.heap.size + 1) t ver (.slice (some ⟨fb, 0, none⟩) n n)
  res : EBox W w.heap.size [] 0 (.slice none 0 0)
  blk : FdBlk W fb n fs
  new : w.heap.size ≤ fb
  len : fs.length = k
  fit : ∀ f ∈ fs, fits f ∧ fitN f
  back : ∀ g r, l = layEv g ++ r → okEv g → (∀ f ∈ g.fields, fitN f) → t = g.type ∧ (ver : Int) = g.ver ∧ n = g.fields.length ∧ fs = g.fields.take k ∧ l' = laysL layFld (g.fields.drop k) ++ r
theorem EvSt.drew {w0 w W : World} {b fb n k : Nat} {l t : List UInt8} {ver : Nat} {fs : List Fld} {l' : List UInt8} (h : EvSt w0 w W b fb n k l t ver fs l') : EvSt w0 w W.drew b fb n k l t ver fs l' :=
  { h with rb := ⟨h.rb.at_.kept ⟨rfl, rfl, rfl, Nat.le_refl _, fun _ _ _ => rfl⟩, ⟨h.rb.grown.os, h.rb.grown.tape, h.rb.grown.output, h.rb.grown.size, h.rb.grown.block⟩, h.rb.newQ, h.rb.newB⟩, box := h.box, res := h.res, blk := h.blk.same rfl }
theorem EvSt.step {w0 w W W' : World} {b fb n k : Nat} {l t : List UInt8} {ver : Nat} {fs : List Fld} {l' l2 : List UInt8} (h : EvSt w0 w W b fb n k l t ver fs l') (hk : k < n) (hn : n ≤ 16) (f : Fld) (hr : RrAt w0 W' b l2) (hg : W.grownBy W' (some b)) (h1 : fits f) (h2 : fitN f) (hc : ∀ g r, l' = layFld g ++ r → okField g → fitN g → f = g ∧ l2 = r) :
    EBox W' (w.heap.size + 1) t ver (.slice (some ⟨fb, 0, none⟩) n n) ∧ (∀ j, j < 4 → (∃ v, W'.cell? ⟨fb, k * 4 + j, none⟩ = some v) ∧ W'.frozen? ⟨fb, k * 4 + j, none⟩ = false) ∧
    EvSt w0 w ((((W'.setCell ⟨fb, k * 4, none⟩ (sv f.name)).setCell ⟨fb, k * 4 + 1, none⟩ (.bool f.text)).setCell ⟨fb, k * 4 + 2, none⟩ (.int .i64 f.n)).setCell ⟨fb, k * 4 + 3, none⟩ (sv f.s)) b fb n (k + 1) l t ver (fs ++ [f]) l2 := by
  have hlb := lt_of_block h.box
  have hlr := lt_of_block h.res
  have hbw := h.rb.newB
  have hne := h.blk.ne h.rb.at_
  have hbx : W'.heap[w.heap.size + 1]? = W.heap[w.heap.size + 1]? := hg.block _ hlb (fun e => by cases e; omega)
  have hrs : W'.heap[w.heap.size]? = W.heap[w.heap.size]? := hg.block _ hlr (fun e => by cases e; omega)
  have hbk : FdBlk W' fb n fs := h.blk.same (hg.block _ h.blk.lt (fun e => by cases e; exact hne rfl))
  have hfx : fb ≠ w.heap.size + 1 := h.blk.kind h.box (by decide)
  have hfr : fb ≠ w.heap.size := h.blk.kind h.res (by decide)
  have hlen := h.len
  subst hlen
  refine ⟨h.box.same hbx, fun j hj => hbk.room hk j hj, ?_⟩
  have hset : ∀ (X : World) (i : Nat) (v : Value), RB w0 w X b (w.heap.size + 1) l2 ∧ X.heap[w.heap.size + 1]? = W'.heap[w.heap.size + 1]? ∧ X.heap[w.heap.size]? = W'.heap[w.heap.size]? → RB w0 w (X.setCell ⟨fb, i, none⟩ v) b (w.heap.size + 1) l2 ∧ (X.setCell ⟨fb, i, none⟩ v).heap[w.heap.size + 1]? = W'.heap[w.heap.size + 1]? ∧ (X.setCell ⟨fb, i, none⟩ v).heap[w.heap.size]? = W'.heap[w.heap.size]? := fun X i v ⟨x1, x2, x3⟩ => by
    have y := (show RB w0 w X b fb l2 from ⟨x1.at_, x1.grown, h.new, x1.newB⟩).set i v
    exact ⟨⟨y.at_, y.grown, Nat.le_succ _, y.newB⟩, (heap_setCell_other _ _ _ _ (show w.heap.size + 1 ≠ fb from Ne.symm hfx)).trans x2, (heap_setCell_other _ _ _ _ (show w.heap.size ≠ fb from Ne.symm hfr)).trans x3⟩
  obtain ⟨y1, y2, y3⟩ := hset _ (fs.length * 4 + 3) (sv f.s) (hset _ (fs.length * 4 + 2) (.int .i64 f.n) (hset _ (fs.length * 4 + 1) (.bool f.text) (hset W' (fs.length * 4) (sv f.name) ⟨h.rb.step hr hg, rfl, rfl⟩)))
  refine { rb := y1, box := h.box.same (y2.trans hbx), res := h.res.same (y3.trans hrs), blk := hbk.put hk f, new := h.new, len := by simp, fit := ?_, back := ?_ }
  · intro g hg'
    rcases List.mem_append.1 hg' with h' | h'
    · exact h.fit g h'
    · rw [List.mem_singleton.1 h']; exact ⟨h1, h2⟩
  · intro g r hl hok hfit
    obtain ⟨q1, q2, q3, q4, q5⟩ := h.back g r hl hok hfit
    have hkg : fs.length < g.fields.length := by omega
    rw [List.drop_eq_getElem_cons hkg] at q5
    simp only [laysL, List.append_assoc] at q5
    obtain ⟨s1, s2⟩ := hc g.fields[fs.length] _ q5 (okAt_field hok.2.2.2.2 _ (List.getElem_mem hkg)) (hfit _ (List.getElem_mem hkg))
    refine ⟨q1, q2, q3, ?_, s2⟩
    rw [take_succ_get _ _ hkg, ← q4, s1]
set_option maxHeartbeats 4000000 in
theorem event_any (w0 w : World) (b : Nat) (l : List UInt8) (h : RrAt w0 w b l) :
    Calls Try.prog 47 #[.pointer (some ⟨b, 0, none⟩)] w (EvnPost w0 w b l) := by
  have hbl := h.lt
  have hb1 : w.heap.size + 1 ≠ b := by omega
  obtain ⟨w2, hw2⟩ : ∃ w2, w2 = (w.alloc (.cells (ev [] 0 none 0 0) 59)).alloc (.cells (ev [] 0 none 0 0) 59) := ⟨_, rfl⟩
  have g2 : w.grownBy w2 none := by rw [hw2]; exact (World.grownBy_alloc _ _ _).trans (World.grownBy_alloc _ _ _)
  have HQ : Hid (RB w0 w w2 b (w.heap.size + 1) l) := hide ⟨h.kept g2, g2.but _, Nat.le_succ _, hbl⟩
  have HF : Hid (EBox w2 (w.heap.size + 1) [] 0 (.slice none 0 0)) := hide (by
    rw [hw2]
    have := heap_alloc_self (w.alloc (.cells (ev [] 0 none 0 0) 59)) (.cells (ev [] 0 none 0 0) 59)
    simpa [EBox] using this)
  have HX : Hid (EBox w2 w.heap.size [] 0 (.slice none 0 0)) := hide (by
    unfold EBox; rw [hw2, Below.heap_alloc _ _ _ (by simp)]; exact heap_alloc_self _ _)
  have HW2 := hide hw2
  clear h g2 hw2
  go_enter Try.func47, Try.ntmps47
  go_wp2_with fail
  rw [← unhide HW2]
  refine (text_any w0 w2 b l (unhide HQ).at_ 60 (by decide)).mono ?_
  rintro e w3 ⟨t, l3, rfl, r3, g3, hn3, hc3⟩
  have Q3 := hide (((unhide HQ).step r3 g3).set 0 (sv t))
  have E3 : EBox w3 (w.heap.size + 1) [] 0 (.slice none 0 0) := (unhide HF).same (g3.block _ (lt_of_block (unhide HF)) (fun e => by cases e; omega))
  have c3 := E3.cells.1
  have z3 := E3.cells.2.2.2 0
  have F3 := hide (E3.set0 t)
  have X3 : Hid (EBox (w3.setCell ⟨w.heap.size + 1, 0, none⟩ (sv t)) w.heap.size [] 0 (.slice none 0 0)) := hide ((unhide HX).same ((heap_setCell_other _ _ _ _ (by show w.heap.size ≠ w.heap.size + 1; omega)).trans (g3.block _ (lt_of_block (unhide HX)) (fun e => by cases e; omega))))
  have HC3 := hide hc3
  clear r3 g3 HQ HF HX hc3 HW2 E3
  go_wp2_with fail
  obtain ⟨w4, hw4⟩ : ∃ w4, w4 = w3.setCell ⟨w.heap.size + 1, 0, none⟩ (sv t) := ⟨_, rfl⟩
  rw [← hw4] at Q3 F3 X3 ⊢
  clear hw4 c3 z3
  refine (number_any w0 w4 b l3 (unhide Q3).at_ 1073741824 (by decide)).mono ?_
  rintro e w5 ⟨ver, l5, rfl, r5, g5, hn5, hc5⟩
  have Q5 := hide (((unhide Q3).step r5 g5).set 1 (.int .i64 (ver : Int)))
  have E5 : EBox w5 (w.heap.size + 1) t 0 (.slice none 0 0) := (unhide F3).same (g5.block _ (lt_of_block (unhide F3)) (fun e => by cases e; omega))
  have c5 := E5.cells.2.1
  have z5 := E5.cells.2.2.2 1
  have F5 := hide (E5.set1 (ver : Int))
  have X5 : Hid (EBox (w5.setCell ⟨w.heap.size + 1, 1, none⟩ (.int .i64 (ver : Int))) w.heap.size [] 0 (.slice none 0 0)) := hide ((unhide X3).same ((heap_setCell_other _ _ _ _ (by show w.heap.size ≠ w.heap.size + 1; omega)).trans (g5.block _ (lt_of_block (unhide X3)) (fun e => by cases e; omega))))
  have HC5 := hide hc5
  clear r5 g5 Q3 F3 X3 hc5 E5
  go_wp2_with fail
  obtain ⟨w6, hw6⟩ : ∃ w6, w6 = w5.setCell ⟨w.heap.size + 1, 1, none⟩ (.int .i64 (ver : Int)) := ⟨_, rfl⟩
  rw [← hw6] at Q5 F5 X5 ⊢
  clear hw6 c5 z5
  refine (number_any w0 w6 b l5 (unhide Q5).at_ 16 (by decide)).mono ?_
  rintro e w7 ⟨n, l7, rfl, r7, g7, hn7, hc7⟩
  obtain ⟨w8, mk, fb8, g8⟩ := make_fields w7 n hn7
  have s7 := g7.size
  have s5 := lt_of_block (unhide F5)
  have g78 : w6.grownBy w8 (some b) := g7.trans (g8.but _)
  have E8 : EBox w8 (w.heap.size + 1) t ver (.slice none 0 0) := (unhide F5).same (g78.block _ (lt_of_block (unhide F5)) (fun e => by cases e; omega))
  have c8 := E8.cells.2.2.1
  have z8 := E8.cells.2.2.2 2
  have ST : Hid (EvSt w0 w (w8.setCell ⟨w.heap.size + 1, 2, none⟩ (.slice (some ⟨w7.heap.size, 0, none⟩) n n)) b w7.heap.size n 0 l t ver [] l7) := hide
    { rb := ((unhide Q5).step (r7.kept g8) g78).set 2 _
      box := E8.set2 _
      res := (unhide X5).same ((heap_setCell_other _ _ _ _ (by show w.heap.size ≠ w.heap.size + 1; omega)).trans (g78.block _ (lt_of_block (unhide X5)) (fun e => by cases e; omega)))
      blk := fb8.same (heap_setCell_other _ _ _ _ (by show w7.heap.size ≠ w.heap.size + 1; omega))
      new := by omega
      len := rfl
      fit := fun f hf => by simp at hf
      back := fun g r hl hok hfit => by
        obtain ⟨o1, o2, o3, o4, o5⟩ := hok
        unfold layEv at hl
        simp only [List.append_assoc] at hl
        obtain ⟨e1, e2⟩ := unhide HC3 g.type _ hl (by have := o1.2; omega)
        obtain ⟨e3, e4⟩ := unhide HC5 g.ver.toNat _ e2 (by omega)
        obtain ⟨e5, e6⟩ := hc7 g.fields.length _ e4 (by omega)
        exact ⟨e1, by omega, e5, by simp, by simpa using e6⟩ }
  have HT3 := hide hn3
  clear r7 g7 fb8 g8 g78 Q5 F5 X5 HC3 HC5 hc7 E8
  go_wp2_with fail
  obtain ⟨w9, hw9⟩ : ∃ w9, w9 = w8.setCell ⟨w.heap.size + 1, 2, none⟩ (.slice (some ⟨w7.heap.size, 0, none⟩) n n) := ⟨_, rfl⟩
  rw [← hw9] at ST ⊢
  obtain ⟨fb, hfb⟩ : ∃ fb, fb = w7.heap.size := ⟨_, rfl⟩
  rw [← hfb] at ST ⊢
  clear hw9 hfb mk c8 z8
  go_loopw [4, 18] (fun _ i wr => ∃ (k : Nat) (fs : List Fld) (l' : List UInt8), i = .int .i64 (k : Int) ∧ k ≤ n ∧ Hid (EvSt w0 w wr b fb n k l t ver fs l')) (fun _ i _ => n - (intOf i).toNat)
  case atStart => exact ⟨0, [], l7, rfl, Nat.zero_le _, ST⟩
  case round =>
    obtain ⟨k, fs, l', rfl, hk, HS⟩ := hrel
    clear ST
    by_cases hlt : k < n
    · have hltI : (k : Int) < (n : Int) := by omega
      have c2 := (unhide HS).box.cells.2.2.1
      have HS' := hide ((unhide HS).drew)
      go_wp2_with fail
      go_region_law (first | (go_simp; go_wp2_with (first | (go_at_call 58; refine (field_any w0 _ b l' (unhide HS').rb.at_).mono ?_; rintro e wc ⟨f, lc, rfl, rc, gc, f1, f2, fc⟩; have EX := hide ((unhide HS').step hlt hn7 f rc gc f1 f2 fc); have cc := (unhide EX).1.cells.2.2.1; obtain ⟨⟨v0, a0⟩, z0⟩ := (unhide EX).2.1 0 (by decide); rw [Nat.add_zero] at a0 z0; obtain ⟨⟨v1, a1⟩, z1⟩ := (unhide EX).2.1 1 (by decide); obtain ⟨⟨v2, a2⟩, z2⟩ := (unhide EX).2.1 2 (by decide); obtain ⟨⟨v3, a3⟩, z3⟩ := (unhide EX).2.1 3 (by decide); have S2 := hide (unhide EX).2.2; clear EX rc gc f1 f2 fc; obtain ⟨fn, ft, fi, fss⟩ := f) | fail)))
      all_goals
        obtain ⟨wz, hwz⟩ : ∃ wz, wz = ((((wc.setCell ⟨fb, k * 4, none⟩ (sv fn)).setCell ⟨fb, k * 4 + 1, none⟩ (.bool ft)).setCell ⟨fb, k * 4 + 2, none⟩ (.int .i64 fi)).setCell ⟨fb, k * 4 + 3, none⟩ (sv fss)) := ⟨_, rfl⟩
        try simp only at S2
        rw [← hwz] at S2 ⊢
        clear hwz a0 a1 a2 a3 z0 z1 z2 z3 cc c2 HS HS'
        go_wp2
        go_roundw
        case rel => exact ⟨k + 1, _, _, by go_num, by omega, S2⟩
        case measure => simp [intOf]; omega
    · have hltI : ¬ (k : Int) < (n : Int) := by omega
      obtain rfl : k = n := by omega
      obtain ⟨e0, e1, e2, e3⟩ := (unhide HS).box.cells
      obtain ⟨d0, d1, d2, d3⟩ := (unhide HS).res.cells
      have FIN : Hid (EvnPost w0 w b l (.returned (.agg (ev t ver (some ⟨fb, 0, none⟩) k k))) (((wr.setCell ⟨w.heap.size, 0, none⟩ (sv t)).setCell ⟨w.heap.size, 1, none⟩ (.int .i64 (ver : Int))).setCell ⟨w.heap.size, 2, none⟩ (.slice (some ⟨fb, 0, none⟩) k k)) ∧ EBox (((wr.setCell ⟨w.heap.size, 0, none⟩ (sv t)).setCell ⟨w.heap.size, 1, none⟩ (.int .i64 (ver : Int))).setCell ⟨w.heap.size, 2, none⟩ (.slice (some ⟨fb, 0, none⟩) k k)) w.heap.size t ver (.slice (some ⟨fb, 0, none⟩) k k)) := hide (by
        have S := unhide HS
        have hfr : fb ≠ w.heap.size := S.blk.kind S.res (by decide)
        have hset : ∀ (X : World) (i : Nat) (v : Value), RB w0 w X b w.heap.size l' ∧ X.heap[fb]? = wr.heap[fb]? → RB w0 w (X.setCell ⟨w.heap.size, i, none⟩ v) b w.heap.size l' ∧ (X.setCell ⟨w.heap.size, i, none⟩ v).heap[fb]? = wr.heap[fb]? := fun X i v ⟨x1, x2⟩ => ⟨x1.set i v, (heap_setCell_other _ _ _ _ (show fb ≠ w.heap.size from hfr)).trans x2⟩
        obtain ⟨y1, y2⟩ := hset _ 2 (.slice (some ⟨fb, 0, none⟩) k k) (hset _ 1 (.int .i64 (ver : Int)) (hset wr 0 (sv t) ⟨⟨S.rb.at_, S.rb.grown, Nat.le_refl _, S.rb.newB⟩, rfl⟩))
        refine ⟨⟨t, ver, fb, k, fs, l', rfl, y1.at_, y1.grown, S.blk.same y2, S.new, S.len, hn7, ⟨by show t.length ≤ _; omega, S.fit⟩, fun g r hl hok hfit => ?_⟩, ((S.res.set0 t).set1 _).set2 _⟩
        obtain ⟨q1, q2, q3, q4, q5⟩ := S.back g r hl hok hfit
        obtain ⟨gt, gv, gf⟩ := g
        simp only at q1 q2 q3 q4 q5
        subst q3
        rw [List.take_of_length_le (Nat.le_refl _)] at q4
        rw [List.drop_eq_nil_of_le (Nat.le_refl _)] at q5
        subst q1 q2 q4
        exact ⟨rfl, by simpa [laysL] using q5⟩)
      clear HS
      go_wp2
      refine bodyPost_ret (results_cell_row rfl _ _ w.heap.size 59 _ (0, 0) _ rfl (unhide FIN).2 Try.underlying59 rfl sizeEvent) rfl ?_
      exact (unhide FIN).1
end Go.Proofs.Ytkikfdbjfhgfoaa
