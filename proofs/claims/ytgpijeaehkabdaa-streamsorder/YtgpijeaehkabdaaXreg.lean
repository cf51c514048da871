/-
  DERIVED. A law's statement '_, b, e := x.Try(..)' in whatever order: the two boxes that it makes, the call, the two stores.
-/
import Derived.Test.YtgpijeaehkabdaaXlaw
namespace Go.Proofs.Ytgpijeaehkabdaa
open Go.RowKit Go.Maps
set_option linter.unusedVariables false

abbrev zApp : Obj := .cells (apV 0 0 0 false) 27
abbrev zBt : Obj := .cells (bt [] [] 0 none 0 0) 30
/-- How far the statement is. -/
structure RSt (wr P : World) (oa ob : Option Nat) : Prop where
  bel : Below wr.heap.size wr P
  a : ∀ ab, oa = some ab → P.heap[ab]? = some (.cells (apV 0 0 0 false) 27 (0, 0)) ∧ wr.heap.size ≤ ab
  b : ∀ bb, ob = some bb → P.heap[bb]? = some (.cells (bt [] [] 0 none 0 0) 30 (0, 0)) ∧ wr.heap.size ≤ bb
theorem RSt.start (wr : World) : RSt wr wr.drew none none := ⟨(Below.refl _ _).drew, fun _ h => (by cases h), fun _ h => (by cases h)⟩
theorem RSt.next {wr P P' : World} {oa ob : Option Nat} (h : RSt wr P oa ob) (hb : Below P.heap.size P P') : RSt wr P' oa ob :=
  ⟨h.bel.trans (hb.mono h.bel.size), fun ab e => ⟨(hb.block ab (lt_of_block (h.a ab e).1)).trans (h.a ab e).1, (h.a ab e).2⟩, fun bb e => ⟨(hb.block bb (lt_of_block (h.b bb e).1)).trans (h.b bb e).1, (h.b bb e).2⟩⟩
theorem RSt.allocA {wr P : World} {ob : Option Nat} (h : RSt wr P none ob) : RSt wr (P.alloc zApp) (some P.heap.size) ob := by
  have k := h.next ((Below.refl P.heap.size P).alloc (Nat.le_refl _) zApp)
  exact ⟨k.bel, fun ab e => by cases e; exact ⟨heap_alloc_self _ _, h.bel.size⟩, k.b⟩
theorem RSt.allocB {wr P : World} {oa : Option Nat} (h : RSt wr P oa none) : RSt wr (P.alloc zBt) oa (some P.heap.size) := by
  have k := h.next ((Below.refl P.heap.size P).alloc (Nat.le_refl _) zBt)
  exact ⟨k.bel, k.a, fun ab e => by cases e; exact ⟨heap_alloc_self _ _, h.bel.size⟩⟩

theorem RSt.abox {wr P : World} {ob : Option Nat} {ab : Nat} (h : RSt wr P (some ab) ob) : ABox P ab 0 0 0 false := (h.a ab rfl).1
theorem RSt.alt {wr P : World} {ob : Option Nat} {ab : Nat} (h : RSt wr P (some ab) ob) : ab < P.heap.size := lt_of_block (h.a ab rfl).1
theorem RSt.bbox {wr P : World} {oa : Option Nat} {bb : Nat} (h : RSt wr P oa (some bb)) : BBox P bb [] [] 0 (.slice none 0 0) := (h.b bb rfl).1
theorem alloc_two (w : World) (o : Obj) : (w.alloc o).heap.size = w.heap.size + 1 := by simp

/-- The world behind the two stores. -/
abbrev stored (P : World) (ab bb : Nat) (f p c : Int) (t : Bool) (s k : List UInt8) (fi : Int) (v : Value) : World :=
  ((((((((P.setCell ⟨ab, 0, none⟩ (.int .i64 f)).setCell ⟨ab, 1, none⟩ (.int .i64 p)).setCell ⟨ab, 2, none⟩ (.int .i64 c)).setCell ⟨ab, 3, none⟩ (.bool t)).setCell ⟨bb, 0, none⟩ (sv s)).setCell ⟨bb, 1, none⟩ (sv k)).setCell ⟨bb, 2, none⟩ (.int .i64 fi)).setCell ⟨bb, 3, none⟩ v)
theorem stored_far (P : World) {ab bb q : Nat} (f p c : Int) (t : Bool) (s k : List UInt8) (fi : Int) (v : Value) (h0 : q ≠ ab) (h1 : q ≠ bb) : (stored P ab bb f p c t s k fi v).heap[q]? = P.heap[q]? := by
  rw [heap_setCell_other _ ⟨bb, 3, none⟩ _ _ h1, heap_setCell_other _ ⟨bb, 2, none⟩ _ _ h1, heap_setCell_other _ ⟨bb, 1, none⟩ _ _ h1, heap_setCell_other _ ⟨bb, 0, none⟩ _ _ h1, heap_setCell_other _ ⟨ab, 3, none⟩ _ _ h0, heap_setCell_other _ ⟨ab, 2, none⟩ _ _ h0, heap_setCell_other _ ⟨ab, 1, none⟩ _ _ h0, heap_setCell_other _ ⟨ab, 0, none⟩ _ _ h0]

theorem RSt.stored {wr P : World} {ab bb : Nat} (h : RSt wr P (some ab) (some bb)) (f p c : Int) (t : Bool) (s k : List UInt8) (fi : Int) (v : Value) :
    ABox (stored P ab bb f p c t s k fi v) ab f p c t ∧ BBox (stored P ab bb f p c t s k fi v) bb s k fi v ∧ Below wr.heap.size wr (Go.Proofs.Ytgpijeaehkabdaa.stored P ab bb f p c t s k fi v) ∧ ab ≠ bb ∧ wr.heap.size ≤ ab ∧ wr.heap.size ≤ bb := by
  obtain ⟨ha, ha2⟩ := h.a ab rfl
  obtain ⟨hb, hb2⟩ := h.b bb rfl
  have hne : bb ≠ ab := mark_ne ha hb (by decide)
  have a0 : ABox P ab 0 0 0 false := ha
  have b0 : BBox P bb [] [] 0 (.slice none 0 0) := hb
  exact ⟨(a0.put f p c t).other (fun e => hne e.symm) s k fi v, (b0.other hne f p c t).put s k fi v, below_putB (below_put h.bel ha2 f p c t) hb2 s k fi v, fun e => hne e.symm, ha2, hb2⟩

/-- What the statement leaves: the answer's box, the batch's, the error. -/
def TrR (w wr : World) (G : Nat → Prop) (x N : Nat) (I : Ix) (s k : List UInt8) (es : List Evn) (t19 t20 t21 : Value) (wx : World) : Prop :=
  ∃ ab bb, t19 = .pointer (some ⟨ab, 0, none⟩) ∧ t20 = .pointer (some ⟨bb, 0, none⟩) ∧ ((tryOk I s (-1) k es ∧ t21 = .int .i64 0 ∧ ∃ q, BBox wx bb s k (I.ver s : Nat) (.slice (some ⟨q, 0, none⟩) es.length es.length) ∧ Held w wx (fun q => G q ∨ q = bb ∨ q = ab) x N I q es.length es ∧ 1 ≤ es.length) ∨ (¬ tryOk I s (-1) k es ∧ BBox wx bb [] [] 0 (.slice none 0 0) ∧ LSt w wx G x N I ∧ ∃ err : Int, t21 = .int .i64 err)) ∧ ∀ q, G q → wx.heap[q]? = wr.heap[q]?

theorem TrR.ok {w wr P V V1 : World} {G : Nat → Prop} {x N : Nat} {I : Ix} {s k : List UInt8} {es : List Evn} {ab bb q : Nat} {ys : List (Evn × Nat)} (st : LSt w wr G x N I) (hgl : ∀ q, G q → q < wr.heap.size) (h : RSt wr P (some ab) (some bb)) (hok : tryOk I s (-1) k es) (hV : wr.heap.size ≤ V.heap.size) (g : Got V V1 q es ys) (hP : Below V1.heap.size V1 P) (f p c : Int) (t : Bool) :
    TrR w wr G x N I s k es (.pointer (some ⟨ab, 0, none⟩)) (.pointer (some ⟨bb, 0, none⟩)) (.int .i64 0) (stored P ab bb f p c t s k (I.ver s : Nat) (.slice (some ⟨q, 0, none⟩) es.length es.length)) := by
  obtain ⟨h1, h2, h3, h4, h5, h6⟩ := h.stored f p c t s k (I.ver s : Nat) (.slice (some ⟨q, 0, none⟩) es.length es.length)
  have bP : EvBlk P q es.length ys := g.blk.same (hP.block q g.blk.lt) (fun y hy => hP.block y.2 (g.blk.2 y hy).1.lt)
  have ha := (h.a ab rfl).1
  have hb := (h.b bb rfl).1
  have bS : EvBlk (Go.Proofs.Ytgpijeaehkabdaa.stored P ab bb f p c t s k (I.ver s : Nat) (.slice (some ⟨q, 0, none⟩) es.length es.length)) q es.length ys :=
    bP.same (stored_far P f p c t s k _ _ (bP.kind ha (by decide)) (bP.kind hb (by decide))) (fun y hy => stored_far P f p c t s k _ _ ((bP.2 y hy).1.kind ha (by decide)) ((bP.2 y hy).1.kind hb (by decide)))
  have hd := st.held h3 bS g.evs (fun y hy => by have := g.new y hy; omega) (by have := g.hq; omega) hok.2.2.1.2.1
  refine ⟨ab, bb, rfl, rfl, .inl ⟨hok, rfl, q, h2, hd.less (fun z hz => ?_), hok.2.2.1.1⟩, fun z hz => h3.block z (hgl z hz)⟩
  rcases hz with hz | hz | hz
  · exact .inl hz
  · exact .inr (by omega)
  · exact .inr (by omega)
theorem TrR.bad {w wr P : World} {G : Nat → Prop} {x N : Nat} {I : Ix} {s k : List UInt8} {es : List Evn} {ab bb : Nat} (st : LSt w wr G x N I) (hgl : ∀ q, G q → q < wr.heap.size) (h : RSt wr P (some ab) (some bb)) (hok : ¬ tryOk I s (-1) k es) (f p c : Int) (t : Bool) (err : Int) :
    TrR w wr G x N I s k es (.pointer (some ⟨ab, 0, none⟩)) (.pointer (some ⟨bb, 0, none⟩)) (.int .i64 err) (stored P ab bb f p c t [] [] 0 (.slice none 0 0)) := by
  obtain ⟨h1, h2, h3, h4, h5, h6⟩ := h.stored f p c t [] [] 0 (.slice none 0 0)
  exact ⟨ab, bb, rfl, rfl, .inr ⟨hok, h2, (st.grown h3).less (fun z hz => .inl hz), err, rfl⟩, fun z hz => h3.block z (hgl z hz)⟩

theorem TrR.fin {w wr wx : World} {G : Nat → Prop} {x N : Nat} {I : Ix} {s k : List UInt8} {es : List Evn} {ab bb q : Nat} {ys : List (Evn × Nat)} (st : LSt w wr G x N I) (hgl : ∀ q, G q → q < wr.heap.size) (hok : tryOk I s (-1) k es) (hb : Below wr.heap.size wr wx) (hB : BBox wx bb s k (I.ver s : Nat) (.slice (some ⟨q, 0, none⟩) es.length es.length)) (hk : EvBlk wx q es.length ys) (he : ys.map (·.1) = es) (hy : ∀ y ∈ ys, wr.heap.size ≤ y.2) (hq : wr.heap.size ≤ q) (hab : wr.heap.size ≤ ab) (hbb : wr.heap.size ≤ bb) :
    TrR w wr G x N I s k es (.pointer (some ⟨ab, 0, none⟩)) (.pointer (some ⟨bb, 0, none⟩)) (.int .i64 0) wx := by
  refine ⟨ab, bb, rfl, rfl, .inl ⟨hok, rfl, q, hB, (st.held hb hk he hy hq hok.2.2.1.2.1).less (fun z hz => ?_), hok.2.2.1.1⟩, fun z hz => hb.block z (hgl z hz)⟩
  rcases hz with hz | hz | hz
  · exact .inl hz
  · exact .inr (by omega)
  · exact .inr (by omega)
theorem TrR.okAB {w wr V V1 : World} {G : Nat → Prop} {x N : Nat} {I : Ix} {s k : List UInt8} {es : List Evn} {q : Nat} {ys : List (Evn × Nat)} (st : LSt w wr G x N I) (hgl : ∀ q, G q → q < wr.heap.size) (h : Below wr.heap.size wr V1) (hok : tryOk I s (-1) k es) (hV : wr.heap.size ≤ V.heap.size) (g : Got V V1 q es ys) (f p c : Int) (t : Bool) :
    TrR w wr G x N I s k es (.pointer (some ⟨V1.heap.size, 0, none⟩)) (.pointer (some ⟨V1.heap.size + 1, 0, none⟩)) (.int .i64 0) ((V1.alloc (.cells (apV f p c t) 27)).alloc (.cells (bt s k (I.ver s : Nat) (some ⟨q, 0, none⟩) es.length es.length) 30)) := by
  have hb : Below V1.heap.size V1 ((V1.alloc (.cells (apV f p c t) 27)).alloc (.cells (bt s k (I.ver s : Nat) (some ⟨q, 0, none⟩) es.length es.length) 30)) := ((Below.refl _ _).alloc (Nat.le_refl _) _).alloc (by simp) _
  have hz := h.size
  exact TrR.fin st hgl hok (h.trans (hb.mono hz)) (by unfold BBox; rw [show V1.heap.size + 1 = (V1.alloc (.cells (apV f p c t) 27)).heap.size by simp]; exact heap_alloc_self _ _) (g.blk.same (hb.block q g.blk.lt) (fun y hy => hb.block y.2 (g.blk.2 y hy).1.lt)) g.evs (fun y hy => by have := g.new y hy; omega) (by have := g.hq; omega) (by omega) (by omega)
theorem TrR.okBA {w wr V V1 : World} {G : Nat → Prop} {x N : Nat} {I : Ix} {s k : List UInt8} {es : List Evn} {q : Nat} {ys : List (Evn × Nat)} (st : LSt w wr G x N I) (hgl : ∀ q, G q → q < wr.heap.size) (h : Below wr.heap.size wr V1) (hok : tryOk I s (-1) k es) (hV : wr.heap.size ≤ V.heap.size) (g : Got V V1 q es ys) (f p c : Int) (t : Bool) :
    TrR w wr G x N I s k es (.pointer (some ⟨V1.heap.size + 1, 0, none⟩)) (.pointer (some ⟨V1.heap.size, 0, none⟩)) (.int .i64 0) ((V1.alloc (.cells (bt s k (I.ver s : Nat) (some ⟨q, 0, none⟩) es.length es.length) 30)).alloc (.cells (apV f p c t) 27)) := by
  have hb : Below V1.heap.size V1 ((V1.alloc (.cells (bt s k (I.ver s : Nat) (some ⟨q, 0, none⟩) es.length es.length) 30)).alloc (.cells (apV f p c t) 27)) := ((Below.refl _ _).alloc (Nat.le_refl _) _).alloc (by simp) _
  have hz := h.size
  exact TrR.fin st hgl hok (h.trans (hb.mono hz)) (by unfold BBox; rw [Below.heap_alloc _ _ _ (by simp)]; exact heap_alloc_self _ _) (g.blk.same (hb.block q g.blk.lt) (fun y hy => hb.block y.2 (g.blk.2 y hy).1.lt)) g.evs (fun y hy => by have := g.new y hy; omega) (by have := g.hq; omega) (by omega) (by omega)
theorem TrR.okB {w wr V V1 : World} {G : Nat → Prop} {x N : Nat} {I : Ix} {s k : List UInt8} {es : List Evn} {q bb : Nat} {ys : List (Evn × Nat)} (st : LSt w wr G x N I) (hgl : ∀ q, G q → q < wr.heap.size) (h : RSt wr V1 none (some bb)) (hok : tryOk I s (-1) k es) (hV : wr.heap.size ≤ V.heap.size) (g : Got V V1 q es ys) (f p c : Int) (t : Bool) :
    TrR w wr G x N I s k es (.pointer (some ⟨V1.heap.size, 0, none⟩)) (.pointer (some ⟨bb, 0, none⟩)) (.int .i64 0) (((((V1.alloc (.cells (apV f p c t) 27)).setCell ⟨bb, 0, none⟩ (sv s)).setCell ⟨bb, 1, none⟩ (sv k)).setCell ⟨bb, 2, none⟩ (.int .i64 (I.ver s : Nat))).setCell ⟨bb, 3, none⟩ (.slice (some ⟨q, 0, none⟩) es.length es.length)) := by
  have hb : Below V1.heap.size V1 (V1.alloc (.cells (apV f p c t) 27)) := (Below.refl _ _).alloc (Nat.le_refl _) _
  have hn := h.next hb
  have hz := h.bel.size
  have bP : EvBlk (V1.alloc (.cells (apV f p c t) 27)) q es.length ys := g.blk.same (hb.block q g.blk.lt) (fun y hy => hb.block y.2 (g.blk.2 y hy).1.lt)
  have far : ∀ z, z ≠ bb → (((((V1.alloc (.cells (apV f p c t) 27)).setCell ⟨bb, 0, none⟩ (sv s)).setCell ⟨bb, 1, none⟩ (sv k)).setCell ⟨bb, 2, none⟩ (.int .i64 (I.ver s : Nat))).setCell ⟨bb, 3, none⟩ (.slice (some ⟨q, 0, none⟩) es.length es.length)).heap[z]? = (V1.alloc (.cells (apV f p c t) 27)).heap[z]? := fun z h1 => by
    rw [heap_setCell_other _ ⟨bb, 3, none⟩ _ _ h1, heap_setCell_other _ ⟨bb, 2, none⟩ _ _ h1, heap_setCell_other _ ⟨bb, 1, none⟩ _ _ h1, heap_setCell_other _ ⟨bb, 0, none⟩ _ _ h1]
  have hbb := (hn.b bb rfl)
  exact TrR.fin st hgl hok (below_putB hn.bel hbb.2 s k (I.ver s : Nat) _) (hn.bbox.put s k (I.ver s : Nat) _) (bP.same (far q (bP.kind hbb.1 (by decide))) (fun y hy => far y.2 ((bP.2 y hy).1.kind hbb.1 (by decide)))) g.evs (fun y hy => by have := g.new y hy; omega) (by have := g.hq; omega) hz hbb.2

theorem TrR.finB {w wr wx : World} {G : Nat → Prop} {x N : Nat} {I : Ix} {s k : List UInt8} {es : List Evn} {ab bb : Nat} (st : LSt w wr G x N I) (hgl : ∀ q, G q → q < wr.heap.size) (hok : ¬ tryOk I s (-1) k es) (hb : Below wr.heap.size wr wx) (hB : BBox wx bb [] [] 0 (.slice none 0 0)) (err : Int) :
    TrR w wr G x N I s k es (.pointer (some ⟨ab, 0, none⟩)) (.pointer (some ⟨bb, 0, none⟩)) (.int .i64 err) wx :=
  ⟨ab, bb, rfl, rfl, .inr ⟨hok, hB, (st.grown hb).less (fun z hz => .inl hz), err, rfl⟩, fun z hz => hb.block z (hgl z hz)⟩
theorem TrR.badAB {w wr V1 : World} {G : Nat → Prop} {x N : Nat} {I : Ix} {s k : List UInt8} {es : List Evn} (st : LSt w wr G x N I) (hgl : ∀ q, G q → q < wr.heap.size) (h : Below wr.heap.size wr V1) (hok : ¬ tryOk I s (-1) k es) (f p c : Int) (t : Bool) (err : Int) :
    TrR w wr G x N I s k es (.pointer (some ⟨V1.heap.size, 0, none⟩)) (.pointer (some ⟨V1.heap.size + 1, 0, none⟩)) (.int .i64 err) ((V1.alloc (.cells (apV f p c t) 27)).alloc (.cells (bt [] [] 0 none 0 0) 30)) :=
  TrR.finB st hgl hok ((h.alloc h.size _).alloc (Nat.le_trans h.size (by simp)) _) (by unfold BBox; rw [show V1.heap.size + 1 = (V1.alloc (.cells (apV f p c t) 27)).heap.size by simp]; exact heap_alloc_self _ _) err
theorem TrR.badBA {w wr V1 : World} {G : Nat → Prop} {x N : Nat} {I : Ix} {s k : List UInt8} {es : List Evn} (st : LSt w wr G x N I) (hgl : ∀ q, G q → q < wr.heap.size) (h : Below wr.heap.size wr V1) (hok : ¬ tryOk I s (-1) k es) (f p c : Int) (t : Bool) (err : Int) :
    TrR w wr G x N I s k es (.pointer (some ⟨V1.heap.size + 1, 0, none⟩)) (.pointer (some ⟨V1.heap.size, 0, none⟩)) (.int .i64 err) ((V1.alloc (.cells (bt [] [] 0 none 0 0) 30)).alloc (.cells (apV f p c t) 27)) :=
  TrR.finB st hgl hok ((h.alloc h.size _).alloc (Nat.le_trans h.size (by simp)) _) (by unfold BBox; rw [Below.heap_alloc _ _ _ (by simp)]; exact heap_alloc_self _ _) err
theorem TrR.badB {w wr V1 : World} {G : Nat → Prop} {x N : Nat} {I : Ix} {s k : List UInt8} {es : List Evn} {bb : Nat} (st : LSt w wr G x N I) (hgl : ∀ q, G q → q < wr.heap.size) (h : RSt wr V1 none (some bb)) (hok : ¬ tryOk I s (-1) k es) (f p c : Int) (t : Bool) (err : Int) :
    TrR w wr G x N I s k es (.pointer (some ⟨V1.heap.size, 0, none⟩)) (.pointer (some ⟨bb, 0, none⟩)) (.int .i64 err) (((((V1.alloc (.cells (apV f p c t) 27)).setCell ⟨bb, 0, none⟩ (sv [])).setCell ⟨bb, 1, none⟩ (sv [])).setCell ⟨bb, 2, none⟩ (.int .i64 0)).setCell ⟨bb, 3, none⟩ (.slice none 0 0)) := by
  have hn := h.next ((Below.refl V1.heap.size V1).alloc (Nat.le_refl _) (.cells (apV f p c t) 27))
  exact TrR.finB st hgl hok (below_putB hn.bel (hn.b bb rfl).2 [] [] 0 _) (hn.bbox.put [] [] 0 _) err

theorem keepA {w : World} {o : Obj} {a b c : Addr} {u v t : Value} (h : w.cell? a = some u ∧ w.cell? b = some v ∧ w.cell? c = some t) : (w.alloc o).cell? a = some u ∧ (w.alloc o).cell? b = some v ∧ (w.alloc o).cell? c = some t :=
  ⟨(World.cell?_alloc_some _ _ _ (by rw [h.1]; rfl)).trans h.1, (World.cell?_alloc_some _ _ _ (by rw [h.2.1]; rfl)).trans h.2.1, (World.cell?_alloc_some _ _ _ (by rw [h.2.2]; rfl)).trans h.2.2⟩
theorem keepS {w : World} {g o1 o2 o3 q : Nat} {v0 v1 v2 v3 : Value} {u v t : Value} (hne : g ≠ q) (h : w.cell? ⟨g, o1, none⟩ = some u ∧ w.cell? ⟨g, o2, none⟩ = some v ∧ w.cell? ⟨g, o3, none⟩ = some t) :
    ((((w.setCell ⟨q, 0, none⟩ v0).setCell ⟨q, 1, none⟩ v1).setCell ⟨q, 2, none⟩ v2).setCell ⟨q, 3, none⟩ v3).cell? ⟨g, o1, none⟩ = some u ∧ ((((w.setCell ⟨q, 0, none⟩ v0).setCell ⟨q, 1, none⟩ v1).setCell ⟨q, 2, none⟩ v2).setCell ⟨q, 3, none⟩ v3).cell? ⟨g, o2, none⟩ = some v ∧ ((((w.setCell ⟨q, 0, none⟩ v0).setCell ⟨q, 1, none⟩ v1).setCell ⟨q, 2, none⟩ v2).setCell ⟨q, 3, none⟩ v3).cell? ⟨g, o3, none⟩ = some t := by
  have e : ((((w.setCell ⟨q, 0, none⟩ v0).setCell ⟨q, 1, none⟩ v1).setCell ⟨q, 2, none⟩ v2).setCell ⟨q, 3, none⟩ v3).heap[g]? = w.heap[g]? := by
    rw [heap_setCell_other _ ⟨q, 3, none⟩ _ _ hne, heap_setCell_other _ ⟨q, 2, none⟩ _ _ hne, heap_setCell_other _ ⟨q, 1, none⟩ _ _ hne, heap_setCell_other _ ⟨q, 0, none⟩ _ _ hne]
  generalize ((((w.setCell ⟨q, 0, none⟩ v0).setCell ⟨q, 1, none⟩ v1).setCell ⟨q, 2, none⟩ v2).setCell ⟨q, 3, none⟩ v3) = W at e ⊢
  exact ⟨(World.cell?_of_block e).trans h.1, (World.cell?_of_block e).trans h.2.1, (World.cell?_of_block e).trans h.2.2⟩
end Go.Proofs.Ytgpijeaehkabdaa
