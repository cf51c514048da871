/-
  DERIVED. A law's statement '_, b, e := x.Try(..)' in whatever order: the two boxes that it makes, the call, the two stores.
-/
import Derived.Test.YtabcmmhmghgliaaXlaw
import Derived.Test.YtabcmmhmghgliaaXsame2
namespace Go.Proofs.Ytabcmmhmghgliaa
open Go.RowKit Go.Maps
set_option linter.unusedVariables false

abbrev zApp : Obj := .cells (apV 0 0 0 false) 44
abbrev zBt : Obj := .cells (bt [] [] 0 none 0 0) 33
/-- How far the statement is. -/
structure RSt (wr P : World) (oa ob : Option Nat) : Prop where
  bel : Below wr.heap.size wr P
  a : ∀ ab, oa = some ab → P.heap[ab]? = some (.cells (apV 0 0 0 false) 44 (0, 0)) ∧ wr.heap.size ≤ ab
  b : ∀ bb, ob = some bb → P.heap[bb]? = some (.cells (bt [] [] 0 none 0 0) 33 (0, 0)) ∧ wr.heap.size ≤ bb
theorem RSt.start (wr : World) : RSt wr wr.drew none none := ⟨(Below.refl _ _).drew, fun _ h => (by cases h), fun _ h => (by cases h)⟩
theorem RSt.next {wr P P' : World} {oa ob : Option Nat} (h : RSt wr P oa ob) (hb : Below P.heap.size P P') : RSt wr P' oa ob :=
  ⟨h.bel.trans (hb.mono h.bel.size), fun ab e => ⟨(hb.block ab (lt_of_block (h.a ab e).1)).trans (h.a ab e).1, (h.a ab e).2⟩, fun bb e => ⟨(hb.block bb (lt_of_block (h.b bb e).1)).trans (h.b bb e).1, (h.b bb e).2⟩⟩
theorem RSt.allocA {wr P : World} {ob : Option Nat} (h : RSt wr P none ob) : RSt wr (P.alloc zApp) (some P.heap.size) ob := by
  have k := h.next ((Below.refl P.heap.size P).alloc (Nat.le_refl _) zApp)
  exact ⟨k.bel, fun ab e => by cases e; exact ⟨heap_alloc_self _ _, h.bel.size⟩, k.b⟩
theorem RSt.allocB {wr P : World} {oa : Option Nat} (h : RSt wr P oa none) : RSt wr (P.alloc zBt) oa (some P.heap.size) := by
  have k := h.next ((Below.refl P.heap.size P).alloc (Nat.le_refl _) zBt)
  exact ⟨k.bel, k.a, fun ab e => by cases e; exact ⟨heap_alloc_self _ _, h.bel.size⟩⟩

theorem RSt.abox {wr P : World} {ob : Option Nat} {ab : Nat} (h : RSt wr P (some ab) ob) : ABox P ab 0 0 0 false := (h.a ab rfl).1
theorem RSt.alt {wr P : World} {ob : Option Nat} {ab : Nat} (h : RSt wr P (some ab) ob) : ab < P.heap.size := lt_of_block (h.a ab rfl).1
theorem RSt.bbox {wr P : World} {oa : Option Nat} {bb : Nat} (h : RSt wr P oa (some bb)) : BBox P bb [] [] 0 (.slice none 0 0) := (h.b bb rfl).1
theorem alloc_two (w : World) (o : Obj) : (w.alloc o).heap.size = w.heap.size + 1 := by simp

/-- The world behind the two stores. -/
abbrev stored (P : World) (ab bb : Nat) (f p c : Int) (t : Bool) (s k : List UInt8) (fi : Int) (v : Value) : World :=
  ((((((((P.setCell ⟨ab, 0, none⟩ (.int .i64 f)).setCell ⟨ab, 1, none⟩ (.int .i64 p)).setCell ⟨ab, 2, none⟩ (.int .i64 c)).setCell ⟨ab, 3, none⟩ (.bool t)).setCell ⟨bb, 0, none⟩ (sv s)).setCell ⟨bb, 1, none⟩ (sv k)).setCell ⟨bb, 2, none⟩ (.int .i64 fi)).setCell ⟨bb, 3, none⟩ v)
theorem stored_far (P : World) {ab bb q : Nat} (f p c : Int) (t : Bool) (s k : List UInt8) (fi : Int) (v : Value) (h0 : q ≠ ab) (h1 : q ≠ bb) : (stored P ab bb f p c t s k fi v).heap[q]? = P.heap[q]? := by
  rw [heap_setCell_other _ ⟨bb, 3, none⟩ _ _ h1, heap_setCell_other _ ⟨bb, 2, none⟩ _ _ h1, heap_setCell_other _ ⟨bb, 1, none⟩ _ _ h1, heap_setCell_other _ ⟨bb, 0, none⟩ _ _ h1, heap_setCell_other _ ⟨ab, 3, none⟩ _ _ h0, heap_setCell_other _ ⟨ab, 2, none⟩ _ _ h0, heap_setCell_other _ ⟨ab, 1, none⟩ _ _ h0, heap_setCell_other _ ⟨ab, 0, none⟩ _ _ h0]

theorem RSt.stored {wr P : World} {ab bb : Nat} (h : RSt wr P (some ab) (some bb)) (f p c : Int) (t : Bool) (s k : List UInt8) (fi : Int) (v : Value) :
    ABox (stored P ab bb f p c t s k fi v) ab f p c t ∧ BBox (stored P ab bb f p c t s k fi v) bb s k fi v ∧ Below wr.heap.size wr (Go.Proofs.Ytabcmmhmghgliaa.stored P ab bb f p c t s k fi v) ∧ ab ≠ bb ∧ wr.heap.size ≤ ab ∧ wr.heap.size ≤ bb := by
  obtain ⟨ha, ha2⟩ := h.a ab rfl
  obtain ⟨hb, hb2⟩ := h.b bb rfl
  have hne : bb ≠ ab := mark_ne ha hb (by decide)
  have a0 : ABox P ab 0 0 0 false := ha
  have b0 : BBox P bb [] [] 0 (.slice none 0 0) := hb
  exact ⟨(a0.put f p c t).other (fun e => hne e.symm) s k fi v, (b0.other hne f p c t).put s k fi v, below_putB (below_put h.bel ha2 f p c t) hb2 s k fi v, fun e => hne e.symm, ha2, hb2⟩

/-- What the statement leaves: the answer's box, the batch's, the error. -/
def TrR (w wr : World) (G : Nat → Prop) (x N : Nat) (I : Ix) (s k : List UInt8) (es : List Evn) (t19 t20 t21 : Value) (wx : World) : Prop :=
  ∃ ab bb, t19 = .pointer (some ⟨ab, 0, none⟩) ∧ t20 = .pointer (some ⟨bb, 0, none⟩) ∧ ((tryOk I s (-1) k es ∧ t21 = .int .i64 0 ∧ ∃ q, BBox wx bb s k (I.ver s : Nat) (.slice (some ⟨q, 0, none⟩) es.length es.length) ∧ Held w wx (fun q => G q ∨ q = bb ∨ q = ab) x N I q es.length es ∧ 1 ≤ es.length) ∨ (¬ tryOk I s (-1) k es ∧ BBox wx bb [] [] 0 (.slice none 0 0) ∧ LSt w wx G x N I ∧ ∃ err : Int, t21 = .int .i64 err)) ∧ ∀ q, G q → wx.heap[q]? = wr.heap[q]?

theorem TrR.ok {w wr P V V1 : World} {G : Nat → Prop} {x N : Nat} {I : Ix} {s k : List UInt8} {es : List Evn} {ab bb q : Nat} {ys : List (Evn × Nat)} (st : LSt w wr G x N I) (hgl : ∀ q, G q → q < wr.heap.size) (h : RSt wr P (some ab) (some bb)) (hok : tryOk I s (-1) k es) (hV : wr.heap.size ≤ V.heap.size) (g : Got V V1 q es ys) (hP : Below V1.heap.size V1 P) (f p c : Int) (t : Bool) :
    TrR w wr G x N I s k es (.pointer (some ⟨ab, 0, none⟩)) (.pointer (some ⟨bb, 0, none⟩)) (.int .i64 0) (stored P ab bb f p c t s k (I.ver s : Nat) (.slice (some ⟨q, 0, none⟩) es.length es.length)) := by
  obtain ⟨h1, h2, h3, h4, h5, h6⟩ := h.stored f p c t s k (I.ver s : Nat) (.slice (some ⟨q, 0, none⟩) es.length es.length)
  have bP : EvBlk P q es.length ys := g.blk.same (hP.block q g.blk.lt) (fun y hy => hP.block y.2 (g.blk.2 y hy).1.lt)
  have ha := (h.a ab rfl).1
  have hb := (h.b bb rfl).1
  have bS : EvBlk (Go.Proofs.Ytabcmmhmghgliaa.stored P ab bb f p c t s k (I.ver s : Nat) (.slice (some ⟨q, 0, none⟩) es.length es.length)) q es.length ys :=
    bP.same (stored_far P f p c t s k _ _ (bP.kind ha (by decide)) (bP.kind hb (by decide))) (fun y hy => stored_far P f p c t s k _ _ ((bP.2 y hy).1.kind ha (by decide)) ((bP.2 y hy).1.kind hb (by decide)))
  have hd := st.held h3 bS g.evs (fun y hy => by have := g.new y hy; omega) (by have := g.hq; omega) hok.2.2.1.2.1
  refine ⟨ab, bb, rfl, rfl, .inl ⟨hok, rfl, q, h2, hd.less (fun z hz => ?_), hok.2.2.1.1⟩, fun z hz => h3.block z (hgl z hz)⟩
  rcases hz with hz | hz | hz
  · exact .inl hz
  · exact .inr (by omega)
  · exact .inr (by omega)
theorem TrR.bad {w wr P : World} {G : Nat → Prop} {x N : Nat} {I : Ix} {s k : List UInt8} {es : List Evn} {ab bb : Nat} (st : LSt w wr G x N I) (hgl : ∀ q, G q → q < wr.heap.size) (h : RSt wr P (some ab) (some bb)) (hok : ¬ tryOk I s (-1) k es) (f p c : Int) (t : Bool) (err : Int) :
    TrR w wr G x N I s k es (.pointer (some ⟨ab, 0, none⟩)) (.pointer (some ⟨bb, 0, none⟩)) (.int .i64 err) (stored P ab bb f p c t [] [] 0 (.slice none 0 0)) := by
  obtain ⟨h1, h2, h3, h4, h5, h6⟩ := h.stored f p c t [] [] 0 (.slice none 0 0)
  exact ⟨ab, bb, rfl, rfl, .inr ⟨hok, h2, (st.grown h3).less (fun z hz => .inl hz), err, rfl⟩, fun z hz => h3.block z (hgl z hz)⟩

theorem TrR.fin {w wr wx : World} {G : Nat → Prop} {x N : Nat} {I : Ix} {s k : List UInt8} {es : List Evn} {ab bb q : Nat} {ys : List (Evn × Nat)} (st : LSt w wr G x N I) (hgl : ∀ q, G q → q < wr.heap.size) (hok : tryOk I s (-1) k es) (hb : Below wr.heap.size wr wx) (hB : BBox wx bb s k (I.ver s : Nat) (.slice (some ⟨q, 0, none⟩) es.length es.length)) (hk : EvBlk wx q es.length ys) (he : ys.map (·.1) = es) (hy : ∀ y ∈ ys, wr.heap.size ≤ y.2) (hq : wr.heap.size ≤ q) (hab : wr.heap.size ≤ ab) (hbb : wr.heap.size ≤ bb) :
    TrR w wr G x N I s k es (.pointer (some ⟨ab, 0, none⟩)) (.pointer (some ⟨bb, 0, none⟩)) (.int .i64 0) wx := by
  refine ⟨ab, bb, rfl, rfl, .inl ⟨hok, rfl, q, hB, (st.held hb hk he hy hq hok.2.2.1.2.1).less (fun z hz => ?_), hok.2.2.1.1⟩, fun z hz => hb.block z (hgl z hz)⟩
  rcases hz with hz | hz | hz
  · exact .inl hz
  · exact .inr (by omega)
  · exact .inr (by omega)
theorem TrR.okAB {w wr V V1 : World} {G : Nat → Prop} {x N : Nat} {I : Ix} {s k : List UInt8} {es : List Evn} {q : Nat} {ys : List (Evn × Nat)} (st : LSt w wr G x N I) (hgl : ∀ q, G q → q < wr.heap.size) (h : Below wr.heap.size wr V1) (hok : tryOk I s (-1) k es) (hV : wr.heap.size ≤ V.heap.size) (g : Got V V1 q es ys) (f p c : Int) (t : Bool) :
    TrR w wr G x N I s k es (.pointer (some ⟨V1.heap.size, 0, none⟩)) (.pointer (some ⟨V1.heap.size + 1, 0, none⟩)) (.int .i64 0) ((V1.alloc (.cells (apV f p c t) 44)).alloc (.cells (bt s k (I.ver s : Nat) (some ⟨q, 0, none⟩) es.length es.length) 33)) := by
  have hb : Below V1.heap.size V1 ((V1.alloc (.cells (apV f p c t) 44)).alloc (.cells (bt s k (I.ver s : Nat) (some ⟨q, 0, none⟩) es.length es.length) 33)) := ((Below.refl _ _).alloc (Nat.le_refl _) _).alloc (by simp) _
  have hz := h.size
  exact TrR.fin st hgl hok (h.trans (hb.mono hz)) (by unfold BBox; rw [show V1.heap.size + 1 = (V1.alloc (.cells (apV f p c t) 44)).heap.size by simp]; exact heap_alloc_self _ _) (g.blk.same (hb.block q g.blk.lt) (fun y hy => hb.block y.2 (g.blk.2 y hy).1.lt)) g.evs (fun y hy => by have := g.new y hy; omega) (by have := g.hq; omega) (by omega) (by omega)
theorem TrR.okBA {w wr V V1 : World} {G : Nat → Prop} {x N : Nat} {I : Ix} {s k : List UInt8} {es : List Evn} {q : Nat} {ys : List (Evn × Nat)} (st : LSt w wr G x N I) (hgl : ∀ q, G q → q < wr.heap.size) (h : Below wr.heap.size wr V1) (hok : tryOk I s (-1) k es) (hV : wr.heap.size ≤ V.heap.size) (g : Got V V1 q es ys) (f p c : Int) (t : Bool) :
    TrR w wr G x N I s k es (.pointer (some ⟨V1.heap.size + 1, 0, none⟩)) (.pointer (some ⟨V1.heap.size, 0, none⟩)) (.int .i64 0) ((V1.alloc (.cells (bt s k (I.ver s : Nat) (some ⟨q, 0, none⟩) es.length es.length) 33)).alloc (.cells (apV f p c t) 44)) := by
  have hb : Below V1.heap.size V1 ((V1.alloc (.cells (bt s k (I.ver s : Nat) (some ⟨q, 0, none⟩) es.length es.length) 33)).alloc (.cells (apV f p c t) 44)) := ((Below.refl _ _).alloc (Nat.le_refl _) _).alloc (by simp) _
  have hz := h.size
  exact TrR.fin st hgl hok (h.trans (hb.mono hz)) (by unfold BBox; rw [Below.heap_alloc _ _ _ (by simp)]; exact heap_alloc_self _ _) (g.blk.same (hb.block q g.blk.lt) (fun y hy => hb.block y.2 (g.blk.2 y hy).1.lt)) g.evs (fun y hy => by have := g.new y hy; omega) (by have := g.hq; omega) (by omega) (by omega)
theorem TrR.okB {w wr V V1 : World} {G : Nat → Prop} {x N : Nat} {I : Ix} {s k : List UInt8} {es : List Evn} {q bb : Nat} {ys : List (Evn × Nat)} (st : LSt w wr G x N I) (hgl : ∀ q, G q → q < wr.heap.size) (h : RSt wr V1 none (some bb)) (hok : tryOk I s (-1) k es) (hV : wr.heap.size ≤ V.heap.size) (g : Got V V1 q es ys) (f p c : Int) (t : Bool) :
    TrR w wr G x N I s k es (.pointer (some ⟨V1.heap.size, 0, none⟩)) (.pointer (some ⟨bb, 0, none⟩)) (.int .i64 0) (((((V1.alloc (.cells (apV f p c t) 44)).setCell ⟨bb, 0, none⟩ (sv s)).setCell ⟨bb, 1, none⟩ (sv k)).setCell ⟨bb, 2, none⟩ (.int .i64 (I.ver s : Nat))).setCell ⟨bb, 3, none⟩ (.slice (some ⟨q, 0, none⟩) es.length es.length)) := by
  have hb : Below V1.heap.size V1 (V1.alloc (.cells (apV f p c t) 44)) := (Below.refl _ _).alloc (Nat.le_refl _) _
  have hn := h.next hb
  have hz := h.bel.size
  have bP : EvBlk (V1.alloc (.cells (apV f p c t) 44)) q es.length ys := g.blk.same (hb.block q g.blk.lt) (fun y hy => hb.block y.2 (g.blk.2 y hy).1.lt)
  have far : ∀ z, z ≠ bb → (((((V1.alloc (.cells (apV f p c t) 44)).setCell ⟨bb, 0, none⟩ (sv s)).setCell ⟨bb, 1, none⟩ (sv k)).setCell ⟨bb, 2, none⟩ (.int .i64 (I.ver s : Nat))).setCell ⟨bb, 3, none⟩ (.slice (some ⟨q, 0, none⟩) es.length es.length)).heap[z]? = (V1.alloc (.cells (apV f p c t) 44)).heap[z]? := fun z h1 => by
    rw [heap_setCell_other _ ⟨bb, 3, none⟩ _ _ h1, heap_setCell_other _ ⟨bb, 2, none⟩ _ _ h1, heap_setCell_other _ ⟨bb, 1, none⟩ _ _ h1, heap_setCell_other _ ⟨bb, 0, none⟩ _ _ h1]
  have hbb := (hn.b bb rfl)
  exact TrR.fin st hgl hok (below_putB hn.bel hbb.2 s k (I.ver s : Nat) _) (hn.bbox.put s k (I.ver s : Nat) _) (bP.same (far q (bP.kind hbb.1 (by decide))) (fun y hy => far y.2 ((bP.2 y hy).1.kind hbb.1 (by decide)))) g.evs (fun y hy => by have := g.new y hy; omega) (by have := g.hq; omega) hz hbb.2

theorem TrR.finB {w wr wx : World} {G : Nat → Prop} {x N : Nat} {I : Ix} {s k : List UInt8} {es : List Evn} {ab bb : Nat} (st : LSt w wr G x N I) (hgl : ∀ q, G q → q < wr.heap.size) (hok : ¬ tryOk I s (-1) k es) (hb : Below wr.heap.size wr wx) (hB : BBox wx bb [] [] 0 (.slice none 0 0)) (err : Int) :
    TrR w wr G x N I s k es (.pointer (some ⟨ab, 0, none⟩)) (.pointer (some ⟨bb, 0, none⟩)) (.int .i64 err) wx :=
  ⟨ab, bb, rfl, rfl, .inr ⟨hok, hB, (st.grown hb).less (fun z hz => .inl hz), err, rfl⟩, fun z hz => hb.block z (hgl z hz)⟩
theorem TrR.badAB {w wr V1 : World} {G : Nat → Prop} {x N : Nat} {I : Ix} {s k : List UInt8} {es : List Evn} (st : LSt w wr G x N I) (hgl : ∀ q, G q → q < wr.heap.size) (h : Below wr.heap.size wr V1) (hok : ¬ tryOk I s (-1) k es) (f p c : Int) (t : Bool) (err : Int) :
    TrR w wr G x N I s k es (.pointer (some ⟨V1.heap.size, 0, none⟩)) (.pointer (some ⟨V1.heap.size + 1, 0, none⟩)) (.int .i64 err) ((V1.alloc (.cells (apV f p c t) 44)).alloc (.cells (bt [] [] 0 none 0 0) 33)) :=
  TrR.finB st hgl hok ((h.alloc h.size _).alloc (Nat.le_trans h.size (by simp)) _) (by unfold BBox; rw [show V1.heap.size + 1 = (V1.alloc (.cells (apV f p c t) 44)).heap.size by simp]; exact heap_alloc_self _ _) err
theorem TrR.badBA {w wr V1 : World} {G : Nat → Prop} {x N : Nat} {I : Ix} {s k : List UInt8} {es : List Evn} (st : LSt w wr G x N I) (hgl : ∀ q, G q → q < wr.heap.size) (h : Below wr.heap.size wr V1) (hok : ¬ tryOk I s (-1) k es) (f p c : Int) (t : Bool) (err : Int) :
    TrR w wr G x N I s k es (.pointer (some ⟨V1.heap.size + 1, 0, none⟩)) (.pointer (some ⟨V1.heap.size, 0, none⟩)) (.int .i64 err) ((V1.alloc (.cells (bt [] [] 0 none 0 0) 33)).alloc (.cells (apV f p c t) 44)) :=
  TrR.finB st hgl hok ((h.alloc h.size _).alloc (Nat.le_trans h.size (by simp)) _) (by unfold BBox; rw [Below.heap_alloc _ _ _ (by simp)]; exact heap_alloc_self _ _) err
theorem TrR.badB {w wr V1 : World} {G : Nat → Prop} {x N : Nat} {I : Ix} {s k : List UInt8} {es : List Evn} {bb : Nat} (st : LSt w wr G x N I) (hgl : ∀ q, G q → q < wr.heap.size) (h : RSt wr V1 none (some bb)) (hok : ¬ tryOk I s (-1) k es) (f p c : Int) (t : Bool) (err : Int) :
    TrR w wr G x N I s k es (.pointer (some ⟨V1.heap.size, 0, none⟩)) (.pointer (some ⟨bb, 0, none⟩)) (.int .i64 err) (((((V1.alloc (.cells (apV f p c t) 44)).setCell ⟨bb, 0, none⟩ (sv [])).setCell ⟨bb, 1, none⟩ (sv [])).setCell ⟨bb, 2, none⟩ (.int .i64 0)).setCell ⟨bb, 3, none⟩ (.slice none 0 0)) := by
  have hn := h.next ((Below.refl V1.heap.size V1).alloc (Nat.le_refl _) (.cells (apV f p c t) 44))
  exact TrR.finB st hgl hok (below_putB hn.bel (hn.b bb rfl).2 [] [] 0 _) (hn.bbox.put [] [] 0 _) err

theorem keepA {w : World} {o : Obj} {a b c : Addr} {u v t : Value} (h : w.cell? a = some u ∧ w.cell? b = some v ∧ w.cell? c = some t) : (w.alloc o).cell? a = some u ∧ (w.alloc o).cell? b = some v ∧ (w.alloc o).cell? c = some t :=
  ⟨(World.cell?_alloc_some _ _ _ (by rw [h.1]; rfl)).trans h.1, (World.cell?_alloc_some _ _ _ (by rw [h.2.1]; rfl)).trans h.2.1, (World.cell?_alloc_some _ _ _ (by rw [h.2.2]; rfl)).trans h.2.2⟩
theorem keepS {w : World} {g o1 o2 o3 q : Nat} {v0 v1 v2 v3 : Value} {u v t : Value} (hne : g ≠ q) (h : w.cell? ⟨g, o1, none⟩ = some u ∧ w.cell? ⟨g, o2, none⟩ = some v ∧ w.cell? ⟨g, o3, none⟩ = some t) :
    ((((w.setCell ⟨q, 0, none⟩ v0).setCell ⟨q, 1, none⟩ v1).setCell ⟨q, 2, none⟩ v2).setCell ⟨q, 3, none⟩ v3).cell? ⟨g, o1, none⟩ = some u ∧ ((((w.setCell ⟨q, 0, none⟩ v0).setCell ⟨q, 1, none⟩ v1).setCell ⟨q, 2, none⟩ v2).setCell ⟨q, 3, none⟩ v3).cell? ⟨g, o2, none⟩ = some v ∧ ((((w.setCell ⟨q, 0, none⟩ v0).setCell ⟨q, 1, none⟩ v1).setCell ⟨q, 2, none⟩ v2).setCell ⟨q, 3, none⟩ v3).cell? ⟨g, o3, none⟩ = some t := by
  have e : ((((w.setCell ⟨q, 0, none⟩ v0).setCell ⟨q, 1, none⟩ v1).setCell ⟨q, 2, none⟩ v2).setCell ⟨q, 3, none⟩ v3).heap[g]? = w.heap[g]? := by
    rw [heap_setCell_other _ ⟨q, 3, none⟩ _ _ hne, heap_setCell_other _ ⟨q, 2, none⟩ _ _ hne, heap_setCell_other _ ⟨q, 1, none⟩ _ _ hne, heap_setCell_other _ ⟨q, 0, none⟩ _ _ hne]
  generalize ((((w.setCell ⟨q, 0, none⟩ v0).setCell ⟨q, 1, none⟩ v1).setCell ⟨q, 2, none⟩ v2).setCell ⟨q, 3, none⟩ v3) = W at e ⊢
  exact ⟨(World.cell?_of_block e).trans h.1, (World.cell?_of_block e).trans h.2.1, (World.cell?_of_block e).trans h.2.2⟩
end Go.Proofs.Ytabcmmhmghgliaa

namespace Go.Proofs.Ytabcmmhmghgliaa
open Go.RowKit Go.Maps
set_option linter.unusedVariables false

/-- What the statement leaves. -/
def TrB (wr : World) (I : Ix) (s k : List UInt8) (es : List Evn) (t19 t20 t21 : Value) (wx : World) : Prop :=
  ∃ ab bb, t19 = .pointer (some ⟨ab, 0, none⟩) ∧ t20 = .pointer (some ⟨bb, 0, none⟩) ∧ Below wr.heap.size wr wx ∧ wr.heap.size ≤ bb ∧ ((tryOk I s (-1) k es ∧ t21 = .int .i64 0 ∧ ∃ q ys, BBox wx bb s k (I.ver s : Nat) (.slice (some ⟨q, 0, none⟩) es.length es.length) ∧ EvBlk wx q es.length ys ∧ ys.map (·.1) = es ∧ (∀ y ∈ ys, wr.heap.size ≤ y.2) ∧ wr.heap.size ≤ q) ∨ (¬ tryOk I s (-1) k es ∧ BBox wx bb [] [] 0 (.slice none 0 0) ∧ ∃ err : Int, t21 = .int .i64 err))

theorem TrB.fin {wr wx : World} {I : Ix} {s k : List UInt8} {es : List Evn} {ab bb q : Nat} {ys : List (Evn × Nat)} (hok : tryOk I s (-1) k es) (hb : Below wr.heap.size wr wx) (hB : BBox wx bb s k (I.ver s : Nat) (.slice (some ⟨q, 0, none⟩) es.length es.length)) (hk : EvBlk wx q es.length ys) (he : ys.map (·.1) = es) (hy : ∀ y ∈ ys, wr.heap.size ≤ y.2) (hq : wr.heap.size ≤ q) (hbb : wr.heap.size ≤ bb) :
    TrB wr I s k es (.pointer (some ⟨ab, 0, none⟩)) (.pointer (some ⟨bb, 0, none⟩)) (.int .i64 0) wx := ⟨ab, bb, rfl, rfl, hb, hbb, .inl ⟨hok, rfl, q, ys, hB, hk, he, hy, hq⟩⟩
theorem TrB.ok {wr P V V1 : World} {I : Ix} {s k : List UInt8} {es : List Evn} {ab bb q : Nat} {ys : List (Evn × Nat)} (h : RSt wr P (some ab) (some bb)) (hok : tryOk I s (-1) k es) (hV : wr.heap.size ≤ V.heap.size) (g : Got V V1 q es ys) (hP : Below V1.heap.size V1 P) (f p c : Int) (t : Bool) :
    TrB wr I s k es (.pointer (some ⟨ab, 0, none⟩)) (.pointer (some ⟨bb, 0, none⟩)) (.int .i64 0) (stored P ab bb f p c t s k (I.ver s : Nat) (.slice (some ⟨q, 0, none⟩) es.length es.length)) := by
  obtain ⟨h1, h2, h3, h4, h5, h6⟩ := h.stored f p c t s k (I.ver s : Nat) (.slice (some ⟨q, 0, none⟩) es.length es.length)
  have bP : EvBlk P q es.length ys := g.blk.same (hP.block q g.blk.lt) (fun y hy => hP.block y.2 (g.blk.2 y hy).1.lt)
  have ha := (h.a ab rfl).1
  have hb := (h.b bb rfl).1
  have bS : EvBlk (Go.Proofs.Ytabcmmhmghgliaa.stored P ab bb f p c t s k (I.ver s : Nat) (.slice (some ⟨q, 0, none⟩) es.length es.length)) q es.length ys :=
    bP.same (stored_far P f p c t s k _ _ (bP.kind ha (by decide)) (bP.kind hb (by decide))) (fun y hy => stored_far P f p c t s k _ _ ((bP.2 y hy).1.kind ha (by decide)) ((bP.2 y hy).1.kind hb (by decide)))
  exact TrB.fin hok h3 h2 bS g.evs (fun y hy => by have := g.new y hy; omega) (by have := g.hq; omega) h6
theorem TrB.bad {wr P : World} {I : Ix} {s k : List UInt8} {es : List Evn} {ab bb : Nat} (h : RSt wr P (some ab) (some bb)) (hok : ¬ tryOk I s (-1) k es) (f p c : Int) (t : Bool) (err : Int) :
    TrB wr I s k es (.pointer (some ⟨ab, 0, none⟩)) (.pointer (some ⟨bb, 0, none⟩)) (.int .i64 err) (stored P ab bb f p c t [] [] 0 (.slice none 0 0)) := by
  obtain ⟨h1, h2, h3, h4, h5, h6⟩ := h.stored f p c t [] [] 0 (.slice none 0 0)
  exact ⟨ab, bb, rfl, rfl, h3, h6, .inr ⟨hok, h2, err, rfl⟩⟩
theorem TrB.okAB {wr V V1 : World} {I : Ix} {s k : List UInt8} {es : List Evn} {q : Nat} {ys : List (Evn × Nat)} (h : Below wr.heap.size wr V1) (hok : tryOk I s (-1) k es) (hV : wr.heap.size ≤ V.heap.size) (g : Got V V1 q es ys) (f p c : Int) (t : Bool) :
    TrB wr I s k es (.pointer (some ⟨V1.heap.size, 0, none⟩)) (.pointer (some ⟨V1.heap.size + 1, 0, none⟩)) (.int .i64 0) ((V1.alloc (.cells (apV f p c t) 44)).alloc (.cells (bt s k (I.ver s : Nat) (some ⟨q, 0, none⟩) es.length es.length) 33)) := by
  have hb : Below V1.heap.size V1 ((V1.alloc (.cells (apV f p c t) 44)).alloc (.cells (bt s k (I.ver s : Nat) (some ⟨q, 0, none⟩) es.length es.length) 33)) := ((Below.refl _ _).alloc (Nat.le_refl _) _).alloc (by simp) _
  have hz := h.size
  exact TrB.fin hok (h.trans (hb.mono hz)) (by unfold BBox; rw [show V1.heap.size + 1 = (V1.alloc (.cells (apV f p c t) 44)).heap.size by simp]; exact heap_alloc_self _ _) (g.blk.same (hb.block q g.blk.lt) (fun y hy => hb.block y.2 (g.blk.2 y hy).1.lt)) g.evs (fun y hy => by have := g.new y hy; omega) (by have := g.hq; omega) (by omega)
theorem TrB.okBA {wr V V1 : World} {I : Ix} {s k : List UInt8} {es : List Evn} {q : Nat} {ys : List (Evn × Nat)} (h : Below wr.heap.size wr V1) (hok : tryOk I s (-1) k es) (hV : wr.heap.size ≤ V.heap.size) (g : Got V V1 q es ys) (f p c : Int) (t : Bool) :
    TrB wr I s k es (.pointer (some ⟨V1.heap.size + 1, 0, none⟩)) (.pointer (some ⟨V1.heap.size, 0, none⟩)) (.int .i64 0) ((V1.alloc (.cells (bt s k (I.ver s : Nat) (some ⟨q, 0, none⟩) es.length es.length) 33)).alloc (.cells (apV f p c t) 44)) := by
  have hb : Below V1.heap.size V1 ((V1.alloc (.cells (bt s k (I.ver s : Nat) (some ⟨q, 0, none⟩) es.length es.length) 33)).alloc (.cells (apV f p c t) 44)) := ((Below.refl _ _).alloc (Nat.le_refl _) _).alloc (by simp) _
  have hz := h.size
  exact TrB.fin hok (h.trans (hb.mono hz)) (by unfold BBox; rw [Below.heap_alloc _ _ _ (by simp)]; exact heap_alloc_self _ _) (g.blk.same (hb.block q g.blk.lt) (fun y hy => hb.block y.2 (g.blk.2 y hy).1.lt)) g.evs (fun y hy => by have := g.new y hy; omega) (by have := g.hq; omega) (by omega)
theorem TrB.okB {wr V V1 : World} {I : Ix} {s k : List UInt8} {es : List Evn} {q bb : Nat} {ys : List (Evn × Nat)} (h : RSt wr V1 none (some bb)) (hok : tryOk I s (-1) k es) (hV : wr.heap.size ≤ V.heap.size) (g : Got V V1 q es ys) (f p c : Int) (t : Bool) :
    TrB wr I s k es (.pointer (some ⟨V1.heap.size, 0, none⟩)) (.pointer (some ⟨bb, 0, none⟩)) (.int .i64 0) (((((V1.alloc (.cells (apV f p c t) 44)).setCell ⟨bb, 0, none⟩ (sv s)).setCell ⟨bb, 1, none⟩ (sv k)).setCell ⟨bb, 2, none⟩ (.int .i64 (I.ver s : Nat))).setCell ⟨bb, 3, none⟩ (.slice (some ⟨q, 0, none⟩) es.length es.length)) := by
  have hb : Below V1.heap.size V1 (V1.alloc (.cells (apV f p c t) 44)) := (Below.refl _ _).alloc (Nat.le_refl _) _
  have hn := h.next hb
  have hz := h.bel.size
  have bP : EvBlk (V1.alloc (.cells (apV f p c t) 44)) q es.length ys := g.blk.same (hb.block q g.blk.lt) (fun y hy => hb.block y.2 (g.blk.2 y hy).1.lt)
  have far : ∀ z, z ≠ bb → (((((V1.alloc (.cells (apV f p c t) 44)).setCell ⟨bb, 0, none⟩ (sv s)).setCell ⟨bb, 1, none⟩ (sv k)).setCell ⟨bb, 2, none⟩ (.int .i64 (I.ver s : Nat))).setCell ⟨bb, 3, none⟩ (.slice (some ⟨q, 0, none⟩) es.length es.length)).heap[z]? = (V1.alloc (.cells (apV f p c t) 44)).heap[z]? := fun z h1 => by
    rw [heap_setCell_other _ ⟨bb, 3, none⟩ _ _ h1, heap_setCell_other _ ⟨bb, 2, none⟩ _ _ h1, heap_setCell_other _ ⟨bb, 1, none⟩ _ _ h1, heap_setCell_other _ ⟨bb, 0, none⟩ _ _ h1]
  have hbb := (hn.b bb rfl)
  exact TrB.fin hok (below_putB hn.bel hbb.2 s k (I.ver s : Nat) _) (hn.bbox.put s k (I.ver s : Nat) _) (bP.same (far q (bP.kind hbb.1 (by decide))) (fun y hy => far y.2 ((bP.2 y hy).1.kind hbb.1 (by decide)))) g.evs (fun y hy => by have := g.new y hy; omega) (by have := g.hq; omega) hbb.2
theorem TrB.badAB {wr V1 : World} {I : Ix} {s k : List UInt8} {es : List Evn} (h : Below wr.heap.size wr V1) (hok : ¬ tryOk I s (-1) k es) (f p c : Int) (t : Bool) (err : Int) :
    TrB wr I s k es (.pointer (some ⟨V1.heap.size, 0, none⟩)) (.pointer (some ⟨V1.heap.size + 1, 0, none⟩)) (.int .i64 err) ((V1.alloc (.cells (apV f p c t) 44)).alloc (.cells (bt [] [] 0 none 0 0) 33)) :=
  ⟨_, _, rfl, rfl, (h.alloc h.size _).alloc (Nat.le_trans h.size (by simp)) _, Nat.le_succ_of_le h.size, .inr ⟨hok, by unfold BBox; rw [show V1.heap.size + 1 = (V1.alloc (.cells (apV f p c t) 44)).heap.size by simp]; exact heap_alloc_self _ _, err, rfl⟩⟩
theorem TrB.badBA {wr V1 : World} {I : Ix} {s k : List UInt8} {es : List Evn} (h : Below wr.heap.size wr V1) (hok : ¬ tryOk I s (-1) k es) (f p c : Int) (t : Bool) (err : Int) :
    TrB wr I s k es (.pointer (some ⟨V1.heap.size + 1, 0, none⟩)) (.pointer (some ⟨V1.heap.size, 0, none⟩)) (.int .i64 err) ((V1.alloc (.cells (bt [] [] 0 none 0 0) 33)).alloc (.cells (apV f p c t) 44)) :=
  ⟨_, _, rfl, rfl, (h.alloc h.size _).alloc (Nat.le_trans h.size (by simp)) _, h.size, .inr ⟨hok, by unfold BBox; rw [Below.heap_alloc _ _ _ (by simp)]; exact heap_alloc_self _ _, err, rfl⟩⟩
theorem TrB.badB {wr V1 : World} {I : Ix} {s k : List UInt8} {es : List Evn} {bb : Nat} (h : RSt wr V1 none (some bb)) (hok : ¬ tryOk I s (-1) k es) (f p c : Int) (t : Bool) (err : Int) :
    TrB wr I s k es (.pointer (some ⟨V1.heap.size, 0, none⟩)) (.pointer (some ⟨bb, 0, none⟩)) (.int .i64 err) (((((V1.alloc (.cells (apV f p c t) 44)).setCell ⟨bb, 0, none⟩ (sv [])).setCell ⟨bb, 1, none⟩ (sv [])).setCell ⟨bb, 2, none⟩ (.int .i64 0)).setCell ⟨bb, 3, none⟩ (.slice none 0 0)) := by
  have hn := h.next ((Below.refl V1.heap.size V1).alloc (Nat.le_refl _) (.cells (apV f p c t) 44))
  exact ⟨_, _, rfl, rfl, below_putB hn.bel (hn.b bb rfl).2 [] [] 0 _, (hn.b bb rfl).2, .inr ⟨hok, hn.bbox.put [] [] 0 _, err, rfl⟩⟩

/-- Events in blocks that no memory of F holds. -/
theorem evfar_blk {F : Nat → Prop} {W : World} {q : Nat} {es : List Evn} {ys : List (Evn × Nat)} (hk : EvBlk W q es.length ys) (he : ys.map (·.1) = es) (h16 : es.length ≤ 16) (hq : ¬ F q) (hy : ∀ y ∈ ys, ¬ F y.2) : EvFar F W (some ⟨q, 0, none⟩) es.length es.length es := by
  have hl : ys.length = es.length := by have := congrArg List.length he; simpa using this
  refine ⟨fun A hA hkk => ?_, fun b off e _ => ?_⟩
  · have b2 : EvBlk A q es.length ys := hk.same (hkk q hk.lt hq) (fun y hyy => hkk y.2 (hk.2 y hyy).1.lt (hy y hyy))
    have := b2.evl hl h16
    rwa [he] at this
  · cases e
    exact ⟨hk.lt, hq⟩
end Go.Proofs.Ytabcmmhmghgliaa

namespace Go.Proofs.Ytabcmmhmghgliaa
open Go.RowKit Go.Maps
set_option linter.unusedVariables false

/-- Two indexes alike, their memories apart. -/
structure A2St (w W : World) (x y N : Nat) (I : Ix) : Prop where
  ix : ∃ Fx Fy, IxAt W Fx x N I ∧ IxAt W Fy y N I ∧ (∀ q, Fx q → w.heap.size ≤ q ∧ q < W.heap.size ∧ ¬ Fy q) ∧ ∀ q, Fy q → w.heap.size ≤ q ∧ q < W.heap.size
  bel : Below w.heap.size w W
theorem A2St.lx {w W : World} {x y N : Nat} {I : Ix} (h : A2St w W x y N I) : LSt w W (fun _ => False) x N I := by
  obtain ⟨Fx, Fy, hx, hy, h1, h2⟩ := h.ix
  exact ⟨⟨Fx, hx, fun q hq => ⟨(h1 q hq).1, (h1 q hq).2.1, id⟩⟩, h.bel⟩
theorem A2St.grown {w W W' : World} {x y N : Nat} {I : Ix} (h : A2St w W x y N I) (hb : Below W.heap.size W W') : A2St w W' x y N I := by
  obtain ⟨Fx, Fy, hx, hy, h1, h2⟩ := h.ix
  have hz := hb.size
  exact ⟨⟨Fx, Fy, hx.grown hb, hy.grown hb, fun q hq => ⟨(h1 q hq).1, by have := (h1 q hq).2.1; omega, (h1 q hq).2.2⟩, fun q hq => ⟨(h2 q hq).1, by have := (h2 q hq).2; omega⟩⟩, h.bel.trans (hb.mono h.bel.size)⟩
theorem IxAt.more {w : World} {F : Nat → Prop} {x N N' : Nat} {I : Ix} (h : IxAt w F x N I) (hn : N ≤ N') : IxAt w F x N' I := by
  obtain ⟨st, h1, h2, mp, mk, xs, av, pf, D1, D2, hin⟩ := h
  exact ⟨st, h1, h2, mp, mk, xs, av, pf, D1, D2, hin.more hn⟩
theorem A2St.more {w W : World} {x y N N' : Nat} {I : Ix} (h : A2St w W x y N I) (hn : N ≤ N') : A2St w W x y N' I := by
  obtain ⟨Fx, Fy, hx, hy, h1, h2⟩ := h.ix
  exact ⟨⟨Fx, Fy, hx.more hn, hy.more hn, h1, h2⟩, h.bel⟩
theorem A2St.adds {w wr W7 : World} {x y N : Nat} {I : Ix} {s k : List UInt8} {es : List Evn} {bb q : Nat} {ys : List (Evn × Nat)} (h : A2St w wr x y N I) (hb : Below wr.heap.size wr W7) (hB : BBox W7 bb s k (I.ver s : Nat) (.slice (some ⟨q, 0, none⟩) es.length es.length)) (hbb : wr.heap.size ≤ bb) (hk : EvBlk W7 q es.length ys) (he : ys.map (·.1) = es) (hy : ∀ y ∈ ys, wr.heap.size ≤ y.2) (hq : wr.heap.size ≤ q) (hok : tryOk I s (-1) k es) (hs : s.length ≤ maxLen) (hkl : k.length ≤ maxLen) (hfit : ∀ e ∈ es, fitE e) (hN : N < 1000000) :
    Calls Try.prog 13 #[.pointer (some ⟨x, 0, none⟩), .agg (bt s k (I.ver s : Nat) (some ⟨q, 0, none⟩) es.length es.length)] W7 fun e W8 => e = .returned (.int .i64 0) ∧ BBox W8 bb s k (I.ver s : Nat) (.slice (some ⟨q, 0, none⟩) es.length es.length) ∧
      Calls Try.prog 13 #[.pointer (some ⟨y, 0, none⟩), .agg (bt s k (I.ver s : Nat) (some ⟨q, 0, none⟩) es.length es.length)] W8 fun e W9 => e = .returned (.int .i64 0) ∧ BBox W9 bb s k (I.ver s : Nat) (.slice (some ⟨q, 0, none⟩) es.length es.length) ∧ A2St w W9 x y (N + 1 + es.length) (I.added s k (I.ver s) es) ∧ EvL W9 (.slice (some ⟨q, 0, none⟩) es.length es.length) es := by
  obtain ⟨Fx, Fy, ix, iy, h1, h2⟩ := h.ix
  have h16 := hok.2.2.1.2.1
  have hz := hb.size
  have hlb := lt_of_block hB
  have bw : Below w.heap.size w W7 := h.bel.trans (hb.mono h.bel.size)
  have hl : ys.length = es.length := by have := congrArg List.length he; simpa using this
  have hH : Held w W7 (fun z => Fy z ∨ (wr.heap.size ≤ z ∧ z < W7.heap.size)) x N I q es.length es := ⟨⟨Fx, ix.grown hb, fun z hz' => ⟨(h1 z hz').1, by have := (h1 z hz').2.1; omega, fun hg => by
    rcases hg with hg | hg
    · exact (h1 z hz').2.2 hg
    · have := (h1 z hz').2.1; omega⟩, evfar_blk hk he h16 (fun hf => by have := (h1 q hf).2.1; omega) (fun y' hy' hf => by have := (h1 _ hf).2.1; have := hy y' hy'; omega)⟩, bw⟩
  refine (hH.add s hs k hkl hfit hok hN (fun z hz' => by rcases hz' with hz' | hz'; have := (h2 z hz').2; omega; exact hz'.2)).mono ?_
  rintro e W8 ⟨rfl, st8, k8⟩
  have kk : ∀ z, wr.heap.size ≤ z → z < W7.heap.size → W8.heap[z]? = W7.heap[z]? := fun z a b => k8 z (.inr ⟨a, b⟩)
  obtain ⟨Fx', ix8, hFx⟩ := st8.ix
  have hz8 := st8.bel.size
  have iy8 : IxAt W8 Fy y N I := (iy.grown hb).frame fun z hz' _ => k8 z (.inl hz')
  have eb8 : EvBlk W8 q es.length ys := hk.same (kk q hq hk.lt) (fun y' hy' => kk y'.2 (hy y' hy') (hk.2 y' hy').1.lt)
  have b8 : BBox W8 bb s k (I.ver s : Nat) (.slice (some ⟨q, 0, none⟩) es.length es.length) := hB.same (kk bb hbb hlb)
  have hl8 : W7.heap.size ≤ W8.heap.size := by
    rcases Nat.lt_or_ge (W7.heap.size - 1) W8.heap.size with h' | h'
    · omega
    · exfalso
      have h3 : wr.heap.size ≤ W7.heap.size - 1 := by omega
      have h4 : W7.heap.size - 1 < W7.heap.size := by omega
      have h5 := kk _ h3 h4
      rw [Array.getElem?_eq_none h', Array.getElem?_eq_getElem h4] at h5
      cases h5
  have hH2 : Held w W8 (fun z => Fx' z ∨ (wr.heap.size ≤ z ∧ z < W7.heap.size)) y N I q es.length es := ⟨⟨Fy, iy8, fun z hz' => ⟨(h2 z hz').1, by have := (h2 z hz').2; omega, fun hg => by
    rcases hg with hg | hg
    · exact (hFx z hg).2.2 (.inl hz')
    · have := (h2 z hz').2; omega⟩, evfar_blk eb8 he h16 (fun hf => by have := (h2 q hf).2; omega) (fun y' hy' hf => by have := (h2 _ hf).2; have := hy y' hy'; omega)⟩, st8.bel⟩
  refine ⟨rfl, b8, (hH2.add s hs k hkl hfit hok hN (fun z hz' => by rcases hz' with hz' | hz'; exact (hFx z hz').2.1; omega)).mono ?_⟩
  rintro e W9 ⟨rfl, st9, k9⟩
  obtain ⟨Fy', iy9, hFy⟩ := st9.ix
  have k9' : ∀ z, wr.heap.size ≤ z → z < W7.heap.size → W9.heap[z]? = W8.heap[z]? := fun z a b => k9 z (.inr ⟨a, b⟩)
  have ix9 : IxAt W9 Fx' x (N + 1 + es.length) (I.added s k (I.ver s) es) := ix8.frame fun z hz' _ => k9 z (.inl hz')
  have eb9 : EvBlk W9 q es.length ys := eb8.same (k9' q hq hk.lt) (fun y' hy' => k9' y'.2 (hy y' hy') (hk.2 y' hy').1.lt)
  have hl9 : W8.heap.size ≤ W9.heap.size ∨ True := .inr trivial
  refine ⟨rfl, b8.same (k9' bb hbb hlb), ⟨⟨Fx', Fy', ix9, iy9, fun z hz' => ⟨(hFx z hz').1, ?_, fun hf => (hFy z hf).2.2 (.inl hz')⟩, fun z hz' => ⟨(hFy z hz').1, (hFy z hz').2.1⟩⟩, st9.bel⟩, ?_⟩
  · have h5 := k9 z (.inl hz')
    rcases Nat.lt_or_ge z W9.heap.size with h' | h'
    · exact h'
    · exfalso
      rw [Array.getElem?_eq_none h', Array.getElem?_eq_getElem (hFx z hz').2.1] at h5
      cases h5
  · have := eb9.evl hl h16
    rwa [he] at this
theorem chk_again {I : Ix} {s k : List UInt8} {es : List Evn} (h : tryOk I s (-1) k es) : chkA (I.added s k (I.ver s) es) s k (I.ver s : Nat) es = if k = [] then 103 else 101 := by
  unfold chkA
  by_cases hk : k = []
  · have e : (I.added s k (I.ver s) es).key k = none := by rw [added_key, if_neg (fun h' => h'.1 hk)]; exact h.2.1
    rw [if_neg (fun h' => h' h.1), e, if_neg (by simp), if_neg (fun h' => h' h.2.2.1), if_pos (by rw [added_ver, if_pos rfl]; have := h.2.2.1.1; omega), if_pos hk]
  · have e : (I.added s k (I.ver s) es).key k = some ⟨s, I.ver s, I.all.length, es.length⟩ := by rw [added_key, if_pos ⟨hk, rfl⟩]
    rw [if_neg (fun h' => h' h.1), e, if_pos (by simp), if_neg hk]
theorem same_ents {w W w2 W2 : World} {q m q2 fr : Nat} {I : Ix} {zs zs2 : List Eno} (h : AlSt w W q m m I fr zs) (h2 : AlSt w2 W2 q2 m m I fr zs2) : (zs.map fun z => (z.pos, z.e)) = zs2.map fun z => (z.pos, z.e) := by
  refine List.ext_getElem (by rw [List.length_map, List.length_map, h.len, h2.len]) fun i h3 h4 => ?_
  rw [List.getElem_map, List.getElem_map]
  rw [List.length_map] at h3 h4
  obtain ⟨a1, a2⟩ := h.ent i h3
  obtain ⟨b1, b2⟩ := h2.ent i h4
  rw [a2] at b2
  rw [a1, b1, Option.some.inj b2]

theorem big_int : ((100000 : Nat) : Int) = (100000 : Int) := by simp
def AllBig (I : Ix) (w : World) (e : Ending) (w' : World) : Prop := ∃ q zs, e = .returned (.tuple #[.slice (some ⟨q, 0, none⟩) I.all.length I.all.length, .int .i64 0]) ∧ AlSt w w' q I.all.length I.all.length I 0 zs
theorem All_big {w : World} {F : Nat → Prop} {x N : Nat} {I : Ix} (h : IxAt w F x N I) (hN : N ≤ 100000) : Calls Try.prog 7 #[.pointer (some ⟨x, 0, none⟩), .int .i64 0, .int .i64 100000] w (AllBig I w) := by
  have hl : I.all.length ≤ N := by
    obtain ⟨st, _, _, mp, mk, xs, av, pf, D1, D2, hin⟩ := h
    exact hin.len
  have c := All_go h hN 0 100000 (by omega) (by omega)
  rw [big_int] at c
  refine c.mono ?_
  rintro e w' ⟨q, zs, he, st⟩
  have e1 : min 100000 (I.all.length - 0) = I.all.length := by omega
  rw [e1] at he st
  exact ⟨q, zs, he, st⟩
end Go.Proofs.Ytabcmmhmghgliaa
