/-
  DERIVED. A law's statement '_, b, e := x.Try(..)' in whatever order: the two boxes that it makes, the call, the two stores.
-/
import Derived.Test.YtgpijeaehkabdaaM3
import Derived.Laws.OwnMore
import Derived.BigQuiet
namespace Go.Proofs.Ytgpijeaehkabdaa
open Go.RowKit Go.Maps
set_option linter.unusedVariables false

abbrev zApp : Obj := .cells (apV 0 0 0 false) 27
abbrev zBt : Obj := .cells (bt [] [] 0 none 0 0) 30
/-- How far the statement is. -/
structure RSt (wr P : World) (oa ob : Option Nat) : Prop where
  bel : Below wr.heap.size wr P
  a : ∀ ab, oa = some ab → P.heap[ab]? = some (.cells (apV 0 0 0 false) 27 (0, 0)) ∧ wr.heap.size ≤ ab
  b : ∀ bb, ob = some bb → P.heap[bb]? = some (.cells (bt [] [] 0 none 0 0) 30 (0, 0)) ∧ wr.heap.size ≤ bb
theorem RSt.start (wr : World) : RSt wr wr.drew none none := ⟨(Below.refl _ _).drew, fun _ h => (by cases h), fun _ h => (by cases h)⟩
theorem RSt.next {wr P P' : World} {oa ob : Option Nat} (h : RSt wr P oa ob) (hb : Below P.heap.size P P') : RSt wr P' oa ob :=
  ⟨h.bel.trans (hb.mono h.bel.size), fun ab e => ⟨(hb.block ab (lt_of_block (h.a ab e).1)).trans (h.a ab e).1, (h.a ab e).2⟩, fun bb e => ⟨(hb.block bb (lt_of_block (h.b bb e).1)).trans (h.b bb e).1, (h.b bb e).2⟩⟩
theorem RSt.allocA {wr P : World} {ob : Option Nat} (h : RSt wr P none ob) : RSt wr (P.alloc zApp) (some P.heap.size) ob := by
  have k := h.next ((Below.refl P.heap.size P).alloc (Nat.le_refl _) zApp)
  exact ⟨k.bel, fun ab e => by cases e; exact ⟨heap_alloc_self _ _, h.bel.size⟩, k.b⟩
theorem RSt.allocB {wr P : World} {oa : Option Nat} (h : RSt wr P oa none) : RSt wr (P.alloc zBt) oa (some P.heap.size) := by
  have k := h.next ((Below.refl P.heap.size P).alloc (Nat.le_refl _) zBt)
  exact ⟨k.bel, k.a, fun ab e => by cases e; exact ⟨heap_alloc_self _ _, h.bel.size⟩⟩

theorem RSt.abox {wr P : World} {ob : Option Nat} {ab : Nat} (h : RSt wr P (some ab) ob) : ABox P ab 0 0 0 false := (h.a ab rfl).1
theorem RSt.alt {wr P : World} {ob : Option Nat} {ab : Nat} (h : RSt wr P (some ab) ob) : ab < P.heap.size := lt_of_block (h.a ab rfl).1
theorem RSt.bbox {wr P : World} {oa : Option Nat} {bb : Nat} (h : RSt wr P oa (some bb)) : BBox P bb [] [] 0 (.slice none 0 0) := (h.b bb rfl).1
theorem alloc_two (w : World) (o : Obj) : (w.alloc o).heap.size = w.heap.size + 1 := by simp

/-- The world behind the two stores. -/
abbrev stored (P : World) (ab bb : Nat) (f p c : Int) (t : Bool) (s k : List UInt8) (fi : Int) (v : Value) : World :=
  ((((((((P.setCell ⟨ab, 0, none⟩ (.int .i64 f)).setCell ⟨ab, 1, none⟩ (.int .i64 p)).setCell ⟨ab, 2, none⟩ (.int .i64 c)).setCell ⟨ab, 3, none⟩ (.bool t)).setCell ⟨bb, 0, none⟩ (sv s)).setCell ⟨bb, 1, none⟩ (sv k)).setCell ⟨bb, 2, none⟩ (.int .i64 fi)).setCell ⟨bb, 3, none⟩ v)
theorem stored_far (P : World) {ab bb q : Nat} (f p c : Int) (t : Bool) (s k : List UInt8) (fi : Int) (v : Value) (h0 : q ≠ ab) (h1 : q ≠ bb) : (stored P ab bb f p c t s k fi v).heap[q]? = P.heap[q]? := by
  rw [heap_setCell_other _ ⟨bb, 3, none⟩ _ _ h1, heap_setCell_other _ ⟨bb, 2, none⟩ _ _ h1, heap_setCell_other _ ⟨bb, 1, none⟩ _ _ h1, heap_setCell_other _ ⟨bb, 0, none⟩ _ _ h1, heap_setCell_other _ ⟨ab, 3, none⟩ _ _ h0, heap_setCell_other _ ⟨ab, 2, none⟩ _ _ h0, heap_setCell_other _ ⟨ab, 1, none⟩ _ _ h0, heap_setCell_other _ ⟨ab, 0, none⟩ _ _ h0]

theorem RSt.stored {wr P : World} {ab bb : Nat} (h : RSt wr P (some ab) (some bb)) (f p c : Int) (t : Bool) (s k : List UInt8) (fi : Int) (v : Value) :
    ABox (stored P ab bb f p c t s k fi v) ab f p c t ∧ BBox (stored P ab bb f p c t s k fi v) bb s k fi v ∧ Below wr.heap.size wr (Go.Proofs.Ytgpijeaehkabdaa.stored P ab bb f p c t s k fi v) ∧ ab ≠ bb ∧ wr.heap.size ≤ ab ∧ wr.heap.size ≤ bb := by
  obtain ⟨ha, ha2⟩ := h.a ab rfl
  obtain ⟨hb, hb2⟩ := h.b bb rfl
  have hne : bb ≠ ab := mark_ne ha hb (by decide)
  have a0 : ABox P ab 0 0 0 false := ha
  have b0 : BBox P bb [] [] 0 (.slice none 0 0) := hb
  exact ⟨(a0.put f p c t).other (fun e => hne e.symm) s k fi v, (b0.other hne f p c t).put s k fi v, below_putB (below_put h.bel ha2 f p c t) hb2 s k fi v, fun e => hne e.symm, ha2, hb2⟩

/-- What the statement leaves: the answer's box, the batch's, the error. -/
def TrR (w wr : World) (G : Nat → Prop) (x N : Nat) (I : Ix) (s k : List UInt8) (es : List Evn) (t19 t20 t21 : Value) (wx : World) : Prop :=
  ∃ ab bb, t19 = .pointer (some ⟨ab, 0, none⟩) ∧ t20 = .pointer (some ⟨bb, 0, none⟩) ∧ ((tryOk I s (-1) k es ∧ t21 = .int .i64 0 ∧ ∃ q, BBox wx bb s k (I.ver s : Nat) (.slice (some ⟨q, 0, none⟩) es.length es.length) ∧ Held w wx (fun q => G q ∨ q = bb ∨ q = ab) x N I q es.length es ∧ 1 ≤ es.length) ∨ (¬ tryOk I s (-1) k es ∧ BBox wx bb [] [] 0 (.slice none 0 0) ∧ LSt w wx G x N I ∧ ∃ err : Int, t21 = .int .i64 err)) ∧ ∀ q, G q → wx.heap[q]? = wr.heap[q]?

theorem TrR.ok {w wr P V V1 : World} {G : Nat → Prop} {x N : Nat} {I : Ix} {s k : List UInt8} {es : List Evn} {ab bb q : Nat} {ys : List (Evn × Nat)} (st : LSt w wr G x N I) (hgl : ∀ q, G q → q < wr.heap.size) (h : RSt wr P (some ab) (some bb)) (hok : tryOk I s (-1) k es) (hV : wr.heap.size ≤ V.heap.size) (g : Got V V1 q es ys) (hP : Below V1.heap.size V1 P) (f p c : Int) (t : Bool) :
    TrR w wr G x N I s k es (.pointer (some ⟨ab, 0, none⟩)) (.pointer (some ⟨bb, 0, none⟩)) (.int .i64 0) (stored P ab bb f p c t s k (I.ver s : Nat) (.slice (some ⟨q, 0, none⟩) es.length es.length)) := by
  obtain ⟨h1, h2, h3, h4, h5, h6⟩ := h.stored f p c t s k (I.ver s : Nat) (.slice (some ⟨q, 0, none⟩) es.length es.length)
  have bP : EvBlk P q es.length ys := g.blk.same (hP.block q g.blk.lt) (fun y hy => hP.block y.2 (g.blk.2 y hy).1.lt)
  have ha := (h.a ab rfl).1
  have hb := (h.b bb rfl).1
  have bS : EvBlk (Go.Proofs.Ytgpijeaehkabdaa.stored P ab bb f p c t s k (I.ver s : Nat) (.slice (some ⟨q, 0, none⟩) es.length es.length)) q es.length ys :=
    bP.same (stored_far P f p c t s k _ _ (bP.kind ha (by decide)) (bP.kind hb (by decide))) (fun y hy => stored_far P f p c t s k _ _ ((bP.2 y hy).1.kind ha (by decide)) ((bP.2 y hy).1.kind hb (by decide)))
  have hd := st.held h3 bS g.evs (fun y hy => by have := g.new y hy; omega) (by have := g.hq; omega) hok.2.2.1.2.1
  refine ⟨ab, bb, rfl, rfl, .inl ⟨hok, rfl, q, h2, hd.less (fun z hz => ?_), hok.2.2.1.1⟩, fun z hz => h3.block z (hgl z hz)⟩
  rcases hz with hz | hz | hz
  · exact .inl hz
  · exact .inr (by omega)
  · exact .inr (by omega)
theorem TrR.bad {w wr P : World} {G : Nat → Prop} {x N : Nat} {I : Ix} {s k : List UInt8} {es : List Evn} {ab bb : Nat} (st : LSt w wr G x N I) (hgl : ∀ q, G q → q < wr.heap.size) (h : RSt wr P (some ab) (some bb)) (hok : ¬ tryOk I s (-1) k es) (f p c : Int) (t : Bool) (err : Int) :
    TrR w wr G x N I s k es (.pointer (some ⟨ab, 0, none⟩)) (.pointer (some ⟨bb, 0, none⟩)) (.int .i64 err) (stored P ab bb f p c t [] [] 0 (.slice none 0 0)) := by
  obtain ⟨h1, h2, h3, h4, h5, h6⟩ := h.stored f p c t [] [] 0 (.slice none 0 0)
  exact ⟨ab, bb, rfl, rfl, .inr ⟨hok, h2, (st.grown h3).less (fun z hz => .inl hz), err, rfl⟩, fun z hz => h3.block z (hgl z hz)⟩

theorem TrR.fin {w wr wx : World} {G : Nat → Prop} {x N : Nat} {I : Ix} {s k : List UInt8} {es : List Evn} {ab bb q : Nat} {ys : List (Evn × Nat)} (st : LSt w wr G x N I) (hgl : ∀ q, G q → q < wr.heap.size) (hok : tryOk I s (-1) k es) (hb : Below wr.heap.size wr wx) (hB : BBox wx bb s k (I.ver s : Nat) (.slice (some ⟨q, 0, none⟩) es.length es.length)) (hk : EvBlk wx q es.length ys) (he : ys.map (·.1) = es) (hy : ∀ y ∈ ys, wr.heap.size ≤ y.2) (hq : wr.heap.size ≤ q) (hab : wr.heap.size ≤ ab) (hbb : wr.heap.size ≤ bb) :
    TrR w wr G x N I s k es (.pointer (some ⟨ab, 0, none⟩)) (.pointer (some ⟨bb, 0, none⟩)) (.int .i64 0) wx := by
  refine ⟨ab, bb, rfl, rfl, .inl ⟨hok, rfl, q, hB, (st.held hb hk he hy hq hok.2.2.1.2.1).less (fun z hz => ?_), hok.2.2.1.1⟩, fun z hz => hb.block z (hgl z hz)⟩
  rcases hz with hz | hz | hz
  · exact .inl hz
  · exact .inr (by omega)
  · exact .inr (by omega)
theorem TrR.okAB {w wr V V1 : World} {G : Nat → Prop} {x N : Nat} {I : Ix} {s k : List UInt8} {es : List Evn} {q : Nat} {ys : List (Evn × Nat)} (st : LSt w wr G x N I) (hgl : ∀ q, G q → q < wr.heap.size) (h : Below wr.heap.size wr V1) (hok : tryOk I s (-1) k es) (hV : wr.heap.size ≤ V.heap.size) (g : Got V V1 q es ys) (f p c : Int) (t : Bool) :
    TrR w wr G x N I s k es (.pointer (some ⟨V1.heap.size, 0, none⟩)) (.pointer (some ⟨V1.heap.size + 1, 0, none⟩)) (.int .i64 0) ((V1.alloc (.cells (apV f p c t) 27)).alloc (.cells (bt s k (I.ver s : Nat) (some ⟨q, 0, none⟩) es.length es.length) 30)) := by
  have hb : Below V1.heap.size V1 ((V1.alloc (.cells (apV f p c t) 27)).alloc (.cells (bt s k (I.ver s : Nat) (some ⟨q, 0, none⟩) es.length es.length) 30)) := ((Below.refl _ _).alloc (Nat.le_refl _) _).alloc (by simp) _
  have hz := h.size
  exact TrR.fin st hgl hok (h.trans (hb.mono hz)) (by unfold BBox; rw [show V1.heap.size + 1 = (V1.alloc (.cells (apV f p c t) 27)).heap.size by simp]; exact heap_alloc_self _ _) (g.blk.same (hb.block q g.blk.lt) (fun y hy => hb.block y.2 (g.blk.2 y hy).1.lt)) g.evs (fun y hy => by have := g.new y hy; omega) (by have := g.hq; omega) (by omega) (by omega)
theorem TrR.okBA {w wr V V1 : World} {G : Nat → Prop} {x N : Nat} {I : Ix} {s k : List UInt8} {es : List Evn} {q : Nat} {ys : List (Evn × Nat)} (st : LSt w wr G x N I) (hgl : ∀ q, G q → q < wr.heap.size) (h : Below wr.heap.size wr V1) (hok : tryOk I s (-1) k es) (hV : wr.heap.size ≤ V.heap.size) (g : Got V V1 q es ys) (f p c : Int) (t : Bool) :
    TrR w wr G x N I s k es (.pointer (some ⟨V1.heap.size + 1, 0, none⟩)) (.pointer (some ⟨V1.heap.size, 0, none⟩)) (.int .i64 0) ((V1.alloc (.cells (bt s k (I.ver s : Nat) (some ⟨q, 0, none⟩) es.length es.length) 30)).alloc (.cells (apV f p c t) 27)) := by
  have hb : Below V1.heap.size V1 ((V1.alloc (.cells (bt s k (I.ver s : Nat) (some ⟨q, 0, none⟩) es.length es.length) 30)).alloc (.cells (apV f p c t) 27)) := ((Below.refl _ _).alloc (Nat.le_refl _) _).alloc (by simp) _
  have hz := h.size
  exact TrR.fin st hgl hok (h.trans (hb.mono hz)) (by unfold BBox; rw [Below.heap_alloc _ _ _ (by simp)]; exact heap_alloc_self _ _) (g.blk.same (hb.block q g.blk.lt) (fun y hy => hb.block y.2 (g.blk.2 y hy).1.lt)) g.evs (fun y hy => by have := g.new y hy; omega) (by have := g.hq; omega) (by omega) (by omega)
theorem TrR.okB {w wr V V1 : World} {G : Nat → Prop} {x N : Nat} {I : Ix} {s k : List UInt8} {es : List Evn} {q bb : Nat} {ys : List (Evn × Nat)} (st : LSt w wr G x N I) (hgl : ∀ q, G q → q < wr.heap.size) (h : RSt wr V1 none (some bb)) (hok : tryOk I s (-1) k es) (hV : wr.heap.size ≤ V.heap.size) (g : Got V V1 q es ys) (f p c : Int) (t : Bool) :
    TrR w wr G x N I s k es (.pointer (some ⟨V1.heap.size, 0, none⟩)) (.pointer (some ⟨bb, 0, none⟩)) (.int .i64 0) (((((V1.alloc (.cells (apV f p c t) 27)).setCell ⟨bb, 0, none⟩ (sv s)).setCell ⟨bb, 1, none⟩ (sv k)).setCell ⟨bb, 2, none⟩ (.int .i64 (I.ver s : Nat))).setCell ⟨bb, 3, none⟩ (.slice (some ⟨q, 0, none⟩) es.length es.length)) := by
  have hb : Below V1.heap.size V1 (V1.alloc (.cells (apV f p c t) 27)) := (Below.refl _ _).alloc (Nat.le_refl _) _
  have hn := h.next hb
  have hz := h.bel.size
  have bP : EvBlk (V1.alloc (.cells (apV f p c t) 27)) q es.length ys := g.blk.same (hb.block q g.blk.lt) (fun y hy => hb.block y.2 (g.blk.2 y hy).1.lt)
  have far : ∀ z, z ≠ bb → (((((V1.alloc (.cells (apV f p c t) 27)).setCell ⟨bb, 0, none⟩ (sv s)).setCell ⟨bb, 1, none⟩ (sv k)).setCell ⟨bb, 2, none⟩ (.int .i64 (I.ver s : Nat))).setCell ⟨bb, 3, none⟩ (.slice (some ⟨q, 0, none⟩) es.length es.length)).heap[z]? = (V1.alloc (.cells (apV f p c t) 27)).heap[z]? := fun z h1 => by
    rw [heap_setCell_other _ ⟨bb, 3, none⟩ _ _ h1, heap_setCell_other _ ⟨bb, 2, none⟩ _ _ h1, heap_setCell_other _ ⟨bb, 1, none⟩ _ _ h1, heap_setCell_other _ ⟨bb, 0, none⟩ _ _ h1]
  have hbb := (hn.b bb rfl)
  exact TrR.fin st hgl hok (below_putB hn.bel hbb.2 s k (I.ver s : Nat) _) (hn.bbox.put s k (I.ver s : Nat) _) (bP.same (far q (bP.kind hbb.1 (by decide))) (fun y hy => far y.2 ((bP.2 y hy).1.kind hbb.1 (by decide)))) g.evs (fun y hy => by have := g.new y hy; omega) (by have := g.hq; omega) hz hbb.2

theorem TrR.finB {w wr wx : World} {G : Nat → Prop} {x N : Nat} {I : Ix} {s k : List UInt8} {es : List Evn} {ab bb : Nat} (st : LSt w wr G x N I) (hgl : ∀ q, G q → q < wr.heap.size) (hok : ¬ tryOk I s (-1) k es) (hb : Below wr.heap.size wr wx) (hB : BBox wx bb [] [] 0 (.slice none 0 0)) (err : Int) :
    TrR w wr G x N I s k es (.pointer (some ⟨ab, 0, none⟩)) (.pointer (some ⟨bb, 0, none⟩)) (.int .i64 err) wx :=
  ⟨ab, bb, rfl, rfl, .inr ⟨hok, hB, (st.grown hb).less (fun z hz => .inl hz), err, rfl⟩, fun z hz => hb.block z (hgl z hz)⟩
theorem TrR.badAB {w wr V1 : World} {G : Nat → Prop} {x N : Nat} {I : Ix} {s k : List UInt8} {es : List Evn} (st : LSt w wr G x N I) (hgl : ∀ q, G q → q < wr.heap.size) (h : Below wr.heap.size wr V1) (hok : ¬ tryOk I s (-1) k es) (f p c : Int) (t : Bool) (err : Int) :
    TrR w wr G x N I s k es (.pointer (some ⟨V1.heap.size, 0, none⟩)) (.pointer (some ⟨V1.heap.size + 1, 0, none⟩)) (.int .i64 err) ((V1.alloc (.cells (apV f p c t) 27)).alloc (.cells (bt [] [] 0 none 0 0) 30)) :=
  TrR.finB st hgl hok ((h.alloc h.size _).alloc (Nat.le_trans h.size (by simp)) _) (by unfold BBox; rw [show V1.heap.size + 1 = (V1.alloc (.cells (apV f p c t) 27)).heap.size by simp]; exact heap_alloc_self _ _) err
theorem TrR.badBA {w wr V1 : World} {G : Nat → Prop} {x N : Nat} {I : Ix} {s k : List UInt8} {es : List Evn} (st : LSt w wr G x N I) (hgl : ∀ q, G q → q < wr.heap.size) (h : Below wr.heap.size wr V1) (hok : ¬ tryOk I s (-1) k es) (f p c : Int) (t : Bool) (err : Int) :
    TrR w wr G x N I s k es (.pointer (some ⟨V1.heap.size + 1, 0, none⟩)) (.pointer (some ⟨V1.heap.size, 0, none⟩)) (.int .i64 err) ((V1.alloc (.cells (bt [] [] 0 none 0 0) 30)).alloc (.cells (apV f p c t) 27)) :=
  TrR.finB st hgl hok ((h.alloc h.size _).alloc (Nat.le_trans h.size (by simp)) _) (by unfold BBox; rw [Below.heap_alloc _ _ _ (by simp)]; exact heap_alloc_self _ _) err
theorem TrR.badB {w wr V1 : World} {G : Nat → Prop} {x N : Nat} {I : Ix} {s k : List UInt8} {es : List Evn} {bb : Nat} (st : LSt w wr G x N I) (hgl : ∀ q, G q → q < wr.heap.size) (h : RSt wr V1 none (some bb)) (hok : ¬ tryOk I s (-1) k es) (f p c : Int) (t : Bool) (err : Int) :
    TrR w wr G x N I s k es (.pointer (some ⟨V1.heap.size, 0, none⟩)) (.pointer (some ⟨bb, 0, none⟩)) (.int .i64 err) (((((V1.alloc (.cells (apV f p c t) 27)).setCell ⟨bb, 0, none⟩ (sv [])).setCell ⟨bb, 1, none⟩ (sv [])).setCell ⟨bb, 2, none⟩ (.int .i64 0)).setCell ⟨bb, 3, none⟩ (.slice none 0 0)) := by
  have hn := h.next ((Below.refl V1.heap.size V1).alloc (Nat.le_refl _) (.cells (apV f p c t) 27))
  exact TrR.finB st hgl hok (below_putB hn.bel (hn.b bb rfl).2 [] [] 0 _) (hn.bbox.put [] [] 0 _) err

theorem keepA {w : World} {o : Obj} {a b c : Addr} {u v t : Value} (h : w.cell? a = some u ∧ w.cell? b = some v ∧ w.cell? c = some t) : (w.alloc o).cell? a = some u ∧ (w.alloc o).cell? b = some v ∧ (w.alloc o).cell? c = some t :=
  ⟨(World.cell?_alloc_some _ _ _ (by rw [h.1]; rfl)).trans h.1, (World.cell?_alloc_some _ _ _ (by rw [h.2.1]; rfl)).trans h.2.1, (World.cell?_alloc_some _ _ _ (by rw [h.2.2]; rfl)).trans h.2.2⟩
theorem keepS {w : World} {g o1 o2 o3 q : Nat} {v0 v1 v2 v3 : Value} {u v t : Value} (hne : g ≠ q) (h : w.cell? ⟨g, o1, none⟩ = some u ∧ w.cell? ⟨g, o2, none⟩ = some v ∧ w.cell? ⟨g, o3, none⟩ = some t) :
    ((((w.setCell ⟨q, 0, none⟩ v0).setCell ⟨q, 1, none⟩ v1).setCell ⟨q, 2, none⟩ v2).setCell ⟨q, 3, none⟩ v3).cell? ⟨g, o1, none⟩ = some u ∧ ((((w.setCell ⟨q, 0, none⟩ v0).setCell ⟨q, 1, none⟩ v1).setCell ⟨q, 2, none⟩ v2).setCell ⟨q, 3, none⟩ v3).cell? ⟨g, o2, none⟩ = some v ∧ ((((w.setCell ⟨q, 0, none⟩ v0).setCell ⟨q, 1, none⟩ v1).setCell ⟨q, 2, none⟩ v2).setCell ⟨q, 3, none⟩ v3).cell? ⟨g, o3, none⟩ = some t := by
  have e : ((((w.setCell ⟨q, 0, none⟩ v0).setCell ⟨q, 1, none⟩ v1).setCell ⟨q, 2, none⟩ v2).setCell ⟨q, 3, none⟩ v3).heap[g]? = w.heap[g]? := by
    rw [heap_setCell_other _ ⟨q, 3, none⟩ _ _ hne, heap_setCell_other _ ⟨q, 2, none⟩ _ _ hne, heap_setCell_other _ ⟨q, 1, none⟩ _ _ hne, heap_setCell_other _ ⟨q, 0, none⟩ _ _ hne]
  generalize ((((w.setCell ⟨q, 0, none⟩ v0).setCell ⟨q, 1, none⟩ v1).setCell ⟨q, 2, none⟩ v2).setCell ⟨q, 3, none⟩ v3) = W at e ⊢
  exact ⟨(World.cell?_of_block e).trans h.1, (World.cell?_of_block e).trans h.2.1, (World.cell?_of_block e).trans h.2.2⟩
end Go.Proofs.Ytgpijeaehkabdaa

/-
  DERIVED. The walk of filled.
-/
namespace Go.Proofs.Ytgpijeaehkabdaa
open Go.RowKit Go.Maps
set_option linter.unusedVariables false

/-- Some index, all its memory new. -/
def FilPost (w : World) (e : Ending) (w' : World) : Prop := ∃ x I, e = .returned (.pointer (some ⟨x, 0, none⟩)) ∧ LSt w w' (fun _ => False) x 700 I
theorem LSt.back {w0 w W : World} {G : Nat → Prop} {x N : Nat} {I : Ix} (h : LSt w W G x N I) (hb : Below w0.heap.size w0 w) : LSt w0 W G x N I := by
  obtain ⟨F, hi, hF⟩ := h.ix
  have := hb.size
  exact ⟨⟨F, hi, fun q hq => ⟨by have := (hF q hq).1; omega, (hF q hq).2⟩⟩, hb.trans (h.bel.mono hb.size)⟩

set_option maxRecDepth 100000 in
set_option maxHeartbeats 8000000 in
theorem filled_go (ca : Option Addr) (cn cc : Nat) (cl : List SCl) (w : World) (hc : SClL w (.slice ca cn cc) cl) :
    Calls Try.prog 20 #[.slice ca cn cc] w (FilPost w) := by
  have HC := hide hc
  obtain ⟨CN, hCN⟩ : ∃ CN, CN = cl.length := ⟨_, rfl⟩
  obtain rfl : cn = CN := by obtain ⟨_, _, e, _⟩ := hc; cases e; exact hCN.symm
  have HCN := hide hCN
  have hcl : cn ≤ 9223372036854775807 := by obtain ⟨_, _, _, h, _⟩ := hc; omega
  clear hc hCN
  go_enter Try.func20, Try.ntmps20
  go_wp2_with fail
  refine (New_go w).mono ?_
  rintro e w2 hn
  obtain ⟨x, rfl, _⟩ := id hn
  have ST0 : Hid (LSt w w2 (fun _ => False) x (17 * 0) Ix.new) := hide ((LSt.new (Below.refl _ w) hn).less (fun q hq => hq.elim))
  clear hn
  go_wp2
  go_loopw [4] (fun i wr => ∃ (j : Nat) (I : Ix), i = .int .i64 (j : Int) ∧ j ≤ 40 ∧ j ≤ cn ∧ Hid (LSt w wr (fun _ => False) x (17 * j) I)) (fun i _ => 40 - (intOf i).toNat)
  case atStart => exact ⟨0, _, rfl, by omega, by omega, ST0⟩
  case round =>
    obtain ⟨j, I, rfl, hj, hjn, ST⟩ := hrel
    clear ST0
    by_cases hlt : j < cn ∧ j < 40
    · obtain ⟨hl1, hl2⟩ := hlt
      have hjl : j < cl.length := by have := unhide HCN; omega
      obtain ⟨ao', cap', e', _, h4⟩ := unhide HC
      obtain ⟨b, off, hea, hb, hcc⟩ := h4 (by omega)
      injection e' with q1 q2 q3
      subst q1
      clear q2 q3
      obtain ⟨c, hcj⟩ : ∃ c, c = cl[j] := ⟨_, rfl⟩
      have hat := hcc j hjl
      rw [← hcj] at hat
      clear hcc h4 hcj
      subst hea
      obtain ⟨cs, ck, ce⟩ := c
      obtain ⟨g1, g2, ⟨ea, en, ec, g5, g6⟩, s1, s2, fit⟩ := hat
      simp only at g1 g2 g5 g6 s1 s2 fit
      have hbel := (unhide ST).bel
      have d1 := (hbel.cell (p := ⟨b, off + j * 10 + 1, none⟩) hb).trans g1
      have d2 := (hbel.cell (p := ⟨b, off + j * 10 + 2, none⟩) hb).trans g2
      have d5 := (hbel.cell (p := ⟨b, off + j * 10 + 5, none⟩) hb).trans g5
      have hbw : b < wr.heap.size := Nat.lt_of_lt_of_le hb hbel.size
      clear g1 g2 g5 hbel
      have hgl : ∀ q, (fun _ : Nat => False) q → q < wr.heap.size := fun q hq => hq.elim
      have HGL := hide hgl
      have SD : Hid (wr.drew.cell? ⟨b, off + j * 10 + 1, none⟩ = some (sv cs) ∧ wr.drew.cell? ⟨b, off + j * 10 + 2, none⟩ = some (sv ck) ∧ wr.drew.cell? ⟨b, off + j * 10 + 5, none⟩ = some (.slice ea en ec)) := hide ⟨d1, d2, d5⟩
      have SV : Hid (∀ V, Below wr.heap.size wr V → V.cell? ⟨b, off + j * 10 + 1, none⟩ = some (sv cs) ∧ V.cell? ⟨b, off + j * 10 + 2, none⟩ = some (sv ck) ∧ V.cell? ⟨b, off + j * 10 + 5, none⟩ = some (.slice ea en ec)) := hide (fun V hV => ⟨(hV.cell (p := ⟨b, off + j * 10 + 1, none⟩) hbw).trans d1, (hV.cell (p := ⟨b, off + j * 10 + 2, none⟩) hbw).trans d2, (hV.cell (p := ⟨b, off + j * 10 + 5, none⟩) hbw).trans d5⟩)
      have HFT := hide (And.intro s1 (And.intro s2 fit))
      have R0 := hide (RSt.start wr)
      have RA : Hid (RSt wr (wr.alloc zApp).drew (some wr.heap.size) none) := hide (unhide R0).allocA
      have RB : Hid (RSt wr (wr.alloc zBt).drew none (some wr.heap.size)) := hide (unhide R0).allocB
      have RAB : Hid (RSt wr ((wr.alloc zApp).alloc zBt).drew (some wr.heap.size) (some (wr.alloc zApp).heap.size)) := hide (unhide R0).allocA.allocB
      have RBA : Hid (RSt wr ((wr.alloc zBt).alloc zApp).drew (some (wr.alloc zBt).heap.size) (some wr.heap.size)) := hide (unhide R0).allocB.allocA
      have RAB1 : Hid (RSt wr ((wr.alloc zApp).alloc zBt).drew (some wr.heap.size) (some (wr.heap.size + 1))) := hide (by have := unhide RAB; rwa [alloc_two] at this)
      have RBA1 : Hid (RSt wr ((wr.alloc zBt).alloc zApp).drew (some (wr.heap.size + 1)) (some wr.heap.size)) := hide (by have := unhide RBA; rwa [alloc_two] at this)
      have SA := hide (unhide SV _ (unhide RA).bel)
      have SB := hide (unhide SV _ (unhide RB).bel)
      have SAB := hide (unhide SV _ (unhide RAB).bel)
      have SBA := hide (unhide SV _ (unhide RBA).bel)
      clear hgl
      go_upto_region 7 with fail
      go_cut [5, 6, 7] from 11 to 55 (fun t19 t20 t21 wx => TrR w wr (fun _ => False) x (17 * j) I cs ck ce t19 t20 t21 wx)
      case first =>
        by_cases hok : tryOk I cs (-1) ck ce
        · have C := hide (fun V hV => (unhide ST).try_ok cs s1 (-1) ck s2 ea en ec ce g6 fit hok V hV)
          have HOK2 := hide hok
          obtain ⟨vs, hvs⟩ : ∃ vs : Nat, vs = I.ver cs := ⟨_, rfl⟩
          obtain ⟨al, hal⟩ : ∃ al : Nat, al = I.all.length := ⟨_, rfl⟩
          obtain ⟨en2, hen2⟩ : ∃ en2 : Nat, en2 = ce.length := ⟨_, rfl⟩
          have HVS := hide hvs
          have HEN2 := hide hen2
          rw [← hvs, ← hal, ← hen2] at C
          clear hok d1 d2 d5 s1 s2 fit g6 hvs hal hen2
          have C0 := hide (unhide C _ (unhide R0).bel)
          have CA := hide (unhide C _ (unhide RA).bel)
          have CB := hide (unhide C _ (unhide RB).bel)
          have CAB := hide (unhide C _ (unhide RAB).bel)
          have CBA := hide (unhide C _ (unhide RBA).bel)
          clear C
          go_region_held3 (fun w' => w'.cell? ⟨b, off + j * 10 + 1, none⟩ = some (sv cs) ∧ w'.cell? ⟨b, off + j * 10 + 2, none⟩ = some (sv ck) ∧ w'.cell? ⟨b, off + j * 10 + 5, none⟩ = some (.slice ea en ec))
            (first | with_reducible exact unhide SD | with_reducible exact unhide SA | with_reducible exact unhide SB | with_reducible exact unhide SAB | with_reducible exact unhide SBA | with_reducible exact unhide S1 | with_reducible exact keepA (unhide S1) | with_reducible exact keepA (keepA (unhide S1)) | with_reducible exact keepA (by assumption) | with_reducible exact keepS (by simp <;> omega) (by assumption))
            ((go_at_call 11; (first
              | (with_reducible refine (unhide C0).mono ?_; have RV := R0; rintro e w6 ⟨q, ys, rfl, b6, g6⟩; have R6 := hide ((unhide RV).next b6); have G6 := hide g6; have S1 := hide (unhide SV w6 (unhide R6).bel); have zv := hide (unhide RV).bel.size; have z6 : wr.heap.size ≤ w6.heap.size := (unhide R6).bel.size; clear b6 g6; obtain ⟨n0, n1, n2, n3, n4⟩ := ((((unhide R6).allocB.next ((Below.refl _ _).alloc (Nat.le_refl _) (.cells (apV vs al en2 false) 27))).bbox)).cells)
              | (with_reducible refine (unhide CA).mono ?_; have RV := RA; rintro e w6 ⟨q, ys, rfl, b6, g6⟩; have R6 := hide ((unhide RV).next b6); have G6 := hide g6; have S1 := hide (unhide SV w6 (unhide R6).bel); have zv := hide (unhide RV).bel.size; have z6 : wr.heap.size ≤ w6.heap.size := (unhide R6).bel.size; clear b6 g6; obtain ⟨m0, m1, m2, m3, m4⟩ := ((unhide R6).allocB.abox).cells; obtain ⟨n0, n1, n2, n3, n4⟩ := (((unhide R6).allocB.bbox).other (q := wr.heap.size) (Nat.ne_of_gt (unhide R6).alt) (vs : Int) (al : Int) (en2 : Int) false).cells)
              | (with_reducible refine (unhide CB).mono ?_; have RV := RB; rintro e w6 ⟨q, ys, rfl, b6, g6⟩; have R6 := hide ((unhide RV).next b6); have G6 := hide g6; have S1 := hide (unhide SV w6 (unhide R6).bel); have zv := hide (unhide RV).bel.size; have z6 : wr.heap.size ≤ w6.heap.size := (unhide R6).bel.size; clear b6 g6; obtain ⟨n0, n1, n2, n3, n4⟩ := (((unhide R6).next ((Below.refl _ _).alloc (Nat.le_refl _) (.cells (apV vs al en2 false) 27))).bbox).cells)
              | (with_reducible refine (unhide CAB).mono ?_; have RV := RAB1; rintro e w6 ⟨q, ys, rfl, b6, g6⟩; have R6 := hide ((unhide RV).next b6); have G6 := hide g6; have S1 := hide (unhide SV w6 (unhide R6).bel); have zv := hide (unhide RV).bel.size; have z6 : wr.heap.size ≤ w6.heap.size := (unhide R6).bel.size; clear b6 g6; obtain ⟨m0, m1, m2, m3, m4⟩ := ((unhide R6).abox).cells; obtain ⟨n0, n1, n2, n3, n4⟩ := (((unhide R6).bbox).other (q := wr.heap.size) (by omega) (vs : Int) (al : Int) (en2 : Int) false).cells)
              | (with_reducible refine (unhide CBA).mono ?_; have RV := RBA1; rintro e w6 ⟨q, ys, rfl, b6, g6⟩; have R6 := hide ((unhide RV).next b6); have G6 := hide g6; have S1 := hide (unhide SV w6 (unhide R6).bel); have zv := hide (unhide RV).bel.size; have z6 : wr.heap.size ≤ w6.heap.size := (unhide R6).bel.size; clear b6 g6; obtain ⟨m0, m1, m2, m3, m4⟩ := ((unhide R6).abox).cells; obtain ⟨n0, n1, n2, n3, n4⟩ := (((unhide R6).bbox).other (q := wr.heap.size + 1) (by omega) (vs : Int) (al : Int) (en2 : Int) false).cells))))
          all_goals go_wp2
          all_goals go_meet
          all_goals
            obtain rfl := unhide HVS
            obtain rfl := unhide HEN2
          all_goals first
            | with_reducible exact TrR.okAB (unhide ST) (unhide HGL) (unhide R6).bel (unhide HOK2) (unhide zv) (unhide G6) _ _ _ _
            | with_reducible exact TrR.okBA (unhide ST) (unhide HGL) (unhide R6).bel (unhide HOK2) (unhide zv) (unhide G6) _ _ _ _
            | with_reducible exact TrR.okB (unhide ST) (unhide HGL) (unhide R6) (unhide HOK2) (unhide zv) (unhide G6) _ _ _ _
            | with_reducible exact TrR.ok (unhide ST) (unhide HGL) (unhide R6).allocB (unhide HOK2) (unhide zv) (unhide G6) ((Below.refl _ _).alloc (Nat.le_refl _) _) _ _ _ _
            | with_reducible exact TrR.ok (unhide ST) (unhide HGL) (unhide R6) (unhide HOK2) (unhide zv) (unhide G6) (Below.refl _ _) _ _ _ _
        · obtain ⟨f, p, c, t, err, hA, hbad⟩ := tryA_bad hok
          have C := hide (fun V hV => (unhide ST).try_bad cs s1 (-1) ck s2 ea en ec ce g6 fit f p c t err hA hbad V hV)
          have HOK2 := hide hok
          clear hok d1 d2 d5 s1 s2 fit g6 hA hbad
          have C0 := hide (unhide C _ (unhide R0).bel)
          have CA := hide (unhide C _ (unhide RA).bel)
          have CB := hide (unhide C _ (unhide RB).bel)
          have CAB := hide (unhide C _ (unhide RAB).bel)
          have CBA := hide (unhide C _ (unhide RBA).bel)
          clear C
          go_region_held3 (fun w' => w'.cell? ⟨b, off + j * 10 + 1, none⟩ = some (sv cs) ∧ w'.cell? ⟨b, off + j * 10 + 2, none⟩ = some (sv ck) ∧ w'.cell? ⟨b, off + j * 10 + 5, none⟩ = some (.slice ea en ec))
            (first | with_reducible exact unhide SD | with_reducible exact unhide SA | with_reducible exact unhide SB | with_reducible exact unhide SAB | with_reducible exact unhide SBA | with_reducible exact unhide S1 | with_reducible exact keepA (unhide S1) | with_reducible exact keepA (keepA (unhide S1)) | with_reducible exact keepA (by assumption) | with_reducible exact keepS (by simp <;> omega) (by assumption))
            ((go_at_call 11; (first
              | (with_reducible refine (unhide C0).mono ?_; have RV := R0; rintro e w6 ⟨rfl, b6⟩; have R6 := hide ((unhide RV).next b6); have S1 := hide (unhide SV w6 (unhide R6).bel); have zv := hide (unhide RV).bel.size; have z6 : wr.heap.size ≤ w6.heap.size := (unhide R6).bel.size; clear b6; obtain ⟨n0, n1, n2, n3, n4⟩ := ((((unhide R6).allocB.next ((Below.refl _ _).alloc (Nat.le_refl _) (.cells (apV f p c t) 27))).bbox)).cells)
              | (with_reducible refine (unhide CA).mono ?_; have RV := RA; rintro e w6 ⟨rfl, b6⟩; have R6 := hide ((unhide RV).next b6); have S1 := hide (unhide SV w6 (unhide R6).bel); have zv := hide (unhide RV).bel.size; have z6 : wr.heap.size ≤ w6.heap.size := (unhide R6).bel.size; clear b6; obtain ⟨m0, m1, m2, m3, m4⟩ := ((unhide R6).allocB.abox).cells; obtain ⟨n0, n1, n2, n3, n4⟩ := (((unhide R6).allocB.bbox).other (q := wr.heap.size) (Nat.ne_of_gt (unhide R6).alt) f p c t).cells)
              | (with_reducible refine (unhide CB).mono ?_; have RV := RB; rintro e w6 ⟨rfl, b6⟩; have R6 := hide ((unhide RV).next b6); have S1 := hide (unhide SV w6 (unhide R6).bel); have zv := hide (unhide RV).bel.size; have z6 : wr.heap.size ≤ w6.heap.size := (unhide R6).bel.size; clear b6; obtain ⟨n0, n1, n2, n3, n4⟩ := (((unhide R6).next ((Below.refl _ _).alloc (Nat.le_refl _) (.cells (apV f p c t) 27))).bbox).cells)
              | (with_reducible refine (unhide CAB).mono ?_; have RV := RAB1; rintro e w6 ⟨rfl, b6⟩; have R6 := hide ((unhide RV).next b6); have S1 := hide (unhide SV w6 (unhide R6).bel); have zv := hide (unhide RV).bel.size; have z6 : wr.heap.size ≤ w6.heap.size := (unhide R6).bel.size; clear b6; obtain ⟨m0, m1, m2, m3, m4⟩ := ((unhide R6).abox).cells; obtain ⟨n0, n1, n2, n3, n4⟩ := (((unhide R6).bbox).other (q := wr.heap.size) (by omega) f p c t).cells)
              | (with_reducible refine (unhide CBA).mono ?_; have RV := RBA1; rintro e w6 ⟨rfl, b6⟩; have R6 := hide ((unhide RV).next b6); have S1 := hide (unhide SV w6 (unhide R6).bel); have zv := hide (unhide RV).bel.size; have z6 : wr.heap.size ≤ w6.heap.size := (unhide R6).bel.size; clear b6; obtain ⟨m0, m1, m2, m3, m4⟩ := ((unhide R6).abox).cells; obtain ⟨n0, n1, n2, n3, n4⟩ := (((unhide R6).bbox).other (q := wr.heap.size + 1) (by omega) f p c t).cells))))
          all_goals go_wp2
          all_goals go_meet
          all_goals first
            | with_reducible exact TrR.badAB (unhide ST) (unhide HGL) (unhide R6).bel (unhide HOK2) _ _ _ _ _
            | with_reducible exact TrR.badBA (unhide ST) (unhide HGL) (unhide R6).bel (unhide HOK2) _ _ _ _ _
            | with_reducible exact TrR.badB (unhide ST) (unhide HGL) (unhide R6) (unhide HOK2) _ _ _ _ _
            | with_reducible exact TrR.bad (unhide ST) (unhide HGL) (unhide R6).allocB (unhide HOK2) _ _ _ _ _
            | with_reducible exact TrR.bad (unhide ST) (unhide HGL) (unhide R6) (unhide HOK2) _ _ _ _ _
      case rest =>
        obtain ⟨ab2, bb, rfl, rfl, hcase, hG⟩ := hcut
        obtain ⟨W7, hW7⟩ : ∃ W7, W7 = wc := ⟨_, rfl⟩
        rw [← hW7] at hcase hG ⊢
        clear hW7
        clear hG ST HGL SD SV R0 RA RB RAB RBA RAB1 RBA1 SA SB SAB SBA d1 d2 d5 g6
        rcases hcase with ⟨hok, rfl, q7, hB, hH, h1⟩ | ⟨hok, hB, hL, err, rfl⟩
        · have hl16 := hok.2.2.1.2.1
          have CA7 := hide ((hH.less (G' := fun _ => False) (fun q hq => hq.elim)).add cs s1 ck s2 fit hok (by omega) (fun q hq => hq.elim))
          obtain ⟨vs, hvs⟩ : ∃ vs : Nat, vs = I.ver cs := ⟨_, rfl⟩
          obtain ⟨en2, hen2⟩ : ∃ en2 : Nat, en2 = ce.length := ⟨_, rfl⟩
          rw [← hvs, ← hen2] at hB
          rw [← hvs, ← hen2] at CA7
          rw [← hen2] at hl16 h1
          have hgt : decide ((0 : Int) < (en2 : Int)) = true := decide_eq_true (by omega)
          obtain ⟨c0, c1, c2, c3, c4⟩ := hB.cells
          clear hok hB hH hvs hen2 s1 s2 fit
          go_wp2_with fail
          refine (unhide CA7).mono ?_
          rintro e w8 ⟨rfl, st8, k8⟩
          have ST8 : Hid (LSt w w8 (fun _ => False) x (17 * (j + 1)) (I.added cs ck vs ce)) := hide (st8.more (by omega))
          clear st8 k8 CA7 c0 c1 c2 c3 c4
          go_wp2
          go_roundw
          case rel => exact ⟨j + 1, _, by go_num, by omega, by omega, ST8⟩
          case measure => simp [intOf]; omega
        · have ST8 : Hid (LSt w W7 (fun _ => False) x (17 * (j + 1)) I) := hide (hL.more (by omega))
          obtain ⟨c0, c1, c2, c3, c4⟩ := hB.cells
          clear hok hB hL s1 s2 fit
          by_cases he : err = 0
          · subst he
            go_wp2
            go_roundw
            case rel => exact ⟨j + 1, _, by go_num, by omega, by omega, ST8⟩
            case measure => simp [intOf]; omega
          · have hne : (err == 0) = false := beq_eq_false_iff_ne.2 he
            clear he
            go_wp2
            go_roundw
            case rel => exact ⟨j + 1, _, by go_num, by omega, by omega, ST8⟩
            case measure => simp [intOf]; omega
    · have HP : Hid (FilPost w (.returned (.pointer (some ⟨x, 0, none⟩))) wr) := hide ⟨x, I, rfl, (unhide ST).more (by omega)⟩
      have hex : decide ((j : Int) < (cn : Int)) = true → decide ((j : Int) < 40) = false := fun h => decide_eq_false (fun h2 => hlt ⟨by have := of_decide_eq_true h; omega, by omega⟩)
      clear ST
      by_cases hj1 : j < cn
      · have e1 : decide ((j : Int) < (cn : Int)) = true := decide_eq_true (by omega)
        have e2 := hex e1
        clear hex hlt
        go_wp2
        go_ret
        exact unhide HP
      · have e1 : decide ((j : Int) < (cn : Int)) = false := decide_eq_false (by omega)
        clear hex hlt
        go_wp2
        go_ret
        exact unhide HP
end Go.Proofs.Ytgpijeaehkabdaa

/-
  DERIVED. The law's statement '_, b, e := x.Try(..)' in whatever order, told without an index.
-/
namespace Go.Proofs.Ytgpijeaehkabdaa
open Go.RowKit Go.Maps
set_option linter.unusedVariables false

/-- What the statement leaves. -/
def TrB (wr : World) (I : Ix) (s k : List UInt8) (es : List Evn) (t19 t20 t21 : Value) (wx : World) : Prop :=
  ∃ ab bb, t19 = .pointer (some ⟨ab, 0, none⟩) ∧ t20 = .pointer (some ⟨bb, 0, none⟩) ∧ Below wr.heap.size wr wx ∧ wr.heap.size ≤ bb ∧ ((tryOk I s (-1) k es ∧ t21 = .int .i64 0 ∧ ∃ q ys, BBox wx bb s k (I.ver s : Nat) (.slice (some ⟨q, 0, none⟩) es.length es.length) ∧ EvBlk wx q es.length ys ∧ ys.map (·.1) = es ∧ (∀ y ∈ ys, wr.heap.size ≤ y.2) ∧ wr.heap.size ≤ q) ∨ (¬ tryOk I s (-1) k es ∧ BBox wx bb [] [] 0 (.slice none 0 0) ∧ ∃ err : Int, t21 = .int .i64 err))

theorem TrB.fin {wr wx : World} {I : Ix} {s k : List UInt8} {es : List Evn} {ab bb q : Nat} {ys : List (Evn × Nat)} (hok : tryOk I s (-1) k es) (hb : Below wr.heap.size wr wx) (hB : BBox wx bb s k (I.ver s : Nat) (.slice (some ⟨q, 0, none⟩) es.length es.length)) (hk : EvBlk wx q es.length ys) (he : ys.map (·.1) = es) (hy : ∀ y ∈ ys, wr.heap.size ≤ y.2) (hq : wr.heap.size ≤ q) (hbb : wr.heap.size ≤ bb) :
    TrB wr I s k es (.pointer (some ⟨ab, 0, none⟩)) (.pointer (some ⟨bb, 0, none⟩)) (.int .i64 0) wx := ⟨ab, bb, rfl, rfl, hb, hbb, .inl ⟨hok, rfl, q, ys, hB, hk, he, hy, hq⟩⟩
theorem TrB.ok {wr P V V1 : World} {I : Ix} {s k : List UInt8} {es : List Evn} {ab bb q : Nat} {ys : List (Evn × Nat)} (h : RSt wr P (some ab) (some bb)) (hok : tryOk I s (-1) k es) (hV : wr.heap.size ≤ V.heap.size) (g : Got V V1 q es ys) (hP : Below V1.heap.size V1 P) (f p c : Int) (t : Bool) :
    TrB wr I s k es (.pointer (some ⟨ab, 0, none⟩)) (.pointer (some ⟨bb, 0, none⟩)) (.int .i64 0) (stored P ab bb f p c t s k (I.ver s : Nat) (.slice (some ⟨q, 0, none⟩) es.length es.length)) := by
  obtain ⟨h1, h2, h3, h4, h5, h6⟩ := h.stored f p c t s k (I.ver s : Nat) (.slice (some ⟨q, 0, none⟩) es.length es.length)
  have bP : EvBlk P q es.length ys := g.blk.same (hP.block q g.blk.lt) (fun y hy => hP.block y.2 (g.blk.2 y hy).1.lt)
  have ha := (h.a ab rfl).1
  have hb := (h.b bb rfl).1
  have bS : EvBlk (Go.Proofs.Ytgpijeaehkabdaa.stored P ab bb f p c t s k (I.ver s : Nat) (.slice (some ⟨q, 0, none⟩) es.length es.length)) q es.length ys :=
    bP.same (stored_far P f p c t s k _ _ (bP.kind ha (by decide)) (bP.kind hb (by decide))) (fun y hy => stored_far P f p c t s k _ _ ((bP.2 y hy).1.kind ha (by decide)) ((bP.2 y hy).1.kind hb (by decide)))
  exact TrB.fin hok h3 h2 bS g.evs (fun y hy => by have := g.new y hy; omega) (by have := g.hq; omega) h6
theorem TrB.bad {wr P : World} {I : Ix} {s k : List UInt8} {es : List Evn} {ab bb : Nat} (h : RSt wr P (some ab) (some bb)) (hok : ¬ tryOk I s (-1) k es) (f p c : Int) (t : Bool) (err : Int) :
    TrB wr I s k es (.pointer (some ⟨ab, 0, none⟩)) (.pointer (some ⟨bb, 0, none⟩)) (.int .i64 err) (stored P ab bb f p c t [] [] 0 (.slice none 0 0)) := by
  obtain ⟨h1, h2, h3, h4, h5, h6⟩ := h.stored f p c t [] [] 0 (.slice none 0 0)
  exact ⟨ab, bb, rfl, rfl, h3, h6, .inr ⟨hok, h2, err, rfl⟩⟩
theorem TrB.okAB {wr V V1 : World} {I : Ix} {s k : List UInt8} {es : List Evn} {q : Nat} {ys : List (Evn × Nat)} (h : Below wr.heap.size wr V1) (hok : tryOk I s (-1) k es) (hV : wr.heap.size ≤ V.heap.size) (g : Got V V1 q es ys) (f p c : Int) (t : Bool) :
    TrB wr I s k es (.pointer (some ⟨V1.heap.size, 0, none⟩)) (.pointer (some ⟨V1.heap.size + 1, 0, none⟩)) (.int .i64 0) ((V1.alloc (.cells (apV f p c t) 27)).alloc (.cells (bt s k (I.ver s : Nat) (some ⟨q, 0, none⟩) es.length es.length) 30)) := by
  have hb : Below V1.heap.size V1 ((V1.alloc (.cells (apV f p c t) 27)).alloc (.cells (bt s k (I.ver s : Nat) (some ⟨q, 0, none⟩) es.length es.length) 30)) := ((Below.refl _ _).alloc (Nat.le_refl _) _).alloc (by simp) _
  have hz := h.size
  exact TrB.fin hok (h.trans (hb.mono hz)) (by unfold BBox; rw [show V1.heap.size + 1 = (V1.alloc (.cells (apV f p c t) 27)).heap.size by simp]; exact heap_alloc_self _ _) (g.blk.same (hb.block q g.blk.lt) (fun y hy => hb.block y.2 (g.blk.2 y hy).1.lt)) g.evs (fun y hy => by have := g.new y hy; omega) (by have := g.hq; omega) (by omega)
theorem TrB.okBA {wr V V1 : World} {I : Ix} {s k : List UInt8} {es : List Evn} {q : Nat} {ys : List (Evn × Nat)} (h : Below wr.heap.size wr V1) (hok : tryOk I s (-1) k es) (hV : wr.heap.size ≤ V.heap.size) (g : Got V V1 q es ys) (f p c : Int) (t : Bool) :
    TrB wr I s k es (.pointer (some ⟨V1.heap.size + 1, 0, none⟩)) (.pointer (some ⟨V1.heap.size, 0, none⟩)) (.int .i64 0) ((V1.alloc (.cells (bt s k (I.ver s : Nat) (some ⟨q, 0, none⟩) es.length es.length) 30)).alloc (.cells (apV f p c t) 27)) := by
  have hb : Below V1.heap.size V1 ((V1.alloc (.cells (bt s k (I.ver s : Nat) (some ⟨q, 0, none⟩) es.length es.length) 30)).alloc (.cells (apV f p c t) 27)) := ((Below.refl _ _).alloc (Nat.le_refl _) _).alloc (by simp) _
  have hz := h.size
  exact TrB.fin hok (h.trans (hb.mono hz)) (by unfold BBox; rw [Below.heap_alloc _ _ _ (by simp)]; exact heap_alloc_self _ _) (g.blk.same (hb.block q g.blk.lt) (fun y hy => hb.block y.2 (g.blk.2 y hy).1.lt)) g.evs (fun y hy => by have := g.new y hy; omega) (by have := g.hq; omega) (by omega)
theorem TrB.okB {wr V V1 : World} {I : Ix} {s k : List UInt8} {es : List Evn} {q bb : Nat} {ys : List (Evn × Nat)} (h : RSt wr V1 none (some bb)) (hok : tryOk I s (-1) k es) (hV : wr.heap.size ≤ V.heap.size) (g : Got V V1 q es ys) (f p c : Int) (t : Bool) :
    TrB wr I s k es (.pointer (some ⟨V1.heap.size, 0, none⟩)) (.pointer (some ⟨bb, 0, none⟩)) (.int .i64 0) (((((V1.alloc (.cells (apV f p c t) 27)).setCell ⟨bb, 0, none⟩ (sv s)).setCell ⟨bb, 1, none⟩ (sv k)).setCell ⟨bb, 2, none⟩ (.int .i64 (I.ver s : Nat))).setCell ⟨bb, 3, none⟩ (.slice (some ⟨q, 0, none⟩) es.length es.length)) := by
  have hb : Below V1.heap.size V1 (V1.alloc (.cells (apV f p c t) 27)) := (Below.refl _ _).alloc (Nat.le_refl _) _
  have hn := h.next hb
  have hz := h.bel.size
  have bP : EvBlk (V1.alloc (.cells (apV f p c t) 27)) q es.length ys := g.blk.same (hb.block q g.blk.lt) (fun y hy => hb.block y.2 (g.blk.2 y hy).1.lt)
  have far : ∀ z, z ≠ bb → (((((V1.alloc (.cells (apV f p c t) 27)).setCell ⟨bb, 0, none⟩ (sv s)).setCell ⟨bb, 1, none⟩ (sv k)).setCell ⟨bb, 2, none⟩ (.int .i64 (I.ver s : Nat))).setCell ⟨bb, 3, none⟩ (.slice (some ⟨q, 0, none⟩) es.length es.length)).heap[z]? = (V1.alloc (.cells (apV f p c t) 27)).heap[z]? := fun z h1 => by
    rw [heap_setCell_other _ ⟨bb, 3, none⟩ _ _ h1, heap_setCell_other _ ⟨bb, 2, none⟩ _ _ h1, heap_setCell_other _ ⟨bb, 1, none⟩ _ _ h1, heap_setCell_other _ ⟨bb, 0, none⟩ _ _ h1]
  have hbb := (hn.b bb rfl)
  exact TrB.fin hok (below_putB hn.bel hbb.2 s k (I.ver s : Nat) _) (hn.bbox.put s k (I.ver s : Nat) _) (bP.same (far q (bP.kind hbb.1 (by decide))) (fun y hy => far y.2 ((bP.2 y hy).1.kind hbb.1 (by decide)))) g.evs (fun y hy => by have := g.new y hy; omega) (by have := g.hq; omega) hbb.2
theorem TrB.badAB {wr V1 : World} {I : Ix} {s k : List UInt8} {es : List Evn} (h : Below wr.heap.size wr V1) (hok : ¬ tryOk I s (-1) k es) (f p c : Int) (t : Bool) (err : Int) :
    TrB wr I s k es (.pointer (some ⟨V1.heap.size, 0, none⟩)) (.pointer (some ⟨V1.heap.size + 1, 0, none⟩)) (.int .i64 err) ((V1.alloc (.cells (apV f p c t) 27)).alloc (.cells (bt [] [] 0 none 0 0) 30)) :=
  ⟨_, _, rfl, rfl, (h.alloc h.size _).alloc (Nat.le_trans h.size (by simp)) _, Nat.le_succ_of_le h.size, .inr ⟨hok, by unfold BBox; rw [show V1.heap.size + 1 = (V1.alloc (.cells (apV f p c t) 27)).heap.size by simp]; exact heap_alloc_self _ _, err, rfl⟩⟩
theorem TrB.badBA {wr V1 : World} {I : Ix} {s k : List UInt8} {es : List Evn} (h : Below wr.heap.size wr V1) (hok : ¬ tryOk I s (-1) k es) (f p c : Int) (t : Bool) (err : Int) :
    TrB wr I s k es (.pointer (some ⟨V1.heap.size + 1, 0, none⟩)) (.pointer (some ⟨V1.heap.size, 0, none⟩)) (.int .i64 err) ((V1.alloc (.cells (bt [] [] 0 none 0 0) 30)).alloc (.cells (apV f p c t) 27)) :=
  ⟨_, _, rfl, rfl, (h.alloc h.size _).alloc (Nat.le_trans h.size (by simp)) _, h.size, .inr ⟨hok, by unfold BBox; rw [Below.heap_alloc _ _ _ (by simp)]; exact heap_alloc_self _ _, err, rfl⟩⟩
theorem TrB.badB {wr V1 : World} {I : Ix} {s k : List UInt8} {es : List Evn} {bb : Nat} (h : RSt wr V1 none (some bb)) (hok : ¬ tryOk I s (-1) k es) (f p c : Int) (t : Bool) (err : Int) :
    TrB wr I s k es (.pointer (some ⟨V1.heap.size, 0, none⟩)) (.pointer (some ⟨bb, 0, none⟩)) (.int .i64 err) (((((V1.alloc (.cells (apV f p c t) 27)).setCell ⟨bb, 0, none⟩ (sv [])).setCell ⟨bb, 1, none⟩ (sv [])).setCell ⟨bb, 2, none⟩ (.int .i64 0)).setCell ⟨bb, 3, none⟩ (.slice none 0 0)) := by
  have hn := h.next ((Below.refl V1.heap.size V1).alloc (Nat.le_refl _) (.cells (apV f p c t) 27))
  exact ⟨_, _, rfl, rfl, below_putB hn.bel (hn.b bb rfl).2 [] [] 0 _, (hn.b bb rfl).2, .inr ⟨hok, hn.bbox.put [] [] 0 _, err, rfl⟩⟩

/-- Events in blocks that no memory of F holds. -/
theorem evfar_blk {F : Nat → Prop} {W : World} {q : Nat} {es : List Evn} {ys : List (Evn × Nat)} (hk : EvBlk W q es.length ys) (he : ys.map (·.1) = es) (h16 : es.length ≤ 16) (hq : ¬ F q) (hy : ∀ y ∈ ys, ¬ F y.2) : EvFar F W (some ⟨q, 0, none⟩) es.length es.length es := by
  have hl : ys.length = es.length := by have := congrArg List.length he; simpa using this
  refine ⟨fun A hA hkk => ?_, fun b off e _ => ?_⟩
  · have b2 : EvBlk A q es.length ys := hk.same (hkk q hk.lt hq) (fun y hyy => hkk y.2 (hk.2 y hyy).1.lt (hy y hyy))
    have := b2.evl hl h16
    rwa [he] at this
  · cases e
    exact ⟨hk.lt, hq⟩
end Go.Proofs.Ytgpijeaehkabdaa

/-
  DERIVED. The walks of part.
-/
namespace Go.Proofs.Ytgpijeaehkabdaa
open Go.RowKit Go.Maps
set_option linter.unusedVariables false

/-- What part answers: so many, and where they lie. -/
def PartEPost (w : World) (a : Option Addr) (n fr mo : Nat) (e : Ending) (w' : World) : Prop :=
  ∃ a' c', e = .returned (.tuple #[.slice a' (min mo (n - fr)) c', .int .i64 0]) ∧ (min mo (n - fr) ≠ 0 → ∀ q, a = some ⟨q, 0, none⟩ → a' = some ⟨q, fr * 6, none⟩) ∧ min mo (n - fr) ≤ c' ∧ w' = w

set_option maxRecDepth 20000 in
set_option maxHeartbeats 4000000 in
theorem PartE_in (w : World) (q n c fr mo : Nat) (hnc : n ≤ c) (hc : c ≤ 9223372036854775807) (hfr : fr < n) (hmo : mo ≤ 9223372036854775807) :
    Calls Try.prog 28 #[.slice (some ⟨q, 0, none⟩) n c, .int .i64 (fr : Int), .int .i64 (mo : Int)] w (PartEPost w (some ⟨q, 0, none⟩) n fr mo) := by
  have h1 : decide ((fr : Int) < 0) = false := decide_eq_false (by omega)
  have h2 : decide ((mo : Int) < 0) = false := decide_eq_false (by omega)
  by_cases hm : n - fr < mo
  · have HP : Hid (PartEPost w (some ⟨q, 0, none⟩) n fr mo (.returned (.tuple #[.slice (some ⟨q, fr * 6, none⟩) (n - fr) (c - fr), .int .i64 0])) w) := hide ⟨_, c - fr, by rw [Nat.min_eq_right (by omega)], fun _ z hz => by cases hz; rfl, by omega, rfl⟩
    go_enter Try.func28, Try.ntmps28
    go_wp2
    go_ret2
    exact unhide HP
  · have HP : Hid (PartEPost w (some ⟨q, 0, none⟩) n fr mo (.returned (.tuple #[.slice (some ⟨q, fr * 6, none⟩) mo (c - fr), .int .i64 0])) w) := hide ⟨_, c - fr, by rw [Nat.min_eq_left (by omega)], fun _ z hz => by cases hz; rfl, by omega, rfl⟩
    go_enter Try.func28, Try.ntmps28
    go_wp2
    go_ret2
    exact unhide HP

set_option maxRecDepth 20000 in
set_option maxHeartbeats 4000000 in
theorem PartE_out (w : World) (q n c fr mo : Nat) (hnc : n ≤ c) (hc : c ≤ 9223372036854775807) (hfr : n ≤ fr) (hf : fr ≤ 9223372036854775807) (hmo : mo ≤ 9223372036854775807) :
    Calls Try.prog 28 #[.slice (some ⟨q, 0, none⟩) n c, .int .i64 (fr : Int), .int .i64 (mo : Int)] w (PartEPost w (some ⟨q, 0, none⟩) n fr mo) := by
  have h1 : decide ((fr : Int) < 0) = false := decide_eq_false (by omega)
  have h2 : decide ((mo : Int) < 0) = false := decide_eq_false (by omega)
  have HP : Hid (∀ a' c', PartEPost w (some ⟨q, 0, none⟩) n fr mo (.returned (.tuple #[.slice a' 0 c', .int .i64 0])) w) := hide (fun a' c' => ⟨a', c', by rw [show min mo (n - fr) = 0 by omega], fun h => absurd (show min mo (n - fr) = 0 by omega) h, by omega, rfl⟩)
  have hmin : min (fr : Int) (n : Int) = (n : Int) := Int.min_eq_right (by omega)
  have hm0 : min (mo : Int) 0 = 0 := Int.min_eq_right (by omega)
  by_cases hz : mo = 0
  · subst hz
    by_cases hcn : c = n
    · subst hcn
      by_cases hfe : fr = c
      · subst hfe
        go_enter Try.func28, Try.ntmps28
        go_wp2
        all_goals go_ret2
        all_goals exact unhide HP _ _
      · have hfl : c < fr := by omega
        go_enter Try.func28, Try.ntmps28
        go_wp2
        all_goals go_ret2
        all_goals exact unhide HP _ _
    · have hlc : n < c := by omega
      clear hcn
      by_cases hfe : fr = n
      · subst hfe
        go_enter Try.func28, Try.ntmps28
        go_wp2
        all_goals go_ret2
        all_goals exact unhide HP _ _
      · have hfl : n < fr := by omega
        go_enter Try.func28, Try.ntmps28
        go_wp2
        all_goals go_ret2
        all_goals exact unhide HP _ _
  · have hz' : 0 < mo := by omega
    clear hz
    by_cases hcn : c = n
    · subst hcn
      by_cases hfe : fr = c
      · subst hfe
        go_enter Try.func28, Try.ntmps28
        go_wp2
        all_goals go_ret2
        all_goals exact unhide HP _ _
      · have hfl : c < fr := by omega
        go_enter Try.func28, Try.ntmps28
        go_wp2
        all_goals go_ret2
        all_goals exact unhide HP _ _
    · have hlc : n < c := by omega
      clear hcn
      by_cases hfe : fr = n
      · subst hfe
        go_enter Try.func28, Try.ntmps28
        go_wp2
        all_goals go_ret2
        all_goals exact unhide HP _ _
      · have hfl : n < fr := by omega
        go_enter Try.func28, Try.ntmps28
        go_wp2
        all_goals go_ret2
        all_goals exact unhide HP _ _

set_option maxRecDepth 20000 in
set_option maxHeartbeats 4000000 in
theorem PartE_nil (w : World) (fr mo : Nat) (hf : fr ≤ 9223372036854775807) (hmo : mo ≤ 9223372036854775807) :
    Calls Try.prog 28 #[.slice none 0 0, .int .i64 (fr : Int), .int .i64 (mo : Int)] w (PartEPost w none 0 fr mo) := by
  have h1 : decide ((fr : Int) < 0) = false := decide_eq_false (by omega)
  have h2 : decide ((mo : Int) < 0) = false := decide_eq_false (by omega)
  have HP : Hid (PartEPost w none 0 fr mo (.returned (.tuple #[.slice none 0 0, .int .i64 0])) w) := hide ⟨none, 0, by rw [show min mo (0 - fr) = 0 by omega], fun h => absurd (show min mo (0 - fr) = 0 by omega) h, by omega, rfl⟩
  by_cases hz : mo = 0
  · subst hz
    by_cases hf0 : fr = 0
    · subst hf0
      go_enter Try.func28, Try.ntmps28
      go_wp2
      all_goals go_ret2
      all_goals exact unhide HP
    · have hf1 : 0 < fr := by omega
      go_enter Try.func28, Try.ntmps28
      go_wp2
      all_goals go_ret2
      all_goals exact unhide HP
  · have hz' : 0 < mo := by omega
    clear hz
    by_cases hf0 : fr = 0
    · subst hf0
      go_enter Try.func28, Try.ntmps28
      go_wp2
      all_goals go_ret2
      all_goals exact unhide HP
    · have hf1 : 0 < fr := by omega
      go_enter Try.func28, Try.ntmps28
      go_wp2
      all_goals go_ret2
      all_goals exact unhide HP

/-- What part answers: so many, and where they lie. -/
def PartIPost (w : World) (a : Option Addr) (n fr mo : Nat) (e : Ending) (w' : World) : Prop :=
  ∃ a' c', e = .returned (.tuple #[.slice a' (min mo (n - fr)) c', .int .i64 0]) ∧ (min mo (n - fr) ≠ 0 → ∀ q, a = some ⟨q, 0, none⟩ → a' = some ⟨q, fr, none⟩) ∧ min mo (n - fr) ≤ c' ∧ w' = w

set_option maxRecDepth 20000 in
set_option maxHeartbeats 4000000 in
theorem PartI_in (w : World) (q n c fr mo : Nat) (hnc : n ≤ c) (hc : c ≤ 9223372036854775807) (hfr : fr < n) (hmo : mo ≤ 9223372036854775807) :
    Calls Try.prog 32 #[.slice (some ⟨q, 0, none⟩) n c, .int .i64 (fr : Int), .int .i64 (mo : Int)] w (PartIPost w (some ⟨q, 0, none⟩) n fr mo) := by
  have h1 : decide ((fr : Int) < 0) = false := decide_eq_false (by omega)
  have h2 : decide ((mo : Int) < 0) = false := decide_eq_false (by omega)
  by_cases hm : n - fr < mo
  · have HP : Hid (PartIPost w (some ⟨q, 0, none⟩) n fr mo (.returned (.tuple #[.slice (some ⟨q, fr, none⟩) (n - fr) (c - fr), .int .i64 0])) w) := hide ⟨_, c - fr, by rw [Nat.min_eq_right (by omega)], fun _ z hz => by cases hz; rfl, by omega, rfl⟩
    go_enter Try.func32, Try.ntmps32
    go_wp2
    go_ret2
    exact unhide HP
  · have HP : Hid (PartIPost w (some ⟨q, 0, none⟩) n fr mo (.returned (.tuple #[.slice (some ⟨q, fr, none⟩) mo (c - fr), .int .i64 0])) w) := hide ⟨_, c - fr, by rw [Nat.min_eq_left (by omega)], fun _ z hz => by cases hz; rfl, by omega, rfl⟩
    go_enter Try.func32, Try.ntmps32
    go_wp2
    go_ret2
    exact unhide HP

set_option maxRecDepth 20000 in
set_option maxHeartbeats 4000000 in
theorem PartI_out (w : World) (q n c fr mo : Nat) (hnc : n ≤ c) (hc : c ≤ 9223372036854775807) (hfr : n ≤ fr) (hf : fr ≤ 9223372036854775807) (hmo : mo ≤ 9223372036854775807) :
    Calls Try.prog 32 #[.slice (some ⟨q, 0, none⟩) n c, .int .i64 (fr : Int), .int .i64 (mo : Int)] w (PartIPost w (some ⟨q, 0, none⟩) n fr mo) := by
  have h1 : decide ((fr : Int) < 0) = false := decide_eq_false (by omega)
  have h2 : decide ((mo : Int) < 0) = false := decide_eq_false (by omega)
  have HP : Hid (∀ a' c', PartIPost w (some ⟨q, 0, none⟩) n fr mo (.returned (.tuple #[.slice a' 0 c', .int .i64 0])) w) := hide (fun a' c' => ⟨a', c', by rw [show min mo (n - fr) = 0 by omega], fun h => absurd (show min mo (n - fr) = 0 by omega) h, by omega, rfl⟩)
  have hmin : min (fr : Int) (n : Int) = (n : Int) := Int.min_eq_right (by omega)
  have hm0 : min (mo : Int) 0 = 0 := Int.min_eq_right (by omega)
  by_cases hz : mo = 0
  · subst hz
    by_cases hcn : c = n
    · subst hcn
      by_cases hfe : fr = c
      · subst hfe
        go_enter Try.func32, Try.ntmps32
        go_wp2
        all_goals go_ret2
        all_goals exact unhide HP _ _
      · have hfl : c < fr := by omega
        go_enter Try.func32, Try.ntmps32
        go_wp2
        all_goals go_ret2
        all_goals exact unhide HP _ _
    · have hlc : n < c := by omega
      clear hcn
      by_cases hfe : fr = n
      · subst hfe
        go_enter Try.func32, Try.ntmps32
        go_wp2
        all_goals go_ret2
        all_goals exact unhide HP _ _
      · have hfl : n < fr := by omega
        go_enter Try.func32, Try.ntmps32
        go_wp2
        all_goals go_ret2
        all_goals exact unhide HP _ _
  · have hz' : 0 < mo := by omega
    clear hz
    by_cases hcn : c = n
    · subst hcn
      by_cases hfe : fr = c
      · subst hfe
        go_enter Try.func32, Try.ntmps32
        go_wp2
        all_goals go_ret2
        all_goals exact unhide HP _ _
      · have hfl : c < fr := by omega
        go_enter Try.func32, Try.ntmps32
        go_wp2
        all_goals go_ret2
        all_goals exact unhide HP _ _
    · have hlc : n < c := by omega
      clear hcn
      by_cases hfe : fr = n
      · subst hfe
        go_enter Try.func32, Try.ntmps32
        go_wp2
        all_goals go_ret2
        all_goals exact unhide HP _ _
      · have hfl : n < fr := by omega
        go_enter Try.func32, Try.ntmps32
        go_wp2
        all_goals go_ret2
        all_goals exact unhide HP _ _

set_option maxRecDepth 20000 in
set_option maxHeartbeats 4000000 in
theorem PartI_nil (w : World) (fr mo : Nat) (hf : fr ≤ 9223372036854775807) (hmo : mo ≤ 9223372036854775807) :
    Calls Try.prog 32 #[.slice none 0 0, .int .i64 (fr : Int), .int .i64 (mo : Int)] w (PartIPost w none 0 fr mo) := by
  have h1 : decide ((fr : Int) < 0) = false := decide_eq_false (by omega)
  have h2 : decide ((mo : Int) < 0) = false := decide_eq_false (by omega)
  have HP : Hid (PartIPost w none 0 fr mo (.returned (.tuple #[.slice none 0 0, .int .i64 0])) w) := hide ⟨none, 0, by rw [show min mo (0 - fr) = 0 by omega], fun h => absurd (show min mo (0 - fr) = 0 by omega) h, by omega, rfl⟩
  by_cases hz : mo = 0
  · subst hz
    by_cases hf0 : fr = 0
    · subst hf0
      go_enter Try.func32, Try.ntmps32
      go_wp2
      all_goals go_ret2
      all_goals exact unhide HP
    · have hf1 : 0 < fr := by omega
      go_enter Try.func32, Try.ntmps32
      go_wp2
      all_goals go_ret2
      all_goals exact unhide HP
  · have hz' : 0 < mo := by omega
    clear hz
    by_cases hf0 : fr = 0
    · subst hf0
      go_enter Try.func32, Try.ntmps32
      go_wp2
      all_goals go_ret2
      all_goals exact unhide HP
    · have hf1 : 0 < fr := by omega
      go_enter Try.func32, Try.ntmps32
      go_wp2
      all_goals go_ret2
      all_goals exact unhide HP
end Go.Proofs.Ytgpijeaehkabdaa

/-
  DERIVED. Entries in a block of their own; the walk of entryApart.
-/
namespace Go.Proofs.Ytgpijeaehkabdaa
open Go.RowKit Go.Maps
set_option linter.unusedVariables false

/-- An entry that goes out: its place, what it is, the block of its fields. -/
structure Eno where
  pos : Nat
  e : Ent
  fb : Nat
abbrev enA (p : Int) (s : List UInt8) (n : Int) (t : List UInt8) (v : Int) (a : Option Addr) (l c : Nat) : Array Value := #[.int .i64 p, sv s, .int .i64 n, sv t, .int .i64 v, .slice a l c]
def NBox (w : World) (q : Nat) (p : Int) (s : List UInt8) (n : Int) (t : List UInt8) (v : Int) (u : Value) : Prop := w.heap[q]? = some (.cells #[.int .i64 p, sv s, .int .i64 n, sv t, .int .i64 v, u] 45 (0, 0))
theorem NBox.cells {w : World} {q : Nat} {p : Int} {s : List UInt8} {n : Int} {t : List UInt8} {v : Int} {u : Value} (h : NBox w q p s n t v u) : w.cell? ⟨q, 0, none⟩ = some (.int .i64 p) ∧ w.cell? ⟨q, 1, none⟩ = some (sv s) ∧ w.cell? ⟨q, 2, none⟩ = some (.int .i64 n) ∧ w.cell? ⟨q, 3, none⟩ = some (sv t) ∧ w.cell? ⟨q, 4, none⟩ = some (.int .i64 v) ∧ w.cell? ⟨q, 5, none⟩ = some u ∧ ∀ i, w.frozen? ⟨q, i, none⟩ = false :=
  ⟨(cell_of_row _ _ _ _ _ _ h).trans rfl, (cell_of_row _ _ _ _ _ _ h).trans rfl, (cell_of_row _ _ _ _ _ _ h).trans rfl, (cell_of_row _ _ _ _ _ _ h).trans rfl, (cell_of_row _ _ _ _ _ _ h).trans rfl, (cell_of_row _ _ _ _ _ _ h).trans rfl, fun i => by simp [World.frozen?, show w.heap[q]? = _ from h]⟩
theorem NBox.same {w w' : World} {q : Nat} {p : Int} {s : List UInt8} {n : Int} {t : List UInt8} {v : Int} {u : Value} (h : NBox w q p s n t v u) (e : w'.heap[q]? = w.heap[q]?) : NBox w' q p s n t v u := e.trans h
theorem NBox.ev {w : World} {q : Nat} {p : Int} {s : List UInt8} {n : Int} {t : List UInt8} {v : Int} {u : Value} (h : NBox w q p s n t v u) (t' : List UInt8) (v' : Int) (u' : Value) : NBox (((w.setCell ⟨q, 3, none⟩ (sv t')).setCell ⟨q, 4, none⟩ (.int .i64 v')).setCell ⟨q, 5, none⟩ u') q p s n t' v' u' := by
  unfold NBox at h ⊢
  rw [heap_setCell_same _ q 5 _ _ _ (heap_setCell_same _ q 4 _ _ _ (heap_setCell_same w q 3 _ _ _ h))]
  rfl
theorem NBox.all {w : World} {q : Nat} {p : Int} {s : List UInt8} {n : Int} {t : List UInt8} {v : Int} {u : Value} (h : NBox w q p s n t v u) (p' : Int) (s' : List UInt8) (n' : Int) (t' : List UInt8) (v' : Int) (u' : Value) : NBox ((((((w.setCell ⟨q, 0, none⟩ (.int .i64 p')).setCell ⟨q, 1, none⟩ (sv s')).setCell ⟨q, 2, none⟩ (.int .i64 n')).setCell ⟨q, 3, none⟩ (sv t')).setCell ⟨q, 4, none⟩ (.int .i64 v')).setCell ⟨q, 5, none⟩ u') q p' s' n' t' v' u' := by
  unfold NBox at h ⊢
  rw [heap_setCell_same _ q 5 _ _ _ (heap_setCell_same _ q 4 _ _ _ (heap_setCell_same _ q 3 _ _ _ (heap_setCell_same _ q 2 _ _ _ (heap_setCell_same _ q 1 _ _ _ (heap_setCell_same w q 0 _ _ _ h)))))]
  rfl
theorem sizeEntry : (Try.prog.info? 45).map (·.size) = some 6 := by kernel_rfl

def EnPost (p : Int) (s : List UInt8) (n : Int) (t : List UInt8) (v : Int) (fs : List Fld) (w : World) (e : Ending) (w' : World) : Prop :=
  ∃ q, e = .returned (.agg (enA p s n t v (some ⟨q, 0, none⟩) fs.length fs.length)) ∧ w.heap.size ≤ q ∧ FdBlk w' q fs.length fs ∧ Below w.heap.size w w'

set_option maxRecDepth 20000 in
set_option maxHeartbeats 4000000 in
theorem entryApart_go (p : Int) (s : List UInt8) (n : Int) (t : List UInt8) (v : Int) (a : Option Addr) (l c : Nat) (fs : List Fld) (w : World) (hv : FdL w (.slice a l c) fs) (h16 : fs.length ≤ 16) :
    Calls Try.prog 29 #[.agg (enA p s n t v a l c)] w (EnPost p s n t v fs w) := by
  obtain ⟨w1, hw1⟩ : ∃ w1, w1 = (w.alloc (.cells (enA p s n t v a l c) 45)).alloc (.cells (enA 0 [] 0 [] 0 none 0 0) 45) := ⟨_, rfl⟩
  have z1 : w1.heap.size = w.heap.size + 2 := by rw [hw1]; simp
  have b1 : Below w.heap.size w w1 := by rw [hw1]; exact ((Below.refl _ _).alloc (Nat.le_refl _) _).alloc (by simp) _
  have x1 : NBox w1 w.heap.size p s n t v (.slice a l c) := by unfold NBox; rw [hw1, Below.heap_alloc _ _ _ (by simp)]; exact heap_alloc_self _ _
  have y1 : NBox w1 (w.heap.size + 1) 0 [] 0 [] 0 (.slice none 0 0) := by unfold NBox; rw [hw1, show w.heap.size + 1 = (w.alloc (.cells (enA p s n t v a l c) 45)).heap.size by simp]; exact heap_alloc_self _ _
  have CA := hide (apart_go t v a l c fs w1 (hv.below b1 (Nat.le_refl _)) h16)
  obtain ⟨p0, p1, p2, p3, p4, p5, p6⟩ := x1.cells
  obtain ⟨M, hM⟩ : ∃ M, M = fs.length := ⟨_, rfl⟩
  have HM := hide hM
  have HN : Hid (∀ w2, Below w1.heap.size w1 w2 → NBox w2 w.heap.size p s n t v (.slice a l c) ∧ NBox w2 (w.heap.size + 1) 0 [] 0 [] 0 (.slice none 0 0) ∧ Below w.heap.size w w2) := hide (fun w2 b2 => ⟨x1.same (b2.block _ (by omega)), y1.same (b2.block _ (by omega)), b1.trans (b2.mono (by omega))⟩)
  have HZ := hide z1
  clear x1 y1 b1 hv hM z1
  go_enter Try.func29, Try.ntmps29
  go_wp2_with fail
  rw [← hw1]
  clear hw1
  refine (unhide CA).mono ?_
  clear CA
  rintro e w2 ⟨q, rfl, hq, hf, b2⟩
  rw [← unhide HM]
  obtain ⟨x2, y2, bl2⟩ := unhide HN w2 b2
  have hqz := unhide HZ
  obtain ⟨B0, hB0⟩ : ∃ B0, B0 = w.heap.size := ⟨_, rfl⟩
  rw [← hB0] at x2 y2 hqz
  have x3 := x2.ev t v (.slice (some ⟨q, 0, none⟩) M M)
  have oth : ∀ z, z ≠ B0 → (((w2.setCell ⟨B0, 3, none⟩ (sv t)).setCell ⟨B0, 4, none⟩ (.int .i64 v)).setCell ⟨B0, 5, none⟩ (.slice (some ⟨q, 0, none⟩) M M)).heap[z]? = w2.heap[z]? := fun z hz => by
    rw [heap_setCell_other _ ⟨B0, 5, none⟩ _ _ hz, heap_setCell_other _ ⟨B0, 4, none⟩ _ _ hz, heap_setCell_other _ ⟨B0, 3, none⟩ _ _ hz]
  have y3 : NBox (((w2.setCell ⟨B0, 3, none⟩ (sv t)).setCell ⟨B0, 4, none⟩ (.int .i64 v)).setCell ⟨B0, 5, none⟩ (.slice (some ⟨q, 0, none⟩) M M)) (B0 + 1) 0 [] 0 [] 0 (.slice none 0 0) := y2.same (oth _ (by omega))
  have y4 := y3.all p s n t v (.slice (some ⟨q, 0, none⟩) M M)
  have f3 : FdBlk (((w2.setCell ⟨B0, 3, none⟩ (sv t)).setCell ⟨B0, 4, none⟩ (.int .i64 v)).setCell ⟨B0, 5, none⟩ (.slice (some ⟨q, 0, none⟩) M M)) q fs.length fs := hf.same (oth _ (by omega))
  have bl3 : Below w.heap.size w (((w2.setCell ⟨B0, 3, none⟩ (sv t)).setCell ⟨B0, 4, none⟩ (.int .i64 v)).setCell ⟨B0, 5, none⟩ (.slice (some ⟨q, 0, none⟩) M M)) := ((bl2.setCell (p := ⟨B0, 3, none⟩) (by show _ ≤ B0; omega) _).setCell (p := ⟨B0, 4, none⟩) (by show _ ≤ B0; omega) _).setCell (p := ⟨B0, 5, none⟩) (by show _ ≤ B0; omega) _
  obtain ⟨W3, hW3⟩ : ∃ W3, W3 = (((w2.setCell ⟨B0, 3, none⟩ (sv t)).setCell ⟨B0, 4, none⟩ (.int .i64 v)).setCell ⟨B0, 5, none⟩ (.slice (some ⟨q, 0, none⟩) M M)) := ⟨_, rfl⟩
  rw [← hW3] at x3 y3 y4 f3 bl3
  have hne : q ≠ B0 + 1 := by omega
  have f4 : FdBlk ((((((W3.setCell ⟨B0 + 1, 0, none⟩ (.int .i64 p)).setCell ⟨B0 + 1, 1, none⟩ (sv s)).setCell ⟨B0 + 1, 2, none⟩ (.int .i64 n)).setCell ⟨B0 + 1, 3, none⟩ (sv t)).setCell ⟨B0 + 1, 4, none⟩ (.int .i64 v)).setCell ⟨B0 + 1, 5, none⟩ (.slice (some ⟨q, 0, none⟩) M M)) q fs.length fs := f3.same (by
    rw [heap_setCell_other _ ⟨B0 + 1, 5, none⟩ _ _ hne, heap_setCell_other _ ⟨B0 + 1, 4, none⟩ _ _ hne, heap_setCell_other _ ⟨B0 + 1, 3, none⟩ _ _ hne, heap_setCell_other _ ⟨B0 + 1, 2, none⟩ _ _ hne, heap_setCell_other _ ⟨B0 + 1, 1, none⟩ _ _ hne, heap_setCell_other _ ⟨B0 + 1, 0, none⟩ _ _ hne])
  have hB1 : w.heap.size ≤ B0 + 1 := by omega
  have bl4 := (((((bl3.setCell (p := ⟨B0 + 1, 0, none⟩) hB1 (.int .i64 p)).setCell (p := ⟨B0 + 1, 1, none⟩) hB1 (sv s)).setCell (p := ⟨B0 + 1, 2, none⟩) hB1 (.int .i64 n)).setCell (p := ⟨B0 + 1, 3, none⟩) hB1 (sv t)).setCell (p := ⟨B0 + 1, 4, none⟩) hB1 (.int .i64 v)).setCell (p := ⟨B0 + 1, 5, none⟩) hB1 (.slice (some ⟨q, 0, none⟩) M M)
  have Y4 := hide y4
  have F4 := hide f4
  have L4 := hide bl4
  have HQ : Hid (w.heap.size ≤ q) := hide (by omega)
  obtain ⟨q0, q1, q2, q3, q4, q5, q6⟩ := x2.cells
  obtain ⟨r0, r1, r2, r3, r4, r5, r6⟩ := x3.cells
  obtain ⟨s0, s1, s2, s3, s4, s5, s6⟩ := y3.cells
  rw [← hB0]
  clear x2 y2 bl2 x3 y3 y4 f3 f4 bl3 bl4 oth hf hq b2 hqz hB0 HN HZ hne hB1
  go_upto_region 2 with fail
  rw [← hW3]
  clear hW3
  go_wp2
  exact bodyPost_ret (results_cell_row rfl _ _ (B0 + 1) 45 (enA p s n t v (some ⟨q, 0, none⟩) M M) (0, 0) _ rfl (unhide Y4) Try.underlying45 rfl sizeEntry) rfl ⟨q, by rw [unhide HM], unhide HQ, unhide F4, unhide L4⟩
end Go.Proofs.Ytgpijeaehkabdaa

/-
  DERIVED. Rows of entries that go out; the walk of Index.All.
-/
namespace Go.Proofs.Ytgpijeaehkabdaa
open Go.RowKit Go.Maps
set_option linter.unusedVariables false

/-- A block of n entries, the first of them these. -/
def EnBlk (w : World) (q n : Nat) (zs : List Eno) : Prop := (∃ cs : Array Value, w.heap[q]? = some (.cells cs 45 (0, 0)) ∧ cs.size = n * 6 ∧ zs.length ≤ n ∧ ∀ i, (h : i < zs.length) → cs[i * 6]? = some (natV zs[i].pos) ∧ cs[i * 6 + 1]? = some (sv zs[i].e.s) ∧ cs[i * 6 + 2]? = some (natV zs[i].e.num) ∧ cs[i * 6 + 3]? = some (sv zs[i].e.e.type) ∧ cs[i * 6 + 4]? = some (.int .i64 zs[i].e.e.ver) ∧ cs[i * 6 + 5]? = some (.slice (some ⟨zs[i].fb, 0, none⟩) zs[i].e.e.fields.length zs[i].e.e.fields.length)) ∧ ∀ z ∈ zs, FdBlk w z.fb z.e.e.fields.length z.e.e.fields ∧ z.e.e.fields.length ≤ 16
theorem EnBlk.lt {w : World} {q n : Nat} {zs : List Eno} (h : EnBlk w q n zs) : q < w.heap.size := by obtain ⟨⟨cs, h1, _⟩, _⟩ := h; exact lt_of_block h1
theorem EnBlk.same {w w' : World} {q n : Nat} {zs : List Eno} (h : EnBlk w q n zs) (e : w'.heap[q]? = w.heap[q]?) (e2 : ∀ z ∈ zs, w'.heap[z.fb]? = w.heap[z.fb]?) : EnBlk w' q n zs := by
  obtain ⟨⟨cs, h1, h2⟩, h3⟩ := h
  exact ⟨⟨cs, e.trans h1, h2⟩, fun z hz => ⟨(h3 z hz).1.same (e2 z hz), (h3 z hz).2⟩⟩
theorem EnBlk.grown {w w' : World} {q n : Nat} {zs : List Eno} (h : EnBlk w q n zs) (hb : Below w.heap.size w w') : EnBlk w' q n zs := h.same (hb.block q h.lt) (fun z hz => hb.block _ (h.2 z hz).1.lt)
theorem EnBlk.room {w : World} {q n : Nat} {zs : List Eno} (h : EnBlk w q n zs) (hl : zs.length < n) (j : Nat) (hj : j < 6) : (∃ v, w.cell? ⟨q, zs.length * 6 + j, none⟩ = some v) ∧ w.frozen? ⟨q, zs.length * 6 + j, none⟩ = false := by
  obtain ⟨⟨cs, h1, h2, h3, h4⟩, _⟩ := h
  have hlt : zs.length * 6 + j < cs.size := by omega
  exact ⟨⟨cs[zs.length * 6 + j], (cell_of_row _ _ _ _ _ _ h1).trans (Array.getElem?_eq_getElem hlt)⟩, by simp [World.frozen?, h1]⟩
def put6 (w : World) (q i : Nat) (z : Eno) : World := (((((w.setCell ⟨q, i * 6, none⟩ (natV z.pos)).setCell ⟨q, i * 6 + 1, none⟩ (sv z.e.s)).setCell ⟨q, i * 6 + 2, none⟩ (natV z.e.num)).setCell ⟨q, i * 6 + 3, none⟩ (sv z.e.e.type)).setCell ⟨q, i * 6 + 4, none⟩ (.int .i64 z.e.e.ver)).setCell ⟨q, i * 6 + 5, none⟩ (.slice (some ⟨z.fb, 0, none⟩) z.e.e.fields.length z.e.e.fields.length)
theorem put6_other (w : World) (q i : Nat) (z : Eno) {p : Nat} (hp : p ≠ q) : (put6 w q i z).heap[p]? = w.heap[p]? := by
  unfold put6
  rw [heap_setCell_other _ ⟨q, i * 6 + 5, none⟩ _ _ hp, heap_setCell_other _ ⟨q, i * 6 + 4, none⟩ _ _ hp, heap_setCell_other _ ⟨q, i * 6 + 3, none⟩ _ _ hp, heap_setCell_other _ ⟨q, i * 6 + 2, none⟩ _ _ hp, heap_setCell_other _ ⟨q, i * 6 + 1, none⟩ _ _ hp, heap_setCell_other _ ⟨q, i * 6, none⟩ _ _ hp]
theorem EnBlk.put {w : World} {q n : Nat} {zs : List Eno} (h : EnBlk w q n zs) (hl : zs.length < n) (z : Eno) (hf : FdBlk w z.fb z.e.e.fields.length z.e.e.fields) (h16 : z.e.e.fields.length ≤ 16) : EnBlk (put6 w q zs.length z) q n (zs ++ [z]) := by
  obtain ⟨⟨cs, h1, h2, h3, h4⟩, h5⟩ := h
  have hfq : z.fb ≠ q := hf.kind h1 (by decide)
  have e1 := heap_setCell_same w q (zs.length * 6) _ _ (natV z.pos) h1
  have e2 := heap_setCell_same _ q (zs.length * 6 + 1) _ _ (sv z.e.s) e1
  have e3 := heap_setCell_same _ q (zs.length * 6 + 2) _ _ (natV z.e.num) e2
  have e4 := heap_setCell_same _ q (zs.length * 6 + 3) _ _ (sv z.e.e.type) e3
  have e5 := heap_setCell_same _ q (zs.length * 6 + 4) _ _ (.int .i64 z.e.e.ver) e4
  have e6 := heap_setCell_same _ q (zs.length * 6 + 5) _ _ (.slice (some ⟨z.fb, 0, none⟩) z.e.e.fields.length z.e.e.fields.length) e5
  refine ⟨⟨_, e6, by simp [h2], by simp; omega, fun i hi => ?_⟩, fun x hx => ?_⟩
  · simp only [Array.getElem?_setIfInBounds, Array.size_setIfInBounds]
    by_cases hlt : i < zs.length
    · rw [List.getElem_append_left hlt]
      obtain ⟨a0, a1, a2, a3, a4, a5⟩ := h4 i hlt
      refine ⟨?_, ?_, ?_, ?_, ?_, ?_⟩
      · rw [if_neg (by omega), if_neg (by omega), if_neg (by omega), if_neg (by omega), if_neg (by omega), if_neg (by omega)]; exact a0
      · rw [if_neg (by omega), if_neg (by omega), if_neg (by omega), if_neg (by omega), if_neg (by omega), if_neg (by omega)]; exact a1
      · rw [if_neg (by omega), if_neg (by omega), if_neg (by omega), if_neg (by omega), if_neg (by omega), if_neg (by omega)]; exact a2
      · rw [if_neg (by omega), if_neg (by omega), if_neg (by omega), if_neg (by omega), if_neg (by omega), if_neg (by omega)]; exact a3
      · rw [if_neg (by omega), if_neg (by omega), if_neg (by omega), if_neg (by omega), if_neg (by omega), if_neg (by omega)]; exact a4
      · rw [if_neg (by omega), if_neg (by omega), if_neg (by omega), if_neg (by omega), if_neg (by omega), if_neg (by omega)]; exact a5
    · have hi' : i = zs.length := by simp at hi; omega
      subst hi'
      have hf' : (zs ++ [z])[zs.length] = z := by simp
      rw [hf']
      refine ⟨?_, ?_, ?_, ?_, ?_, ?_⟩
      · rw [if_neg (by omega), if_neg (by omega), if_neg (by omega), if_neg (by omega), if_neg (by omega), if_pos rfl, if_pos (by omega)]
      · rw [if_neg (by omega), if_neg (by omega), if_neg (by omega), if_neg (by omega), if_pos rfl, if_pos (by omega)]
      · rw [if_neg (by omega), if_neg (by omega), if_neg (by omega), if_pos rfl, if_pos (by omega)]
      · rw [if_neg (by omega), if_neg (by omega), if_pos rfl, if_pos (by omega)]
      · rw [if_neg (by omega), if_pos rfl, if_pos (by omega)]
      · rw [if_pos rfl, if_pos (by omega)]
  · rcases List.mem_append.1 hx with h' | h'
    · exact ⟨(h5 x h').1.same (put6_other w q _ z ((h5 x h').1.kind h1 (by decide))), (h5 x h').2⟩
    · rw [List.mem_singleton.1 h']
      exact ⟨hf.same (put6_other w q _ z hfq), h16⟩
theorem make_entries (w : World) (n : Nat) (hn : n ≤ 100000) : ∃ w', (Instr.makeSlice 37 (.int .i64 (n : Int)) (.int .i64 (n : Int))).run Try.prog w = .ok (.slice (some ⟨w.heap.size, 0, none⟩) n n) w' ∧ EnBlk w' w.heap.size n [] ∧ w.grownBy w' none := by
  obtain ⟨i, hi, hh⟩ := Option.map_eq_some_iff.1 infoEntry3
  simp only [Prod.mk.injEq] at hh
  have h := run_make (P := Try.prog) w 37 45 i _ Try.underlying37 hi hh.1 .i64 .i64 n n (by omega) (Int.le_refl _) (by rw [hh.2.2]; omega) (by omega)
  rw [hh.2.1, Int.toNat_natCast] at h
  exact ⟨_, h, ⟨⟨_, heap_alloc_self _ _, size_madeCells _ _, Nat.zero_le _, fun i hi => by simp at hi⟩, fun x hx => by simp at hx⟩, World.grownBy_alloc _ _ _⟩

theorem ecell_len (i : Nat) (x : Ent × Nat) : (ecell i x).length = 6 := rfl
theorem ecells_at : ∀ (xs : List (Ent × Nat)) (k i j : Nat) (h : i < xs.length), j < 6 → (ecells xs k)[i * 6 + j]? = (ecell (k + i) xs[i])[j]?
  | [], _, _, _, h, _ => by simp at h
  | x :: r, k, 0, j, h, hj => by
    show (ecell k x ++ ecells r (k + 1))[0 * 6 + j]? = _
    rw [List.getElem?_append_left (by rw [ecell_len]; omega)]
    simp
  | x :: r, k, i + 1, j, h, hj => by
    show (ecell k x ++ ecells r (k + 1))[(i + 1) * 6 + j]? = _
    rw [List.getElem?_append_right (by rw [ecell_len]; omega), ecell_len, show (i + 1) * 6 + j - 6 = i * 6 + j by omega, ecells_at r (k + 1) i j (by simpa using h) hj]
    rw [show k + 1 + i = k + (i + 1) by omega]
    rfl

/-- An entry of the index, where it lies. -/
theorem IxIn.ent {w : World} {F : Nat → Prop} {st mp mk N : Nat} {I : Ix} {xs : List (Ent × Nat)} {q c : Nat} {pf : List UInt8 → Value} {D1 D2 : DataW Value} (h : IxIn w F st mp mk N I xs (.slice (some ⟨q, 0, none⟩) xs.length c) pf D1 D2) (i : Nat) (hi : i < xs.length) :
    w.cell? ⟨q, i * 6, none⟩ = some (natV i) ∧ w.cell? ⟨q, i * 6 + 1, none⟩ = some (sv xs[i].1.s) ∧ w.cell? ⟨q, i * 6 + 2, none⟩ = some (natV xs[i].1.num) ∧ w.cell? ⟨q, i * 6 + 3, none⟩ = some (sv xs[i].1.e.type) ∧ w.cell? ⟨q, i * 6 + 4, none⟩ = some (.int .i64 xs[i].1.e.ver) ∧ w.cell? ⟨q, i * 6 + 5, none⟩ = some (.slice (some ⟨xs[i].2, 0, none⟩) xs[i].1.e.fields.length xs[i].1.e.fields.length) ∧ FdBlk w xs[i].2 xs[i].1.e.fields.length xs[i].1.e.fields ∧ xs[i].1.e.fields.length ≤ 16 := by
  have c : ∀ j, j < 6 → w.cell? ⟨q, i * 6 + j, none⟩ = (ecell i xs[i])[j]? := fun j hj => by
    rw [h.row.cellAt (i * 6 + j) (by omega), ecells_at xs 0 i j hi hj, Nat.zero_add]
  obtain ⟨f1, f2, _⟩ := h.fds xs[i] (List.getElem_mem hi)
  exact ⟨c 0 (by omega), c 1 (by omega), c 2 (by omega), c 3 (by omega), c 4 (by omega), c 5 (by omega), f1, f2⟩
end Go.Proofs.Ytgpijeaehkabdaa

/-
  DERIVED. The walk of Index.All.
-/
namespace Go.Proofs.Ytgpijeaehkabdaa
open Go.RowKit Go.Maps
set_option linter.unusedVariables false

theorem IxIn.avc {w : World} {F : Nat → Prop} {st mp mk N : Nat} {I : Ix} {xs : List (Ent × Nat)} {av : Value} {pf : List UInt8 → Value} {D1 D2 : DataW Value} (h : IxIn w F st mp mk N I xs av pf D1 D2) : (av = .slice none 0 0 ∧ xs.length = 0) ∨ ∃ g cap, av = .slice (some ⟨g, 0, none⟩) xs.length cap ∧ xs.length ≤ cap ∧ cap ≤ 9223372036854775807 := by
  rcases h.row.2 with ⟨e, h0⟩ | ⟨g, cap, cur, e, _, _, h1, h2, _⟩
  · exact .inl ⟨e, h0⟩
  · exact .inr ⟨g, cap, e, h1, by unfold maxLen at h2; omega⟩

/-- Where the loop stands: so many entries from a place on. -/
structure AlSt (w W : World) (q m k : Nat) (I : Ix) (fr : Nat) (zs : List Eno) : Prop where
  blk : EnBlk W q m zs
  len : zs.length = k
  ent : ∀ i, (h : i < zs.length) → zs[i].pos = fr + i ∧ I.all[fr + i]? = some zs[i].e
  new : ∀ z ∈ zs, w.heap.size ≤ z.fb
  bel : Below w.heap.size w W
  hq : w.heap.size ≤ q

theorem AlSt.step {w W W1 W2 : World} {q m k fr : Nat} {I : Ix} {zs : List Eno} (h : AlSt w W q m k I fr zs) (hk : k < m) (hb1 : Below W.heap.size W W1) (x : Ent) (hx : I.all[fr + k]? = some x) (h16 : x.e.fields.length ≤ 16) (p : Nat) (hp : W1.heap.size ≤ p) (hf : FdBlk W2 p x.e.fields.length x.e.fields) (hb : Below W1.heap.size W1 W2) :
    (∀ j, j < 6 → (∃ v, W2.cell? ⟨q, k * 6 + j, none⟩ = some v) ∧ W2.frozen? ⟨q, k * 6 + j, none⟩ = false) ∧ AlSt w (put6 W2 q k ⟨fr + k, x, p⟩) q m (k + 1) I fr (zs ++ [⟨fr + k, x, p⟩]) := by
  have hbb : Below W.heap.size W W2 := hb1.trans (hb.mono hb1.size)
  have hblk : EnBlk W2 q m zs := h.blk.grown hbb
  have hlen := h.len
  subst hlen
  have hz1 := hb1.size
  have hz := h.bel.size
  refine ⟨fun j hj => hblk.room hk j hj, ?_⟩
  refine { blk := hblk.put hk ⟨fr + zs.length, x, p⟩ hf h16, len := by simp, ent := ?_, new := ?_, bel := ?_, hq := h.hq }
  · intro i hi
    by_cases hlt : i < zs.length
    · rw [List.getElem_append_left hlt]; exact h.ent i hlt
    · have hi' : i = zs.length := by simp at hi; omega
      subst hi'
      have hf' : (zs ++ [(⟨fr + zs.length, x, p⟩ : Eno)])[zs.length] = ⟨fr + zs.length, x, p⟩ := by simp
      rw [hf']
      exact ⟨rfl, hx⟩
  · intro z hz'
    rcases List.mem_append.1 hz' with h' | h'
    · exact h.new z h'
    · rw [List.mem_singleton.1 h']; show w.heap.size ≤ p; omega
  · have hq := h.hq
    unfold put6
    exact ((((((h.bel.trans (hbb.mono hz)).setCell (p := ⟨q, _, none⟩) hq _).setCell (p := ⟨q, _, none⟩) hq _).setCell (p := ⟨q, _, none⟩) hq _).setCell (p := ⟨q, _, none⟩) hq _).setCell (p := ⟨q, _, none⟩) hq _).setCell (p := ⟨q, _, none⟩) hq _

def AllPost (I : Ix) (fr mo : Nat) (w : World) (e : Ending) (w' : World) : Prop :=
  ∃ q zs, e = .returned (.tuple #[.slice (some ⟨q, 0, none⟩) (min mo (I.all.length - fr)) (min mo (I.all.length - fr)), .int .i64 0]) ∧ AlSt w w' q (min mo (I.all.length - fr)) (min mo (I.all.length - fr)) I fr zs

set_option maxRecDepth 20000 in
set_option maxHeartbeats 4000000 in
theorem All_go {w : World} {F : Nat → Prop} {x N : Nat} {I : Ix} (h : IxAt w F x N I) (hN : N ≤ 100000) (fr mo : Nat) (hfr : fr ≤ 9223372036854775807) (hmo : mo ≤ 9223372036854775807) :
    Calls Try.prog 13 #[.pointer (some ⟨x, 0, none⟩), .int .i64 (fr : Int), .int .i64 (mo : Int)] w (AllPost I fr mo w) := by
  obtain ⟨st, hx, _, mp, mk, xs, av, pf, D1, D2, hi⟩ := h
  have hl : xs.length = I.all.length := by rw [← hi.all, List.length_map]
  have hlN := hi.len
  obtain ⟨L, hL⟩ : ∃ L, L = I.all.length := ⟨_, rfl⟩
  rw [← hL] at hl hlN
  have hav : ∃ a c, av = .slice a L c ∧ L ≤ c ∧ c ≤ 9223372036854775807 ∧ (a = none → L = 0 ∧ c = 0) ∧ (∀ ad, a = some ad → ∃ g, ad = ⟨g, 0, none⟩) := by
    rcases hi.avc with ⟨e, h0⟩ | ⟨g, cap, e, h1, h2⟩
    · exact ⟨none, 0, by rw [e, ← hl, h0], by omega, by omega, fun _ => ⟨by omega, rfl⟩, fun _ h => (by cases h)⟩
    · exact ⟨some ⟨g, 0, none⟩, cap, by rw [e, hl], by omega, h2, fun h => (by cases h), fun ad h => (by cases h; exact ⟨g, rfl⟩)⟩
  obtain ⟨a, c, rfl, hLc, hc9, hnone, hsome⟩ := hav
  have CN := hide (now_go hx hi.stc ⟨a, _, c, rfl⟩)
  obtain ⟨w1, hw1⟩ : ∃ w1, w1 = w.alloc (.cells (stV (.slice a L c) (some mp) (some mk)) 68) := ⟨_, rfl⟩
  have b1 : Below w.heap.size w w1 := by rw [hw1]; exact (Below.refl _ _).alloc (Nat.le_refl _) _
  have i1 := hi.frame (w' := w1) fun q _ hl => b1.block q hl
  obtain ⟨m, hm⟩ : ∃ m, m = min mo (L - fr) := ⟨_, rfl⟩
  have CP : Hid (Calls Try.prog 28 #[.slice a L c, .int .i64 (fr : Int), .int .i64 (mo : Int)] w1 (PartEPost w1 a L fr mo)) := hide (by
    cases a with
    | none =>
      obtain ⟨h0, h1⟩ := hnone rfl
      rw [h0, h1]
      exact PartE_nil w1 fr mo hfr hmo
    | some ad =>
      obtain ⟨g, rfl⟩ := hsome ad rfl
      by_cases hlt : fr < L
      · exact PartE_in w1 g L c fr mo hLc hc9 hlt hmo
      · exact PartE_out w1 g L c fr mo hLc hc9 (by omega) hfr hmo)
  have f0 := field0 a L c (some mp) (some mk)
  obtain ⟨w2, hmk, blk0, g2⟩ := make_entries w1 m (by omega)
  have b2 : Below w.heap.size w w2 := b1.trans ⟨g2.os, g2.tape, g2.output, g2.size, fun k hk => g2.block k (by have := b1.size; omega) (by simp)⟩
  have ST0 : Hid (AlSt w w2 w1.heap.size m 0 I fr []) := hide { blk := blk0, len := rfl, ent := fun i h => by simp at h, new := fun z hz => by simp at hz, bel := b2, hq := b1.size }
  have HE : Hid (∀ W, Below w.heap.size w W → ∀ k, k < m → ∃ g, a = some ⟨g, 0, none⟩ ∧ ∃ (e : Ent) (fb : Nat), I.all[fr + k]? = some e ∧ W.cell? ⟨g, fr * 6 + k * 6, none⟩ = some (natV (fr + k)) ∧ W.cell? ⟨g, fr * 6 + k * 6 + 1, none⟩ = some (sv e.s) ∧ W.cell? ⟨g, fr * 6 + k * 6 + 2, none⟩ = some (natV e.num) ∧ W.cell? ⟨g, fr * 6 + k * 6 + 3, none⟩ = some (sv e.e.type) ∧ W.cell? ⟨g, fr * 6 + k * 6 + 4, none⟩ = some (.int .i64 e.e.ver) ∧ W.cell? ⟨g, fr * 6 + k * 6 + 5, none⟩ = some (.slice (some ⟨fb, 0, none⟩) e.e.fields.length e.e.fields.length) ∧ FdBlk W fb e.e.fields.length e.e.fields ∧ e.e.fields.length ≤ 16) := hide (fun W hW k hk => by
    have iW := hi.frame (w' := W) fun q _ hl => hW.block q hl
    cases a with
    | none => have := (hnone rfl).1; omega
    | some ad =>
      obtain ⟨g, rfl⟩ := hsome ad rfl
      refine ⟨g, rfl, ?_⟩
      have hik : fr + k < xs.length := by omega
      rw [← hl] at iW
      obtain ⟨e0, e1, e2, e3, e4, e5, e6, e7⟩ := iW.ent (fr + k) hik
      have hmul : (fr + k) * 6 = fr * 6 + k * 6 := Nat.add_mul _ _ _
      rw [hmul] at e0 e1 e2 e3 e4 e5
      refine ⟨xs[fr + k].1, xs[fr + k].2, ?_, e0, e1, e2, e3, e4, e5, e6, e7⟩
      rw [← hi.all, List.getElem?_map, List.getElem?_eq_getElem hik]; rfl)
  have HPZ : Hid (∀ W q zs, AlSt w W q m m I fr zs → AllPost I fr mo w (.returned (.tuple #[.slice (some ⟨q, 0, none⟩) m m, .int .i64 0])) W) := hide (fun W q zs h => ⟨q, zs, by rw [← hL, ← hm], by rw [← hL, ← hm]; exact h⟩)
  have HM := hide hm
  have hm1 : m ≤ 100000 := by omega
  clear hx hi i1 blk0 g2 b2 hl hL hnone hsome hm b1 hlN hLc hc9
  go_enter Try.func13, Try.ntmps13
  go_wp2_with fail
  refine (unhide CN).mono ?_
  rintro e w1' ⟨rfl, rfl⟩
  rw [← hw1]
  clear hw1 CN
  go_wp2_with fail
  refine (unhide CP).mono ?_
  rintro e w1' ⟨a', c', rfl, ha', hmc, rfl⟩
  rw [← unhide HM] at ha' hmc ⊢
  have HA := hide ha'
  clear ha' CP f0
  obtain ⟨q, hq⟩ : ∃ q, q = w1'.heap.size := ⟨_, rfl⟩
  rw [← hq] at hmk ST0
  clear hq
  go_wp2
  go_loopw [32] (fun i wr => ∃ (k : Nat) (zs : List Eno), k ≤ m ∧ i = .int .i64 (k : Int) ∧ Hid (AlSt w wr q m k I fr zs)) (fun i _ => m - (intOf i).toNat)
  case atStart => exact ⟨0, [], by omega, rfl, ST0⟩
  case round =>
    obtain ⟨k, zs, hk, rfl, ST⟩ := hrel
    clear ST0 hmk
    by_cases hlt : k < m
    · obtain ⟨g, hag, e, fb, hee, d0, d1, d2, d3, d4, d5, d6, d7⟩ := unhide HE wr (unhide ST).bel k hlt
      obtain rfl := unhide HA (by omega) g hag
      obtain ⟨es, en, ⟨et, ev, ef⟩⟩ := e
      simp only at d1 d2 d3 d4 d5 d6 d7
      have hz : wr.heap.size ≤ wr.heap.size := Nat.le_refl _
      have bA : Below wr.heap.size wr (wr.alloc (.cells (enA ((fr + k : Nat) : Int) es (en : Int) et ev (some ⟨fb, 0, none⟩) ef.length ef.length) 45)) := (Below.refl _ _).alloc (Nat.le_refl _) _
      have CA := hide (entryApart_go ((fr + k : Nat) : Int) es (en : Int) et ev (some ⟨fb, 0, none⟩) ef.length ef.length ef (wr.alloc (.cells (enA ((fr + k : Nat) : Int) es (en : Int) et ev (some ⟨fb, 0, none⟩) ef.length ef.length) 45)) ((d6.same (bA.block fb d6.lt)).fdl rfl (by omega)) d7)
      have STP := hide (fun W2 p (hp : (wr.alloc (.cells (enA ((fr + k : Nat) : Int) es (en : Int) et ev (some ⟨fb, 0, none⟩) ef.length ef.length) 45)).heap.size ≤ p) hf hb => (unhide ST).step (W2 := W2) hlt bA ⟨es, en, ⟨et, ev, ef⟩⟩ hee d7 p hp hf hb)
      obtain ⟨fk, hfk⟩ : ∃ fk : Int, fk = ((fr + k : Nat) : Int) := ⟨_, rfl⟩
      obtain ⟨M, hM⟩ : ∃ M, M = ef.length := ⟨_, rfl⟩
      have HFK := hide (And.intro hfk hM)
      unfold natV at d0 d2
      rw [← hfk] at d0 CA
      rw [← hM] at d5 CA
      rw [← hfk, ← hM] at STP
      clear hz bA d6 d7 hee hfk hM hag
      go_wp2_with fail
      refine (unhide CA).mono ?_
      clear CA
      rintro e2 w5 ⟨p, rfl, hp, hf, hb5⟩
      obtain ⟨rm, st2⟩ := unhide STP w5 p hp (by rw [(unhide HFK).2]; exact hf) hb5
      obtain ⟨⟨v0, r0⟩, s0⟩ := rm 0 (by omega)
      obtain ⟨⟨v1, r1⟩, s1⟩ := rm 1 (by omega)
      obtain ⟨⟨v2, r2⟩, s2⟩ := rm 2 (by omega)
      obtain ⟨⟨v3, r3⟩, s3⟩ := rm 3 (by omega)
      obtain ⟨⟨v4, r4⟩, s4⟩ := rm 4 (by omega)
      obtain ⟨⟨v5, r5⟩, s5⟩ := rm 5 (by omega)
      rw [Nat.add_zero] at r0 s0
      have ST2 : Hid (AlSt w ((((((w5.setCell ⟨q, k * 6, none⟩ (.int .i64 fk)).setCell ⟨q, k * 6 + 1, none⟩ (sv es)).setCell ⟨q, k * 6 + 2, none⟩ (.int .i64 (en : Int))).setCell ⟨q, k * 6 + 3, none⟩ (sv et)).setCell ⟨q, k * 6 + 4, none⟩ (.int .i64 ev)).setCell ⟨q, k * 6 + 5, none⟩ (.slice (some ⟨p, 0, none⟩) M M)) q m (k + 1) I fr (zs ++ [⟨fr + k, ⟨es, en, ⟨et, ev, ef⟩⟩, p⟩])) := hide (by
        have := st2
        unfold put6 natV at this
        rw [(unhide HFK).1, (unhide HFK).2]
        exact this)
      rw [← (unhide HFK).2]
      clear rm st2 hp hf hb5 STP HFK d0 d1 d2 d3 d4 d5 ST
      go_wp2
      go_roundw
      case rel => exact ⟨k + 1, _, by omega, by go_num, ST2⟩
      case measure => simp [intOf]; omega
    · have hkN : k = m := by omega
      subst hkN
      have HP := hide (unhide HPZ wr q zs (unhide ST))
      clear ST HE HPZ
      go_wp2
      go_ret2
      exact unhide HP
end Go.Proofs.Ytgpijeaehkabdaa

/-
  DERIVED. The walks of SameEvent and SameEntries, where both are alike.
-/
namespace Go.Proofs.Ytgpijeaehkabdaa
open Go.RowKit Go.Maps
set_option linter.unusedVariables false

theorem take_eq_step {α : Type} {l m : List α} {k : Nat} (hl : k < l.length) (hm : k < m.length) (h : l.take k = m.take k) (he : l[k] = m[k]) : l.take (k + 1) = m.take (k + 1) := by
  rw [List.take_succ_eq_append_getElem hl, List.take_succ_eq_append_getElem hm, h, he]

theorem below_dr {B : Nat} {a w : World} (h : Below B a w) (n : Nat) : Below B a (w.drewN n) := ⟨h.os, h.tape, h.output, h.size, h.block⟩

set_option maxHeartbeats 4000000 in
theorem SameEvent_eq (t : List UInt8) (ver : Int) (a a' : Option Addr) (n c n' c' : Nat) (fs : List Fld) (w : World) (hv : FdL w (.slice a n c) fs) (hv' : FdL w (.slice a' n' c') fs) :
    Calls Try.prog 34 #[.agg (ev t ver a n c), .agg (ev t ver a' n' c')] w fun e w' => e = .returned (.bool true) ∧ Below w.heap.size w w' := by
  obtain ⟨ao, cap, e, g1, g2, g4⟩ := id hv
  cases e
  obtain ⟨ao', cap', e, g1', g2', g4'⟩ := id hv'
  cases e
  have HB2 := hide (((Below.refl w.heap.size w).alloc (Nat.le_refl _) (.cells (ev t ver a fs.length c) 43)).alloc (by simp) (.cells (ev t ver a' fs.length c') 43))
  have hbt : (t == t) = true := beq_self_eq_true _
  have hbv : (ver != ver) = false := by simp
  obtain ⟨N, hN⟩ : ∃ N, N = fs.length := ⟨_, rfl⟩
  have HN := hide hN
  have H4 := hide (And.intro g4 g4')
  rw [← hN] at g1 g1' HB2 ⊢
  clear g4 g4' hN hv hv'
  obtain ⟨w0, hw0⟩ : ∃ w0, w0 = (w.alloc (.cells (ev t ver a N c) 43)).alloc (.cells (ev t ver a' N c') 43) := ⟨_, rfl⟩
  have s0 : w.heap.size + 1 < w0.heap.size := by rw [hw0]; simp
  have z0 : w0.cell? ⟨w.heap.size, 2, none⟩ = some (.slice a N c) := by rw [hw0]; simp
  have z1 : w0.cell? ⟨w.heap.size + 1, 2, none⟩ = some (.slice a' N c') := by rw [hw0]; simp
  have HBW : Hid (Below w.heap.size w w0) := hide (by rw [hw0]; exact unhide HB2)
  have HW0 := hide hw0
  clear hw0 HB2
  go_enter Try.func34, Try.ntmps34
  go_wp2_with fail
  rw [← unhide HW0]
  go_loopw [5] (fun i wr => ∃ k : Nat, k ≤ N ∧ i = .int .i64 k ∧ ∀ B, Below B w0 wr) (fun i _ => N - (intOf i).toNat)
  case atStart => exact ⟨0, by omega, rfl, fun B => Below.refl _ _⟩
  case round =>
    obtain ⟨k, hk, rfl, hbel⟩ := hrel
    have x0 := ((hbel (w.heap.size + 1)).cell (p := ⟨w.heap.size, 2, none⟩) (by simp)).trans z0
    have x1 := ((hbel (w.heap.size + 2)).cell (p := ⟨w.heap.size + 1, 2, none⟩) (by simp)).trans z1
    by_cases hlt : k < N
    · have hkf : k < fs.length := by have := unhide HN; omega
      obtain ⟨b, off, rfl, hb, hc⟩ := (unhide H4).1 (by omega)
      obtain ⟨b', off', rfl, hb', hc'⟩ := (unhide H4).2 (by omega)
      obtain ⟨c0, c1, c2, c3⟩ := hc k hkf
      obtain ⟨e0, e1, e2, e3⟩ := hc' k hkf
      obtain ⟨f, hf⟩ : ∃ f, f = fs[k] := ⟨_, rfl⟩
      rw [← hf] at c0 c1 c2 c3 e0 e1 e2 e3
      have HBc := (unhide HBW).trans (hbel w.heap.size)
      have p0 := (HBc.cell (p := ⟨b, off + k * 4, none⟩) hb).trans c0
      have p1 := (HBc.cell (p := ⟨b, off + k * 4 + 1, none⟩) hb).trans c1
      have p2 := (HBc.cell (p := ⟨b, off + k * 4 + 2, none⟩) hb).trans c2
      have p3 := (HBc.cell (p := ⟨b, off + k * 4 + 3, none⟩) hb).trans c3
      have r0 := (HBc.cell (p := ⟨b', off' + k * 4, none⟩) hb').trans e0
      have r1 := (HBc.cell (p := ⟨b', off' + k * 4 + 1, none⟩) hb').trans e1
      have r2 := (HBc.cell (p := ⟨b', off' + k * 4 + 2, none⟩) hb').trans e2
      have r3 := (HBc.cell (p := ⟨b', off' + k * 4 + 3, none⟩) hb').trans e3
      have HBX := hide hbel
      obtain ⟨fn, ft, fi, fss⟩ := f
      simp only at p0 p1 p2 p3 r0 r1 r2 r3
      clear hf hc hc' c0 c1 c2 c3 e0 e1 e2 e3 hbel HBc
      have ik : (k : Int) < (N : Int) := by omega
      have q1 : (fn == fn) = true := beq_self_eq_true _
      have q3 : (fss == fss) = true := beq_self_eq_true _
      go_wp2_with fail
      go_quiet (fail)
      go_wp2
      go_roundw
      case rel => exact ⟨k + 1, by omega, by go_num, fun B => below_dr (unhide HBX B) _⟩
      case measure => simp [intOf]; omega
    · have HF := hide ((unhide HBW).trans (hbel _))
      go_wp2
      go_ret
      exact ⟨rfl, unhide HF⟩
end Go.Proofs.Ytgpijeaehkabdaa

/-
  DERIVED. The walk of SameEntries, where both are alike.
-/
namespace Go.Proofs.Ytgpijeaehkabdaa
open Go.RowKit Go.Maps
set_option linter.unusedVariables false

/-- A slice of entries that reads as these, each with its place. -/
def EnL (w : World) (v : Value) (es : List (Nat × Ent)) : Prop :=
  ∃ ao cap, v = .slice ao es.length cap ∧ es.length ≤ cap ∧ cap ≤ 9223372036854775807 ∧ (es.length ≠ 0 → ∃ b off, ao = some ⟨b, off, none⟩ ∧ b < w.heap.size ∧ ∀ i, (h : i < es.length) →
    w.cell? ⟨b, off + i * 6, none⟩ = some (natV es[i].1) ∧ w.cell? ⟨b, off + i * 6 + 1, none⟩ = some (sv es[i].2.s) ∧ w.cell? ⟨b, off + i * 6 + 2, none⟩ = some (natV es[i].2.num) ∧ w.cell? ⟨b, off + i * 6 + 3, none⟩ = some (sv es[i].2.e.type) ∧ w.cell? ⟨b, off + i * 6 + 4, none⟩ = some (.int .i64 es[i].2.e.ver) ∧ ∃ a n c, w.cell? ⟨b, off + i * 6 + 5, none⟩ = some (.slice a n c) ∧ FdL w (.slice a n c) es[i].2.e.fields)
theorem EnL.below {w w' : World} {v : Value} {es : List (Nat × Ent)} (h : EnL w v es) (hb : Below w.heap.size w w') : EnL w' v es := by
  obtain ⟨ao, cap, e, h1, h2, h3⟩ := h
  refine ⟨ao, cap, e, h1, h2, fun hz => ?_⟩
  obtain ⟨b, off, rfl, hlt, hc⟩ := h3 hz
  refine ⟨b, off, rfl, Nat.lt_of_lt_of_le hlt hb.size, fun i hi => ?_⟩
  obtain ⟨c0, c1, c2, c3, c4, a, n, c, c5, c6⟩ := hc i hi
  exact ⟨(hb.cell (p := ⟨b, off + i * 6, none⟩) hlt).trans c0, (hb.cell (p := ⟨b, off + i * 6 + 1, none⟩) hlt).trans c1, (hb.cell (p := ⟨b, off + i * 6 + 2, none⟩) hlt).trans c2, (hb.cell (p := ⟨b, off + i * 6 + 3, none⟩) hlt).trans c3, (hb.cell (p := ⟨b, off + i * 6 + 4, none⟩) hlt).trans c4, a, n, c, (hb.cell (p := ⟨b, off + i * 6 + 5, none⟩) hlt).trans c5, c6.below hb (Nat.le_refl _)⟩
theorem EnBlk.enl {w : World} {q n : Nat} {zs : List Eno} (h : EnBlk w q n zs) (hn : zs.length = n) (hm : n ≤ 9223372036854775807) : EnL w (.slice (some ⟨q, 0, none⟩) n n) (zs.map fun z => (z.pos, z.e)) := by
  have hl := h.lt
  obtain ⟨⟨cs, h1, h2, h3, h4⟩, h5⟩ := h
  have hlen : (zs.map fun z => (z.pos, z.e)).length = n := by rw [List.length_map, hn]
  refine ⟨_, n, by rw [hlen], by omega, by omega, fun _ => ⟨q, 0, rfl, hl, fun i hi => ?_⟩⟩
  have hi' : i < zs.length := by rw [hlen] at hi; omega
  obtain ⟨a0, a1, a2, a3, a4, a5⟩ := h4 i hi'
  have he : (zs.map fun z => (z.pos, z.e))[i] = (zs[i].pos, zs[i].e) := by simp
  rw [Nat.zero_add, he]
  obtain ⟨q1, q2⟩ := h5 zs[i] (List.getElem_mem hi')
  exact ⟨(cell_of_row _ _ _ _ _ _ h1).trans a0, (cell_of_row _ _ _ _ _ _ h1).trans a1, (cell_of_row _ _ _ _ _ _ h1).trans a2, (cell_of_row _ _ _ _ _ _ h1).trans a3, (cell_of_row _ _ _ _ _ _ h1).trans a4, _, _, _, (cell_of_row _ _ _ _ _ _ h1).trans a5, q1.fdl rfl (by omega)⟩

set_option maxRecDepth 20000 in
set_option maxHeartbeats 4000000 in
theorem SameEntries_eq (a a' : Option Addr) (n c n' c' : Nat) (es : List (Nat × Ent)) (w : World) (hv : EnL w (.slice a n c) es) (hv' : EnL w (.slice a' n' c') es) :
    Calls Try.prog 18 #[.slice a n c, .slice a' n' c'] w fun e w' => e = .returned (.bool true) ∧ Below w.heap.size w w' := by
  obtain ⟨ao, cap, e, g1, g2, g4⟩ := id hv
  cases e
  obtain ⟨ao', cap', e, g1', g2', g4'⟩ := id hv'
  cases e
  obtain ⟨N, hN⟩ : ∃ N, N = es.length := ⟨_, rfl⟩
  have HN := hide hN
  have H4 := hide (And.intro g4 g4')
  rw [← hN] at g1 g1' ⊢
  have hbv : ((N : Int) != (N : Int)) = false := by simp
  clear g4 g4' hN hv hv'
  go_enter Try.func18, Try.ntmps18
  go_wp2
  go_loopw [5] (fun i wr => ∃ k : Nat, k ≤ N ∧ i = .int .i64 (k : Int) ∧ Hid (Below w.heap.size w wr)) (fun i _ => N - (intOf i).toNat)
  case atStart => exact ⟨0, by omega, rfl, hide (Below.refl _ _)⟩
  case round =>
    obtain ⟨k, hk, rfl, HB⟩ := hrel
    by_cases hlt : k < N
    · have hkf : k < es.length := by have := unhide HN; omega
      obtain ⟨b, off, rfl, hb, hc⟩ := (unhide H4).1 (by omega)
      obtain ⟨b', off', rfl, hb', hc'⟩ := (unhide H4).2 (by omega)
      have hx := hc k hkf
      have hy := hc' k hkf
      obtain ⟨⟨ps, ⟨ss, nm, ⟨et, ev0, ef⟩⟩⟩, hf⟩ : ∃ f, f = es[k] := ⟨_, rfl⟩
      rw [← hf] at hx hy
      obtain ⟨c0, c1, c2, c3, c4, fa, fl, fc, c5, c6⟩ := hx
      obtain ⟨e0, e1, e2, e3, e4, ga, gl, gc, e5, e6⟩ := hy
      simp only at c0 c1 c2 c3 c4 c5 c6 e0 e1 e2 e3 e4 e5 e6
      unfold natV at c0 c2 e0 e2
      have SV : Hid (∀ W, Below w.heap.size w W → W.cell? ⟨b, off + k * 6 + 3, none⟩ = some (sv et) ∧ W.cell? ⟨b, off + k * 6 + 4, none⟩ = some (.int .i64 ev0) ∧ W.cell? ⟨b, off + k * 6 + 5, none⟩ = some (.slice fa fl fc) ∧ W.cell? ⟨b', off' + k * 6 + 3, none⟩ = some (sv et) ∧ W.cell? ⟨b', off' + k * 6 + 4, none⟩ = some (.int .i64 ev0) ∧ W.cell? ⟨b', off' + k * 6 + 5, none⟩ = some (.slice ga gl gc)) := hide (fun W hW => ⟨(hW.cell (p := ⟨b, off + k * 6 + 3, none⟩) hb).trans c3, (hW.cell (p := ⟨b, off + k * 6 + 4, none⟩) hb).trans c4, (hW.cell (p := ⟨b, off + k * 6 + 5, none⟩) hb).trans c5, (hW.cell (p := ⟨b', off' + k * 6 + 3, none⟩) hb').trans e3, (hW.cell (p := ⟨b', off' + k * 6 + 4, none⟩) hb').trans e4, (hW.cell (p := ⟨b', off' + k * 6 + 5, none⟩) hb').trans e5⟩)
      have SW : Hid (∀ W, Below w.heap.size w W → W.cell? ⟨b, off + k * 6, none⟩ = some (.int .i64 (ps : Int)) ∧ W.cell? ⟨b, off + k * 6 + 1, none⟩ = some (sv ss) ∧ W.cell? ⟨b, off + k * 6 + 2, none⟩ = some (.int .i64 (nm : Int)) ∧ W.cell? ⟨b', off' + k * 6, none⟩ = some (.int .i64 (ps : Int)) ∧ W.cell? ⟨b', off' + k * 6 + 1, none⟩ = some (sv ss) ∧ W.cell? ⟨b', off' + k * 6 + 2, none⟩ = some (.int .i64 (nm : Int))) := hide (fun W hW => ⟨(hW.cell (p := ⟨b, off + k * 6, none⟩) hb).trans c0, (hW.cell (p := ⟨b, off + k * 6 + 1, none⟩) hb).trans c1, (hW.cell (p := ⟨b, off + k * 6 + 2, none⟩) hb).trans c2, (hW.cell (p := ⟨b', off' + k * 6, none⟩) hb').trans e0, (hW.cell (p := ⟨b', off' + k * 6 + 1, none⟩) hb').trans e1, (hW.cell (p := ⟨b', off' + k * 6 + 2, none⟩) hb').trans e2⟩)
      have CS := hide (SameEvent_eq et ev0 fa ga fl fc gl gc ef wr.drew ((c6.below (unhide HB) (Nat.le_refl _)).below (Below.refl _ wr).drew (Nat.le_refl _)) ((e6.below (unhide HB) (Nat.le_refl _)).below (Below.refl _ wr).drew (Nat.le_refl _)))
      have S0 := hide (unhide SV wr.drew (unhide HB).drew)
      have ik : (k : Int) < (N : Int) := by omega
      clear c0 c1 c2 c3 c4 c5 c6 e0 e1 e2 e3 e4 e5 e6 hc hc' hf
      go_upto_region 6 with fail
      go_region_held3 (fun w' => w'.cell? ⟨b, off + k * 6 + 3, none⟩ = some (sv et) ∧ w'.cell? ⟨b, off + k * 6 + 4, none⟩ = some (.int .i64 ev0) ∧ w'.cell? ⟨b, off + k * 6 + 5, none⟩ = some (.slice fa fl fc) ∧ w'.cell? ⟨b', off' + k * 6 + 3, none⟩ = some (sv et) ∧ w'.cell? ⟨b', off' + k * 6 + 4, none⟩ = some (.int .i64 ev0) ∧ w'.cell? ⟨b', off' + k * 6 + 5, none⟩ = some (.slice ga gl gc))
        (first | with_reducible exact unhide S0 | with_reducible exact unhide S1)
        ((go_at_call 34; refine (unhide CS).mono ?_; rintro e w5 ⟨rfl, b5⟩; have HB5 := hide ((unhide HB).drew.trans (b5.mono (unhide HB).drew.size)); have S1 := hide (unhide SV w5 (unhide HB5)); clear b5))
      obtain ⟨p0, p1, p2, r0, r1, r2⟩ := unhide SW w5 (unhide HB5)
      have q1 : (ss == ss) = true := beq_self_eq_true _
      clear SV SW CS S0 S1 HB
      go_wp2_with fail
      go_quiet (fail)
      go_wp2
      go_roundw
      case rel => exact ⟨k + 1, by omega, by go_num, hide (below_dr (unhide HB5) _)⟩
      case measure => simp [intOf]; omega
    · go_wp2
      go_ret
      exact ⟨rfl, unhide HB⟩
end Go.Proofs.Ytgpijeaehkabdaa

/-
  DERIVED. Two indexes alike, beside each other.
-/
namespace Go.Proofs.Ytgpijeaehkabdaa
open Go.RowKit Go.Maps
set_option linter.unusedVariables false

/-- Two indexes alike, their memories apart. -/
structure A2St (w W : World) (x y N : Nat) (I : Ix) : Prop where
  ix : ∃ Fx Fy, IxAt W Fx x N I ∧ IxAt W Fy y N I ∧ (∀ q, Fx q → w.heap.size ≤ q ∧ q < W.heap.size ∧ ¬ Fy q) ∧ ∀ q, Fy q → w.heap.size ≤ q ∧ q < W.heap.size
  bel : Below w.heap.size w W
theorem A2St.lx {w W : World} {x y N : Nat} {I : Ix} (h : A2St w W x y N I) : LSt w W (fun _ => False) x N I := by
  obtain ⟨Fx, Fy, hx, hy, h1, h2⟩ := h.ix
  exact ⟨⟨Fx, hx, fun q hq => ⟨(h1 q hq).1, (h1 q hq).2.1, id⟩⟩, h.bel⟩
theorem A2St.grown {w W W' : World} {x y N : Nat} {I : Ix} (h : A2St w W x y N I) (hb : Below W.heap.size W W') : A2St w W' x y N I := by
  obtain ⟨Fx, Fy, hx, hy, h1, h2⟩ := h.ix
  have hz := hb.size
  exact ⟨⟨Fx, Fy, hx.grown hb, hy.grown hb, fun q hq => ⟨(h1 q hq).1, by have := (h1 q hq).2.1; omega, (h1 q hq).2.2⟩, fun q hq => ⟨(h2 q hq).1, by have := (h2 q hq).2; omega⟩⟩, h.bel.trans (hb.mono h.bel.size)⟩
theorem IxAt.more {w : World} {F : Nat → Prop} {x N N' : Nat} {I : Ix} (h : IxAt w F x N I) (hn : N ≤ N') : IxAt w F x N' I := by
  obtain ⟨st, h1, h2, mp, mk, xs, av, pf, D1, D2, hin⟩ := h
  exact ⟨st, h1, h2, mp, mk, xs, av, pf, D1, D2, hin.more hn⟩
theorem A2St.more {w W : World} {x y N N' : Nat} {I : Ix} (h : A2St w W x y N I) (hn : N ≤ N') : A2St w W x y N' I := by
  obtain ⟨Fx, Fy, hx, hy, h1, h2⟩ := h.ix
  exact ⟨⟨Fx, Fy, hx.more hn, hy.more hn, h1, h2⟩, h.bel⟩
theorem A2St.adds {w wr W7 : World} {x y N : Nat} {I : Ix} {s k : List UInt8} {es : List Evn} {bb q : Nat} {ys : List (Evn × Nat)} (h : A2St w wr x y N I) (hb : Below wr.heap.size wr W7) (hB : BBox W7 bb s k (I.ver s : Nat) (.slice (some ⟨q, 0, none⟩) es.length es.length)) (hbb : wr.heap.size ≤ bb) (hk : EvBlk W7 q es.length ys) (he : ys.map (·.1) = es) (hy : ∀ y ∈ ys, wr.heap.size ≤ y.2) (hq : wr.heap.size ≤ q) (hok : tryOk I s (-1) k es) (hs : s.length ≤ maxLen) (hkl : k.length ≤ maxLen) (hfit : ∀ e ∈ es, fitE e) (hN : N < 1000000) :
    Calls Try.prog 12 #[.pointer (some ⟨x, 0, none⟩), .agg (bt s k (I.ver s : Nat) (some ⟨q, 0, none⟩) es.length es.length)] W7 fun e W8 => e = .returned (.int .i64 0) ∧ BBox W8 bb s k (I.ver s : Nat) (.slice (some ⟨q, 0, none⟩) es.length es.length) ∧
      Calls Try.prog 12 #[.pointer (some ⟨y, 0, none⟩), .agg (bt s k (I.ver s : Nat) (some ⟨q, 0, none⟩) es.length es.length)] W8 fun e W9 => e = .returned (.int .i64 0) ∧ BBox W9 bb s k (I.ver s : Nat) (.slice (some ⟨q, 0, none⟩) es.length es.length) ∧ A2St w W9 x y (N + 1 + es.length) (I.added s k (I.ver s) es) ∧ EvL W9 (.slice (some ⟨q, 0, none⟩) es.length es.length) es := by
  obtain ⟨Fx, Fy, ix, iy, h1, h2⟩ := h.ix
  have h16 := hok.2.2.1.2.1
  have hz := hb.size
  have hlb := lt_of_block hB
  have bw : Below w.heap.size w W7 := h.bel.trans (hb.mono h.bel.size)
  have hl : ys.length = es.length := by have := congrArg List.length he; simpa using this
  have hH : Held w W7 (fun z => Fy z ∨ (wr.heap.size ≤ z ∧ z < W7.heap.size)) x N I q es.length es := ⟨⟨Fx, ix.grown hb, fun z hz' => ⟨(h1 z hz').1, by have := (h1 z hz').2.1; omega, fun hg => by
    rcases hg with hg | hg
    · exact (h1 z hz').2.2 hg
    · have := (h1 z hz').2.1; omega⟩, evfar_blk hk he h16 (fun hf => by have := (h1 q hf).2.1; omega) (fun y' hy' hf => by have := (h1 _ hf).2.1; have := hy y' hy'; omega)⟩, bw⟩
  refine (hH.add s hs k hkl hfit hok hN (fun z hz' => by rcases hz' with hz' | hz'; have := (h2 z hz').2; omega; exact hz'.2)).mono ?_
  rintro e W8 ⟨rfl, st8, k8⟩
  have kk : ∀ z, wr.heap.size ≤ z → z < W7.heap.size → W8.heap[z]? = W7.heap[z]? := fun z a b => k8 z (.inr ⟨a, b⟩)
  obtain ⟨Fx', ix8, hFx⟩ := st8.ix
  have hz8 := st8.bel.size
  have iy8 : IxAt W8 Fy y N I := (iy.grown hb).frame fun z hz' _ => k8 z (.inl hz')
  have eb8 : EvBlk W8 q es.length ys := hk.same (kk q hq hk.lt) (fun y' hy' => kk y'.2 (hy y' hy') (hk.2 y' hy').1.lt)
  have b8 : BBox W8 bb s k (I.ver s : Nat) (.slice (some ⟨q, 0, none⟩) es.length es.length) := hB.same (kk bb hbb hlb)
  have hl8 : W7.heap.size ≤ W8.heap.size := by
    rcases Nat.lt_or_ge (W7.heap.size - 1) W8.heap.size with h' | h'
    · omega
    · exfalso
      have h3 : wr.heap.size ≤ W7.heap.size - 1 := by omega
      have h4 : W7.heap.size - 1 < W7.heap.size := by omega
      have h5 := kk _ h3 h4
      rw [Array.getElem?_eq_none h', Array.getElem?_eq_getElem h4] at h5
      cases h5
  have hH2 : Held w W8 (fun z => Fx' z ∨ (wr.heap.size ≤ z ∧ z < W7.heap.size)) y N I q es.length es := ⟨⟨Fy, iy8, fun z hz' => ⟨(h2 z hz').1, by have := (h2 z hz').2; omega, fun hg => by
    rcases hg with hg | hg
    · exact (hFx z hg).2.2 (.inl hz')
    · have := (h2 z hz').2; omega⟩, evfar_blk eb8 he h16 (fun hf => by have := (h2 q hf).2; omega) (fun y' hy' hf => by have := (h2 _ hf).2; have := hy y' hy'; omega)⟩, st8.bel⟩
  refine ⟨rfl, b8, (hH2.add s hs k hkl hfit hok hN (fun z hz' => by rcases hz' with hz' | hz'; exact (hFx z hz').2.1; omega)).mono ?_⟩
  rintro e W9 ⟨rfl, st9, k9⟩
  obtain ⟨Fy', iy9, hFy⟩ := st9.ix
  have k9' : ∀ z, wr.heap.size ≤ z → z < W7.heap.size → W9.heap[z]? = W8.heap[z]? := fun z a b => k9 z (.inr ⟨a, b⟩)
  have ix9 : IxAt W9 Fx' x (N + 1 + es.length) (I.added s k (I.ver s) es) := ix8.frame fun z hz' _ => k9 z (.inl hz')
  have eb9 : EvBlk W9 q es.length ys := eb8.same (k9' q hq hk.lt) (fun y' hy' => k9' y'.2 (hy y' hy') (hk.2 y' hy').1.lt)
  have hl9 : W8.heap.size ≤ W9.heap.size ∨ True := .inr trivial
  refine ⟨rfl, b8.same (k9' bb hbb hlb), ⟨⟨Fx', Fy', ix9, iy9, fun z hz' => ⟨(hFx z hz').1, ?_, fun hf => (hFy z hf).2.2 (.inl hz')⟩, fun z hz' => ⟨(hFy z hz').1, (hFy z hz').2.1⟩⟩, st9.bel⟩, ?_⟩
  · have h5 := k9 z (.inl hz')
    rcases Nat.lt_or_ge z W9.heap.size with h' | h'
    · exact h'
    · exfalso
      rw [Array.getElem?_eq_none h', Array.getElem?_eq_getElem (hFx z hz').2.1] at h5
      cases h5
  · have := eb9.evl hl h16
    rwa [he] at this
theorem chk_again {I : Ix} {s k : List UInt8} {es : List Evn} (h : tryOk I s (-1) k es) : chkA (I.added s k (I.ver s) es) s k (I.ver s : Nat) es = if k = [] then 103 else 101 := by
  unfold chkA
  by_cases hk : k = []
  · have e : (I.added s k (I.ver s) es).key k = none := by rw [added_key, if_neg (fun h' => h'.1 hk)]; exact h.2.1
    rw [if_neg (fun h' => h' h.1), e, if_neg (by simp), if_neg (fun h' => h' h.2.2.1), if_pos (by rw [added_ver, if_pos rfl]; have := h.2.2.1.1; omega), if_pos hk]
  · have e : (I.added s k (I.ver s) es).key k = some ⟨s, I.ver s, I.all.length, es.length⟩ := by rw [added_key, if_pos ⟨hk, rfl⟩]
    rw [if_neg (fun h' => h' h.1), e, if_pos (by simp), if_neg hk]
theorem same_ents {w W w2 W2 : World} {q m q2 fr : Nat} {I : Ix} {zs zs2 : List Eno} (h : AlSt w W q m m I fr zs) (h2 : AlSt w2 W2 q2 m m I fr zs2) : (zs.map fun z => (z.pos, z.e)) = zs2.map fun z => (z.pos, z.e) := by
  refine List.ext_getElem (by rw [List.length_map, List.length_map, h.len, h2.len]) fun i h3 h4 => ?_
  rw [List.getElem_map, List.getElem_map]
  rw [List.length_map] at h3 h4
  obtain ⟨a1, a2⟩ := h.ent i h3
  obtain ⟨b1, b2⟩ := h2.ent i h4
  rw [a2] at b2
  rw [a1, b1, Option.some.inj b2]

theorem big_int : ((100000 : Nat) : Int) = (100000 : Int) := by simp
def AllBig (I : Ix) (w : World) (e : Ending) (w' : World) : Prop := ∃ q zs, e = .returned (.tuple #[.slice (some ⟨q, 0, none⟩) I.all.length I.all.length, .int .i64 0]) ∧ AlSt w w' q I.all.length I.all.length I 0 zs
theorem All_big {w : World} {F : Nat → Prop} {x N : Nat} {I : Ix} (h : IxAt w F x N I) (hN : N ≤ 100000) : Calls Try.prog 13 #[.pointer (some ⟨x, 0, none⟩), .int .i64 0, .int .i64 100000] w (AllBig I w) := by
  have hl : I.all.length ≤ N := by
    obtain ⟨st, _, _, mp, mk, xs, av, pf, D1, D2, hin⟩ := h
    exact hin.len
  have c := All_go h hN 0 100000 (by omega) (by omega)
  rw [big_int] at c
  refine c.mono ?_
  rintro e w' ⟨q, zs, he, st⟩
  have e1 : min 100000 (I.all.length - 0) = I.all.length := by omega
  rw [e1] at he st
  exact ⟨q, zs, he, st⟩
end Go.Proofs.Ytgpijeaehkabdaa

/-
  DERIVED. The walk of Index.Stream.
-/
namespace Go.Proofs.Ytgpijeaehkabdaa
open Go.RowKit Go.Maps
set_option linter.unusedVariables false

theorem plc_at {l : List Ent} {s : List UInt8} {p : Nat} (h : p ∈ plc l s) : ∃ e, l[p]? = some e ∧ e.s = s := by
  unfold plc at h
  obtain ⟨⟨e, i⟩, hm, rfl⟩ := List.mem_map.1 h
  obtain ⟨h1, h2⟩ := List.mem_filter.1 hm
  exact ⟨e, by simpa using (List.mem_zipIdx_iff_getElem?.1 h1), by simpa using h2⟩
theorem IxIn.pvc {w : World} {F : Nat → Prop} {st mp mk N : Nat} {I : Ix} {xs : List (Ent × Nat)} {av : Value} {pf : List UInt8 → Value} {D1 D2 : DataW Value} (h : IxIn w F st mp mk N I xs av pf D1 D2) (s : List UInt8) : (pf s = .slice none 0 0 ∧ I.ver s = 0) ∨ ∃ g cap, pf s = .slice (some ⟨g, 0, none⟩) (I.ver s) cap ∧ I.ver s ≤ cap ∧ cap ≤ 9223372036854775807 ∧ ∀ i, (hi : i < (plc I.all s).length) → w.cell? ⟨g, i, none⟩ = some (natV (plc I.all s)[i]) := by
  rcases (h.rows s).2 with ⟨e, h0⟩ | ⟨g, cap, cur, e, _, _, h1, h2, _⟩
  · exact .inl ⟨e, h0⟩
  · refine .inr ⟨g, cap, e, h1, by unfold maxLen at h2; omega, fun i hi => ?_⟩
    have hr := h.rows s
    rw [e] at hr
    rw [hr.cellAt i (by omega), List.getElem?_map, List.getElem?_eq_getElem hi]
    rfl

/-- Where the loop stands: so many entries, by their places. -/
structure PlSt (w W : World) (q m k : Nat) (I : Ix) (s : List UInt8) (fr : Nat) (zs : List Eno) : Prop where
  blk : EnBlk W q m zs
  len : zs.length = k
  ent : ∀ i, (h : i < zs.length) → (plc I.all s)[fr + i]? = some zs[i].pos ∧ I.all[zs[i].pos]? = some zs[i].e
  new : ∀ z ∈ zs, w.heap.size ≤ z.fb
  bel : Below w.heap.size w W
  hq : w.heap.size ≤ q

theorem PlSt.step {w W W2 : World} {q m k fr : Nat} {I : Ix} {s : List UInt8} {zs : List Eno} (h : PlSt w W q m k I s fr zs) (hk : k < m) (n : Nat) (hn : (plc I.all s)[fr + k]? = some n) (x : Ent) (hx : I.all[n]? = some x) (h16 : x.e.fields.length ≤ 16) (p : Nat) (hp : W.heap.size ≤ p) (hf : FdBlk W2 p x.e.fields.length x.e.fields) (hb : Below W.heap.size W W2) :
    (∀ j, j < 6 → (∃ v, W2.cell? ⟨q, k * 6 + j, none⟩ = some v) ∧ W2.frozen? ⟨q, k * 6 + j, none⟩ = false) ∧ PlSt w (put6 W2 q k ⟨n, x, p⟩) q m (k + 1) I s fr (zs ++ [⟨n, x, p⟩]) := by
  have hblk : EnBlk W2 q m zs := h.blk.grown hb
  have hlen := h.len
  subst hlen
  have hz := h.bel.size
  refine ⟨fun j hj => hblk.room hk j hj, ?_⟩
  refine { blk := hblk.put hk ⟨n, x, p⟩ hf h16, len := by simp, ent := ?_, new := ?_, bel := ?_, hq := h.hq }
  · intro i hi
    by_cases hlt : i < zs.length
    · rw [List.getElem_append_left hlt]; exact h.ent i hlt
    · have hi' : i = zs.length := by simp at hi; omega
      subst hi'
      have hf' : (zs ++ [(⟨n, x, p⟩ : Eno)])[zs.length] = ⟨n, x, p⟩ := by simp
      rw [hf']
      exact ⟨hn, hx⟩
  · intro z hz'
    rcases List.mem_append.1 hz' with h' | h'
    · exact h.new z h'
    · rw [List.mem_singleton.1 h']; show w.heap.size ≤ p; omega
  · have hq := h.hq
    unfold put6
    exact ((((((h.bel.trans (hb.mono hz)).setCell (p := ⟨q, _, none⟩) hq _).setCell (p := ⟨q, _, none⟩) hq _).setCell (p := ⟨q, _, none⟩) hq _).setCell (p := ⟨q, _, none⟩) hq _).setCell (p := ⟨q, _, none⟩) hq _).setCell (p := ⟨q, _, none⟩) hq _

def StrPost (I : Ix) (s : List UInt8) (fr mo : Nat) (w : World) (e : Ending) (w' : World) : Prop :=
  ∃ q zs, e = .returned (.tuple #[.slice (some ⟨q, 0, none⟩) (min mo (I.ver s - fr)) (min mo (I.ver s - fr)), .int .i64 0]) ∧ PlSt w w' q (min mo (I.ver s - fr)) (min mo (I.ver s - fr)) I s fr zs

set_option maxRecDepth 20000 in
set_option maxHeartbeats 4000000 in
theorem Stream_go {w : World} {F : Nat → Prop} {x N : Nat} {I : Ix} (h : IxAt w F x N I) (hN : N ≤ 100000) (s : List UInt8) (hs : s.length ≤ maxLen) (fr mo : Nat) (hfr : fr ≤ 9223372036854775807) (hmo : mo ≤ 9223372036854775807) :
    Calls Try.prog 16 #[.pointer (some ⟨x, 0, none⟩), sv s, .int .i64 (fr : Int), .int .i64 (mo : Int)] w (StrPost I s fr mo w) := by
  obtain ⟨st, hx, _, mp, mk, xs, av, pf, D1, D2, hi⟩ := h
  have hl : xs.length = I.all.length := by rw [← hi.all, List.length_map]
  have hlN := hi.len
  obtain ⟨a, c, hav⟩ := hi.avs
  obtain ⟨V, hV⟩ : ∃ V, V = I.ver s := ⟨_, rfl⟩
  have hVN : V ≤ N := by rw [hV]; exact Nat.le_trans (ver_le I s) hlN
  have hpv : ∃ pa pc, pf s = .slice pa V pc ∧ V ≤ pc ∧ pc ≤ 9223372036854775807 ∧ (pa = none → V = 0 ∧ pc = 0) ∧ (∀ ad, pa = some ad → ∃ g, ad = ⟨g, 0, none⟩ ∧ ∀ i, (hi : i < (plc I.all s).length) → w.cell? ⟨g, i, none⟩ = some (natV (plc I.all s)[i])) := by
    rcases hi.pvc s with ⟨e, h0⟩ | ⟨g, cap, e, h1, h2, h3⟩
    · exact ⟨none, 0, by rw [e, hV, h0], by omega, by omega, fun _ => ⟨by omega, rfl⟩, fun _ h => (by cases h)⟩
    · exact ⟨some ⟨g, 0, none⟩, cap, by rw [e, hV], by omega, h2, fun h => (by cases h), fun ad h => (by cases h; exact ⟨g, rfl, h3⟩)⟩
  obtain ⟨pa, pc, hpf, hVc, hp9, hnone, hsome⟩ := hpv
  obtain ⟨L, hL⟩ : ∃ L, L = xs.length := ⟨_, rfl⟩
  rw [← hL] at hav hl
  subst hav
  have CN := hide (now_go hx hi.stc ⟨a, _, c, rfl⟩)
  obtain ⟨w1, hw1⟩ : ∃ w1, w1 = (w.alloc (.cells (stV (.slice a L c) (some mp) (some mk)) 68)).alloc (.cells (stV (.slice a L c) (some mp) (some mk)) 68) := ⟨_, rfl⟩
  have b1 : Below w.heap.size w w1 := by rw [hw1]; exact ((Below.refl _ _).alloc (Nat.le_refl _) _).alloc (by simp) _
  have z1 : w1.heap.size = w.heap.size + 2 := by rw [hw1]; simp
  obtain ⟨sb, hsb⟩ : ∃ sb, sb = w.heap.size + 1 := ⟨_, rfl⟩
  have bx1 : w1.heap[sb]? = some (.cells (stV (.slice a L c) (some mp) (some mk)) 68 (0, 0)) := by rw [hw1, hsb, show w.heap.size + 1 = (w.alloc (.cells (stV (.slice a L c) (some mp) (some mk)) 68)).heap.size by simp]; exact heap_alloc_self _ _
  have s1 : w1.cell? ⟨sb, 1, none⟩ = some (.map (some mp)) := (cell_of_row _ _ _ _ _ _ bx1).trans rfl
  have hlk := hi.look (W := w1) (b1.block mp hi.mpo.lt) s hs
  rw [hpf] at hlk
  obtain ⟨m, hm⟩ : ∃ m, m = min mo (V - fr) := ⟨_, rfl⟩
  have CP : Hid (Calls Try.prog 32 #[.slice pa V pc, .int .i64 (fr : Int), .int .i64 (mo : Int)] w1 (PartIPost w1 pa V fr mo)) := hide (by
    cases pa with
    | none =>
      obtain ⟨h0, h1⟩ := hnone rfl
      rw [h0, h1]
      exact PartI_nil w1 fr mo hfr hmo
    | some ad =>
      obtain ⟨g, rfl, _⟩ := hsome ad rfl
      by_cases hlt : fr < V
      · exact PartI_in w1 g V pc fr mo hVc hp9 hlt hmo
      · exact PartI_out w1 g V pc fr mo hVc hp9 (by omega) hfr hmo)
  obtain ⟨w2, hmk, blk0, g2⟩ := make_entries w1 m (by omega)
  have bm : Below w1.heap.size w1 w2 := ⟨g2.os, g2.tape, g2.output, g2.size, fun k hk => g2.block k hk (by simp)⟩
  have b2 : Below w.heap.size w w2 := b1.trans (bm.mono b1.size)
  have ST0 : Hid (PlSt w1 w2 w1.heap.size m 0 I s fr []) := hide { blk := blk0, len := rfl, ent := fun i h => by simp at h, new := fun z hz => by simp at hz, bel := bm, hq := Nat.le_refl _ }
  have HE : Hid (∀ W, Below w1.heap.size w1 W → W.cell? ⟨sb, 0, none⟩ = some (.slice a L c) ∧ ∀ k, k < m → ∃ g qa n, pa = some ⟨g, 0, none⟩ ∧ a = some ⟨qa, 0, none⟩ ∧ n < L ∧ (plc I.all s)[fr + k]? = some n ∧ W.cell? ⟨g, fr + k, none⟩ = some (natV n) ∧ ∃ (e : Ent) (fb : Nat), I.all[n]? = some e ∧ W.cell? ⟨qa, n * 6, none⟩ = some (natV n) ∧ W.cell? ⟨qa, n * 6 + 1, none⟩ = some (sv e.s) ∧ W.cell? ⟨qa, n * 6 + 2, none⟩ = some (natV e.num) ∧ W.cell? ⟨qa, n * 6 + 3, none⟩ = some (sv e.e.type) ∧ W.cell? ⟨qa, n * 6 + 4, none⟩ = some (.int .i64 e.e.ver) ∧ W.cell? ⟨qa, n * 6 + 5, none⟩ = some (.slice (some ⟨fb, 0, none⟩) e.e.fields.length e.e.fields.length) ∧ FdBlk W fb e.e.fields.length e.e.fields ∧ e.e.fields.length ≤ 16) := hide (fun W hW => by
    have hWw : Below w.heap.size w W := b1.trans (hW.mono b1.size)
    have bxW := (hW.block sb (by omega)).trans bx1
    refine ⟨(cell_of_row _ _ _ _ _ _ bxW).trans rfl, fun k hk => ?_⟩
    cases pa with
    | none => have := (hnone rfl).1; omega
    | some ad =>
      obtain ⟨g, rfl, hcell⟩ := hsome ad rfl
      have hvl : fr + k < (plc I.all s).length := by have : V = (plc I.all s).length := hV; omega
      obtain ⟨n, hn⟩ : ∃ n, n = (plc I.all s)[fr + k] := ⟨_, rfl⟩
      have hn2 : (plc I.all s)[fr + k]? = some n := by rw [hn]; exact List.getElem?_eq_getElem hvl
      obtain ⟨e, he, _⟩ := plc_at (List.mem_of_getElem? hn2)
      have hnl : n < I.all.length := by
        rcases Nat.lt_or_ge n I.all.length with h' | h'
        · exact h'
        · rw [List.getElem?_eq_none h'] at he; cases he
      have iW := hi.frame (w' := W) fun q _ hl => hWw.block q hl
      rcases hi.avc with ⟨e0, h0⟩ | ⟨qa, cap, e0, _, _⟩
      · omega
      · injection e0 with q1 q2 q3
        subst q1 q3
        have hnx : n < xs.length := by omega
        rw [hL] at iW
        obtain ⟨e0, e1, e2, e3, e4, e5, e6, e7⟩ := iW.ent n hnx
        have hxe : xs[n].1 = e := by
          have := hi.all
          have h2 : (xs.map (·.1))[n]? = I.all[n]? := by rw [this]
          rw [List.getElem?_map, List.getElem?_eq_getElem hnx, he] at h2
          exact Option.some.inj h2
        rw [hxe] at e1 e2 e3 e4 e5 e6 e7
        have hgc := hcell (fr + k) hvl
        rw [← hn] at hgc
        exact ⟨g, qa, n, rfl, rfl, by omega, hn2, (hWw.cell (p := ⟨g, fr + k, none⟩) (World.block_lt_of_cell? w ⟨g, fr + k, none⟩ hgc)).trans hgc, e, xs[n].2, he, e0, e1, e2, e3, e4, e5, e6, e7⟩)
  have HPZ : Hid (∀ W q zs, PlSt w1 W q m m I s fr zs → StrPost I s fr mo w (.returned (.tuple #[.slice (some ⟨q, 0, none⟩) m m, .int .i64 0])) W) := hide (fun W q zs h => ⟨q, zs, by rw [← hV, ← hm], by rw [← hV, ← hm]; exact ⟨h.blk, h.len, h.ent, fun z hz => Nat.le_trans b1.size (h.new z hz), b1.trans (h.bel.mono b1.size), Nat.le_trans b1.size h.hq⟩⟩)
  have HM := hide hm
  have hm1 : m ≤ 100000 := by omega
  have hL1 : L ≤ 100000 := by omega
  have hLc : L ≤ c := by
    rcases hi.avc with ⟨e0, h0⟩ | ⟨qa, cap, e0, h1, _⟩
    · omega
    · injection e0 with q1 q2 q3; omega
  clear hx hi blk0 g2 b2 bm hl hL hnone hsome hm b1 hlN hVc hp9 hpf hVN hV bx1 z1
  go_enter Try.func16, Try.ntmps16
  go_wp2_with fail
  refine (unhide CN).mono ?_
  rintro e w1' ⟨rfl, rfl⟩
  clear CN
  go_upto_region 4 with fail
  rw [← hw1]
  rw [← hsb]
  clear hw1 hsb
  go_wp2_with fail
  refine (unhide CP).mono ?_
  rintro e w1' ⟨a', c', rfl, ha', hmc, rfl⟩
  rw [← unhide HM] at ha' hmc ⊢
  have HA := hide ha'
  clear ha' CP hlk s1
  obtain ⟨q, hq⟩ : ∃ q, q = w1'.heap.size := ⟨_, rfl⟩
  rw [← hq] at hmk ST0
  clear hq
  go_wp2
  go_loopw [38] (fun i wr => ∃ (k : Nat) (zs : List Eno), k ≤ m ∧ i = .int .i64 (k : Int) ∧ Hid (PlSt w1' wr q m k I s fr zs)) (fun i _ => m - (intOf i).toNat)
  case atStart => exact ⟨0, [], by omega, rfl, ST0⟩
  case round =>
    obtain ⟨k, zs, hk, rfl, ST⟩ := hrel
    clear ST0 hmk
    by_cases hlt : k < m
    · obtain ⟨x0, hx1⟩ := unhide HE wr (unhide ST).bel
      obtain ⟨g, qa, n, hpa, haq, hnL, hn, x1, e, fb, hee, d0, d1, d2, d3, d4, d5, d6, d7⟩ := hx1 k hlt
      obtain rfl := unhide HA (by omega) g hpa
      subst haq
      obtain ⟨es, en, ⟨et, ev, ef⟩⟩ := e
      simp only at d1 d2 d3 d4 d5 d6 d7
      have CA := hide (entryApart_go (n : Int) es (en : Int) et ev (some ⟨fb, 0, none⟩) ef.length ef.length ef wr (d6.fdl rfl (by omega)) d7)
      have STP := hide (fun W2 p (hp : wr.heap.size ≤ p) hf hb => (unhide ST).step (W2 := W2) hlt n hn ⟨es, en, ⟨et, ev, ef⟩⟩ hee d7 p hp hf hb)
      obtain ⟨M, hM⟩ : ∃ M, M = ef.length := ⟨_, rfl⟩
      have HFK := hide hM
      unfold natV at x1 d0 d2
      rw [← hM] at d5 CA
      rw [← hM] at STP
      clear d6 d7 hee hM hpa hn hx1
      go_wp2_with fail
      refine (unhide CA).mono ?_
      clear CA
      rintro e2 w5 ⟨p, rfl, hp, hf, hb5⟩
      obtain ⟨rm, st2⟩ := unhide STP w5 p hp (by rw [unhide HFK]; exact hf) hb5
      obtain ⟨⟨v0, r0⟩, s0⟩ := rm 0 (by omega)
      obtain ⟨⟨v1, r1⟩, s1⟩ := rm 1 (by omega)
      obtain ⟨⟨v2, r2⟩, s2⟩ := rm 2 (by omega)
      obtain ⟨⟨v3, r3⟩, s3⟩ := rm 3 (by omega)
      obtain ⟨⟨v4, r4⟩, s4⟩ := rm 4 (by omega)
      obtain ⟨⟨v5, r5⟩, s5⟩ := rm 5 (by omega)
      rw [Nat.add_zero] at r0 s0
      have ST2 : Hid (PlSt w1' ((((((w5.setCell ⟨q, k * 6, none⟩ (.int .i64 (n : Int))).setCell ⟨q, k * 6 + 1, none⟩ (sv es)).setCell ⟨q, k * 6 + 2, none⟩ (.int .i64 (en : Int))).setCell ⟨q, k * 6 + 3, none⟩ (sv et)).setCell ⟨q, k * 6 + 4, none⟩ (.int .i64 ev)).setCell ⟨q, k * 6 + 5, none⟩ (.slice (some ⟨p, 0, none⟩) M M)) q m (k + 1) I s fr (zs ++ [⟨n, ⟨es, en, ⟨et, ev, ef⟩⟩, p⟩])) := hide (by
        have := st2
        unfold put6 natV at this
        rw [unhide HFK]
        exact this)
      rw [← unhide HFK]
      clear rm st2 hp hf hb5 STP HFK d0 d1 d2 d3 d4 d5 ST x0 x1
      go_wp2
      go_roundw
      case rel => exact ⟨k + 1, _, by omega, by go_num, ST2⟩
      case measure => simp [intOf]; omega
    · have hkN : k = m := by omega
      subst hkN
      have HP := hide (unhide HPZ wr q zs (unhide ST))
      clear ST HE HPZ
      go_wp2
      go_ret2
      exact unhide HP
end Go.Proofs.Ytgpijeaehkabdaa
