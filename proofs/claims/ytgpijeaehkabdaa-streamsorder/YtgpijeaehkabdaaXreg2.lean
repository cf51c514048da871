/-
  DERIVED. The law's statement '_, b, e := x.Try(..)' in whatever order, told without an index.
-/
import Derived.Test.YtgpijeaehkabdaaXreg
namespace Go.Proofs.Ytgpijeaehkabdaa
open Go.RowKit Go.Maps
set_option linter.unusedVariables false

/-- What the statement leaves. -/
def TrB (wr : World) (I : Ix) (s k : List UInt8) (es : List Evn) (t19 t20 t21 : Value) (wx : World) : Prop :=
  ∃ ab bb, t19 = .pointer (some ⟨ab, 0, none⟩) ∧ t20 = .pointer (some ⟨bb, 0, none⟩) ∧ Below wr.heap.size wr wx ∧ wr.heap.size ≤ bb ∧ ((tryOk I s (-1) k es ∧ t21 = .int .i64 0 ∧ ∃ q ys, BBox wx bb s k (I.ver s : Nat) (.slice (some ⟨q, 0, none⟩) es.length es.length) ∧ EvBlk wx q es.length ys ∧ ys.map (·.1) = es ∧ (∀ y ∈ ys, wr.heap.size ≤ y.2) ∧ wr.heap.size ≤ q) ∨ (¬ tryOk I s (-1) k es ∧ BBox wx bb [] [] 0 (.slice none 0 0) ∧ ∃ err : Int, t21 = .int .i64 err))

theorem TrB.fin {wr wx : World} {I : Ix} {s k : List UInt8} {es : List Evn} {ab bb q : Nat} {ys : List (Evn × Nat)} (hok : tryOk I s (-1) k es) (hb : Below wr.heap.size wr wx) (hB : BBox wx bb s k (I.ver s : Nat) (.slice (some ⟨q, 0, none⟩) es.length es.length)) (hk : EvBlk wx q es.length ys) (he : ys.map (·.1) = es) (hy : ∀ y ∈ ys, wr.heap.size ≤ y.2) (hq : wr.heap.size ≤ q) (hbb : wr.heap.size ≤ bb) :
    TrB wr I s k es (.pointer (some ⟨ab, 0, none⟩)) (.pointer (some ⟨bb, 0, none⟩)) (.int .i64 0) wx := ⟨ab, bb, rfl, rfl, hb, hbb, .inl ⟨hok, rfl, q, ys, hB, hk, he, hy, hq⟩⟩
theorem TrB.ok {wr P V V1 : World} {I : Ix} {s k : List UInt8} {es : List Evn} {ab bb q : Nat} {ys : List (Evn × Nat)} (h : RSt wr P (some ab) (some bb)) (hok : tryOk I s (-1) k es) (hV : wr.heap.size ≤ V.heap.size) (g : Got V V1 q es ys) (hP : Below V1.heap.size V1 P) (f p c : Int) (t : Bool) :
    TrB wr I s k es (.pointer (some ⟨ab, 0, none⟩)) (.pointer (some ⟨bb, 0, none⟩)) (.int .i64 0) (stored P ab bb f p c t s k (I.ver s : Nat) (.slice (some ⟨q, 0, none⟩) es.length es.length)) := by
  obtain ⟨h1, h2, h3, h4, h5, h6⟩ := h.stored f p c t s k (I.ver s : Nat) (.slice (some ⟨q, 0, none⟩) es.length es.length)
  have bP : EvBlk P q es.length ys := g.blk.same (hP.block q g.blk.lt) (fun y hy => hP.block y.2 (g.blk.2 y hy).1.lt)
  have ha := (h.a ab rfl).1
  have hb := (h.b bb rfl).1
  have bS : EvBlk (Go.Proofs.Ytgpijeaehkabdaa.stored P ab bb f p c t s k (I.ver s : Nat) (.slice (some ⟨q, 0, none⟩) es.length es.length)) q es.length ys :=
    bP.same (stored_far P f p c t s k _ _ (bP.kind ha (by decide)) (bP.kind hb (by decide))) (fun y hy => stored_far P f p c t s k _ _ ((bP.2 y hy).1.kind ha (by decide)) ((bP.2 y hy).1.kind hb (by decide)))
  exact TrB.fin hok h3 h2 bS g.evs (fun y hy => by have := g.new y hy; omega) (by have := g.hq; omega) h6
theorem TrB.bad {wr P : World} {I : Ix} {s k : List UInt8} {es : List Evn} {ab bb : Nat} (h : RSt wr P (some ab) (some bb)) (hok : ¬ tryOk I s (-1) k es) (f p c : Int) (t : Bool) (err : Int) :
    TrB wr I s k es (.pointer (some ⟨ab, 0, none⟩)) (.pointer (some ⟨bb, 0, none⟩)) (.int .i64 err) (stored P ab bb f p c t [] [] 0 (.slice none 0 0)) := by
  obtain ⟨h1, h2, h3, h4, h5, h6⟩ := h.stored f p c t [] [] 0 (.slice none 0 0)
  exact ⟨ab, bb, rfl, rfl, h3, h6, .inr ⟨hok, h2, err, rfl⟩⟩
theorem TrB.okAB {wr V V1 : World} {I : Ix} {s k : List UInt8} {es : List Evn} {q : Nat} {ys : List (Evn × Nat)} (h : Below wr.heap.size wr V1) (hok : tryOk I s (-1) k es) (hV : wr.heap.size ≤ V.heap.size) (g : Got V V1 q es ys) (f p c : Int) (t : Bool) :
    TrB wr I s k es (.pointer (some ⟨V1.heap.size, 0, none⟩)) (.pointer (some ⟨V1.heap.size + 1, 0, none⟩)) (.int .i64 0) ((V1.alloc (.cells (apV f p c t) 27)).alloc (.cells (bt s k (I.ver s : Nat) (some ⟨q, 0, none⟩) es.length es.length) 30)) := by
  have hb : Below V1.heap.size V1 ((V1.alloc (.cells (apV f p c t) 27)).alloc (.cells (bt s k (I.ver s : Nat) (some ⟨q, 0, none⟩) es.length es.length) 30)) := ((Below.refl _ _).alloc (Nat.le_refl _) _).alloc (by simp) _
  have hz := h.size
  exact TrB.fin hok (h.trans (hb.mono hz)) (by unfold BBox; rw [show V1.heap.size + 1 = (V1.alloc (.cells (apV f p c t) 27)).heap.size by simp]; exact heap_alloc_self _ _) (g.blk.same (hb.block q g.blk.lt) (fun y hy => hb.block y.2 (g.blk.2 y hy).1.lt)) g.evs (fun y hy => by have := g.new y hy; omega) (by have := g.hq; omega) (by omega)
theorem TrB.okBA {wr V V1 : World} {I : Ix} {s k : List UInt8} {es : List Evn} {q : Nat} {ys : List (Evn × Nat)} (h : Below wr.heap.size wr V1) (hok : tryOk I s (-1) k es) (hV : wr.heap.size ≤ V.heap.size) (g : Got V V1 q es ys) (f p c : Int) (t : Bool) :
    TrB wr I s k es (.pointer (some ⟨V1.heap.size + 1, 0, none⟩)) (.pointer (some ⟨V1.heap.size, 0, none⟩)) (.int .i64 0) ((V1.alloc (.cells (bt s k (I.ver s : Nat) (some ⟨q, 0, none⟩) es.length es.length) 30)).alloc (.cells (apV f p c t) 27)) := by
  have hb : Below V1.heap.size V1 ((V1.alloc (.cells (bt s k (I.ver s : Nat) (some ⟨q, 0, none⟩) es.length es.length) 30)).alloc (.cells (apV f p c t) 27)) := ((Below.refl _ _).alloc (Nat.le_refl _) _).alloc (by simp) _
  have hz := h.size
  exact TrB.fin hok (h.trans (hb.mono hz)) (by unfold BBox; rw [Below.heap_alloc _ _ _ (by simp)]; exact heap_alloc_self _ _) (g.blk.same (hb.block q g.blk.lt) (fun y hy => hb.block y.2 (g.blk.2 y hy).1.lt)) g.evs (fun y hy => by have := g.new y hy; omega) (by have := g.hq; omega) (by omega)
theorem TrB.okB {wr V V1 : World} {I : Ix} {s k : List UInt8} {es : List Evn} {q bb : Nat} {ys : List (Evn × Nat)} (h : RSt wr V1 none (some bb)) (hok : tryOk I s (-1) k es) (hV : wr.heap.size ≤ V.heap.size) (g : Got V V1 q es ys) (f p c : Int) (t : Bool) :
    TrB wr I s k es (.pointer (some ⟨V1.heap.size, 0, none⟩)) (.pointer (some ⟨bb, 0, none⟩)) (.int .i64 0) (((((V1.alloc (.cells (apV f p c t) 27)).setCell ⟨bb, 0, none⟩ (sv s)).setCell ⟨bb, 1, none⟩ (sv k)).setCell ⟨bb, 2, none⟩ (.int .i64 (I.ver s : Nat))).setCell ⟨bb, 3, none⟩ (.slice (some ⟨q, 0, none⟩) es.length es.length)) := by
  have hb : Below V1.heap.size V1 (V1.alloc (.cells (apV f p c t) 27)) := (Below.refl _ _).alloc (Nat.le_refl _) _
  have hn := h.next hb
  have hz := h.bel.size
  have bP : EvBlk (V1.alloc (.cells (apV f p c t) 27)) q es.length ys := g.blk.same (hb.block q g.blk.lt) (fun y hy => hb.block y.2 (g.blk.2 y hy).1.lt)
  have far : ∀ z, z ≠ bb → (((((V1.alloc (.cells (apV f p c t) 27)).setCell ⟨bb, 0, none⟩ (sv s)).setCell ⟨bb, 1, none⟩ (sv k)).setCell ⟨bb, 2, none⟩ (.int .i64 (I.ver s : Nat))).setCell ⟨bb, 3, none⟩ (.slice (some ⟨q, 0, none⟩) es.length es.length)).heap[z]? = (V1.alloc (.cells (apV f p c t) 27)).heap[z]? := fun z h1 => by
    rw [heap_setCell_other _ ⟨bb, 3, none⟩ _ _ h1, heap_setCell_other _ ⟨bb, 2, none⟩ _ _ h1, heap_setCell_other _ ⟨bb, 1, none⟩ _ _ h1, heap_setCell_other _ ⟨bb, 0, none⟩ _ _ h1]
  have hbb := (hn.b bb rfl)
  exact TrB.fin hok (below_putB hn.bel hbb.2 s k (I.ver s : Nat) _) (hn.bbox.put s k (I.ver s : Nat) _) (bP.same (far q (bP.kind hbb.1 (by decide))) (fun y hy => far y.2 ((bP.2 y hy).1.kind hbb.1 (by decide)))) g.evs (fun y hy => by have := g.new y hy; omega) (by have := g.hq; omega) hbb.2
theorem TrB.badAB {wr V1 : World} {I : Ix} {s k : List UInt8} {es : List Evn} (h : Below wr.heap.size wr V1) (hok : ¬ tryOk I s (-1) k es) (f p c : Int) (t : Bool) (err : Int) :
    TrB wr I s k es (.pointer (some ⟨V1.heap.size, 0, none⟩)) (.pointer (some ⟨V1.heap.size + 1, 0, none⟩)) (.int .i64 err) ((V1.alloc (.cells (apV f p c t) 27)).alloc (.cells (bt [] [] 0 none 0 0) 30)) :=
  ⟨_, _, rfl, rfl, (h.alloc h.size _).alloc (Nat.le_trans h.size (by simp)) _, Nat.le_succ_of_le h.size, .inr ⟨hok, by unfold BBox; rw [show V1.heap.size + 1 = (V1.alloc (.cells (apV f p c t) 27)).heap.size by simp]; exact heap_alloc_self _ _, err, rfl⟩⟩
theorem TrB.badBA {wr V1 : World} {I : Ix} {s k : List UInt8} {es : List Evn} (h : Below wr.heap.size wr V1) (hok : ¬ tryOk I s (-1) k es) (f p c : Int) (t : Bool) (err : Int) :
    TrB wr I s k es (.pointer (some ⟨V1.heap.size + 1, 0, none⟩)) (.pointer (some ⟨V1.heap.size, 0, none⟩)) (.int .i64 err) ((V1.alloc (.cells (bt [] [] 0 none 0 0) 30)).alloc (.cells (apV f p c t) 27)) :=
  ⟨_, _, rfl, rfl, (h.alloc h.size _).alloc (Nat.le_trans h.size (by simp)) _, h.size, .inr ⟨hok, by unfold BBox; rw [Below.heap_alloc _ _ _ (by simp)]; exact heap_alloc_self _ _, err, rfl⟩⟩
theorem TrB.badB {wr V1 : World} {I : Ix} {s k : List UInt8} {es : List Evn} {bb : Nat} (h : RSt wr V1 none (some bb)) (hok : ¬ tryOk I s (-1) k es) (f p c : Int) (t : Bool) (err : Int) :
    TrB wr I s k es (.pointer (some ⟨V1.heap.size, 0, none⟩)) (.pointer (some ⟨bb, 0, none⟩)) (.int .i64 err) (((((V1.alloc (.cells (apV f p c t) 27)).setCell ⟨bb, 0, none⟩ (sv [])).setCell ⟨bb, 1, none⟩ (sv [])).setCell ⟨bb, 2, none⟩ (.int .i64 0)).setCell ⟨bb, 3, none⟩ (.slice none 0 0)) := by
  have hn := h.next ((Below.refl V1.heap.size V1).alloc (Nat.le_refl _) (.cells (apV f p c t) 27))
  exact ⟨_, _, rfl, rfl, below_putB hn.bel (hn.b bb rfl).2 [] [] 0 _, (hn.b bb rfl).2, .inr ⟨hok, hn.bbox.put [] [] 0 _, err, rfl⟩⟩

/-- Events in blocks that no memory of F holds. -/
theorem evfar_blk {F : Nat → Prop} {W : World} {q : Nat} {es : List Evn} {ys : List (Evn × Nat)} (hk : EvBlk W q es.length ys) (he : ys.map (·.1) = es) (h16 : es.length ≤ 16) (hq : ¬ F q) (hy : ∀ y ∈ ys, ¬ F y.2) : EvFar F W (some ⟨q, 0, none⟩) es.length es.length es := by
  have hl : ys.length = es.length := by have := congrArg List.length he; simpa using this
  refine ⟨fun A hA hkk => ?_, fun b off e _ => ?_⟩
  · have b2 : EvBlk A q es.length ys := hk.same (hkk q hk.lt hq) (fun y hyy => hkk y.2 (hk.2 y hyy).1.lt (hy y hyy))
    have := b2.evl hl h16
    rwa [he] at this
  · cases e
    exact ⟨hk.lt, hq⟩
end Go.Proofs.Ytgpijeaehkabdaa
