/-
  DERIVED. The document's Batch: where its loops stand, in plain words.
-/
import Derived.Test.YtkikfdbjfhgfoaaRefBat2
namespace Go.Proofs.Ytkikfdbjfhgfoaa
open Go.RowKit
set_option linter.unusedVariables false

/-- Where the loop over an event's fields stands: the cursor, the event's box and its fields' row; all that was there ahead of the event stays, the cursor aside. -/
structure Mid (w W0 W : World) (cb eb : Nat) (bad : Bool) (l' t : List UInt8) (ver : Int) (vF : Value) (fs : List Fld) : Prop where
  cu : CuAt w W cb bad l'
  box : EBox W eb t ver vF
  row : FdRow W w.heap.size vF fs
  high : ∀ q, vF.ownBlock = some q → eb < q
  new : W0.heap.size ≤ eb
  base : w.heap.size ≤ W0.heap.size
  cne : cb < W0.heap.size
  keep : ∀ q, q < W0.heap.size → q ≠ cb → W.heap[q]? = W0.heap[q]?
theorem Mid.cursor {w W0 W W' : World} {cb eb : Nat} {bad bad' : Bool} {l' l2 t : List UInt8} {ver : Int} {vF : Value} {fs : List Fld} (h : Mid w W0 W cb eb bad l' t ver vF fs) (hc : CuAt w W' cb bad' l2) (hg : W.grownBy W' (some cb)) : Mid w W0 W' cb eb bad' l2 t ver vF fs := by
  have h1 := h.new
  have h2 := h.cne
  refine { h with cu := hc, box := h.box.same (hg.block _ (lt_of_block h.box) (fun e => by have := Option.some.inj e; omega)), row := rowF h.row (fun q hq hl => hg.block q hl (fun e => by have := Option.some.inj e; have := h.high q hq; omega)), keep := fun q hq hn => ?_ }
  have hlt := lt_of_block h.box
  exact (hg.block q (by omega) (fun e => hn (Option.some.inj e))).trans (h.keep q hq hn)
theorem Mid.grown {w W0 W W' : World} {cb eb : Nat} {bad : Bool} {l' t : List UInt8} {ver : Int} {vF : Value} {fs : List Fld} (h : Mid w W0 W cb eb bad l' t ver vF fs) (hg : W.grownBy W' none) : Mid w W0 W' cb eb bad l' t ver vF fs := h.cursor (h.cu.kept hg) (hg.but _)
/-- A field's box, made behind all of these. -/
theorem Mid.setF {w W0 W : World} {cb eb fb : Nat} {bad : Bool} {l' t : List UInt8} {ver : Int} {vF : Value} {fs : List Fld} (h : Mid w W0 W cb eb bad l' t ver vF fs) (hf : eb < fb) (hv : ∀ q, vF.ownBlock = some q → q < fb) (i : Nat) (x : Value) : Mid w W0 (W.setCell ⟨fb, i, none⟩ x) cb eb bad l' t ver vF fs := by
  have h1 := h.new
  have h2 := h.cne
  have h3 := h.base
  have ho : ∀ q, q ≠ fb → (W.setCell ⟨fb, i, none⟩ x).heap[q]? = W.heap[q]? := fun q hq => heap_setCell_other _ _ _ _ hq
  exact { h with cu := h.cu.beside (setCell_grown _ _ _ _) (fun j e => by cases e; exact ⟨by omega, by omega⟩), box := h.box.same (ho _ (by omega)), row := rowF h.row (fun q hq _ => ho q (by have := hv q hq; omega)), keep := fun q hq hn => (ho q (by omega)).trans (h.keep q hq hn) }
theorem row_shape {w : World} {e : TypeId} {base size : Nat} {v : Value} {n : Nat} {xs : List Value} (h : w.ownsRow base e size v n xs) : ∃ a k c, v = .slice a k c := by
  rcases h.2 with ⟨rfl, _⟩ | ⟨g, cap, cur, rfl, _⟩
  · exact ⟨_, _, _, rfl⟩
  · exact ⟨_, _, _, rfl⟩
/-- The field is appended, and the event's box turned. -/
theorem Mid.put {w W0 W W' : World} {cb eb : Nat} {bad : Bool} {l' t : List UInt8} {ver : Int} {vF v' : Value} {fs : List Fld} (h : Mid w W0 W cb eb bad l' t ver vF fs) (f : Fld) (hr : FdRow W' w.heap.size v' (fs ++ [f])) (hg : (W.alloc (.cells (fv f) 62)).grownBy W' vF.ownBlock) (hl : v'.ownBlock = vF.ownBlock ∨ v'.ownBlock = some (W.heap.size + 1)) :
    EBox W' eb t ver vF ∧ Mid w W0 (W'.setCell ⟨eb, 2, none⟩ v') cb eb bad l' t ver v' (fs ++ [f]) := by
  have h1 := h.new
  have h2 := h.cne
  have h3 := h.base
  have hlt := lt_of_block h.box
  have hga : W.grownBy W' vF.ownBlock := (World.grownBy_alloc W _ _).trans hg
  have hE : EBox W' eb t ver vF := h.box.same (hga.block _ hlt (fun e => by have := h.high eb e.symm; omega))
  have hh : ∀ q, v'.ownBlock = some q → eb < q := fun q hq => by
    rcases hl with e | e
    · exact h.high q (e ▸ hq)
    · rw [e] at hq; have := Option.some.inj hq; omega
  refine ⟨hE, { cu := ?_, box := hE.set2 v', row := rowF hr (fun q hq _ => heap_setCell_other _ _ _ _ (show q ≠ eb by have := hh q hq; omega)), high := hh, new := h1, base := h3, cne := h2, keep := fun q hq hn => ?_ }⟩
  · refine (h.cu.beside hga (fun j e => ?_)).beside (setCell_grown _ _ _ _) (fun j e => by cases e; exact ⟨by omega, by omega⟩)
    have := h.high j e
    exact ⟨by omega, by omega⟩
  · rw [heap_setCell_other _ _ _ _ (show q ≠ eb by omega), hga.block q (by omega) (fun e => by have := h.high q e.symm; omega)]
    exact h.keep q hq hn

/-- What the fields read so far say of an event that was laid. -/
def FBack (l : List UInt8) (m k : Nat) (bad : Bool) (t : List UInt8) (ver : Nat) (fs : List Fld) (l' : List UInt8) : Prop := ∀ g r, l = layEv g ++ r → okEv g → (∀ f ∈ g.fields, fitN f) → bad = false ∧ t = g.type ∧ (ver : Int) = g.ver ∧ m = g.fields.length ∧ fs = g.fields.take k ∧ l' = laysL layFld (g.fields.drop k) ++ r
theorem FBack.step {l : List UInt8} {m k : Nat} {bad bad' : Bool} {t : List UInt8} {ver : Nat} {fs : List Fld} {l' l2 : List UInt8} (h : FBack l m k bad t ver fs l') (hk : k < m) (f : Fld) (hc : bad = false → ∀ g r, l' = layFld g ++ r → okField g → fitN g → bad' = false ∧ f = g ∧ l2 = r) : FBack l m (k + 1) bad' t ver (fs ++ [f]) l2 := by
  intro g r hl hok hfit
  obtain ⟨q0, q1, q2, q3, q4, q5⟩ := h g r hl hok hfit
  have hkg : k < g.fields.length := by omega
  rw [List.drop_eq_getElem_cons hkg] at q5
  simp only [laysL, List.append_assoc] at q5
  obtain ⟨s0, s1, s2⟩ := hc q0 g.fields[k] _ q5 (okAt_field hok.2.2.2.2 _ (List.getElem_mem hkg)) (hfit _ (List.getElem_mem hkg))
  refine ⟨s0, q1, q2, q3, ?_, s2⟩
  rw [take_succ_get _ _ hkg, ← q4, s1]

/-- Where the loop over the events stands. -/
structure Out (w W : World) (cb xb : Nat) (bad : Bool) (s ky : List UInt8) (fi : Int) (vE : Value) (xs : List (Evn × Value)) (l' : List UInt8) : Prop where
  cu : CuAt w W cb bad l'
  res : BBox W w.heap.size [] [] 0 (.slice none 0 0)
  box : BBox W xb s ky fi vE
  rows : EvRow W w.heap.size vE xs
  xne : w.heap.size < xb
def BBack (l : List UInt8) (n k : Nat) (bad : Bool) (s ky : List UInt8) (fi : Nat) (es : List Evn) (l' : List UInt8) : Prop := ∀ y, l = layBt y → goodB y → bad = false ∧ s = y.stream ∧ ky = y.key ∧ (fi : Int) = y.first ∧ n = y.events.length ∧ es = y.events.take k ∧ l' = laysL layEv (y.events.drop k)
theorem BBack.step {l : List UInt8} {n k : Nat} {bad bad' : Bool} {s ky : List UInt8} {fi : Nat} {es : List Evn} {l' l2 : List UInt8} (h : BBack l n k bad s ky fi es l') (hk : k < n) (e : Evn) (hc : ∀ g r, l' = layEv g ++ r → okEv g → (∀ f ∈ g.fields, fitN f) → bad' = false ∧ e = g ∧ l2 = r) : BBack l n (k + 1) bad' s ky fi (es ++ [e]) l2 := by
  intro y hl hy
  obtain ⟨q0, q1, q2, q3, q4, q5, q6⟩ := h y hl hy
  have hkg : k < y.events.length := by omega
  rw [List.drop_eq_getElem_cons hkg] at q6
  simp only [laysL] at q6
  have hmem := List.getElem_mem hkg
  obtain ⟨s0, s1, s2⟩ := hc y.events[k] _ q6 (hy.2 _ hmem).1 (hy.2 _ hmem).2
  refine ⟨s0, q1, q2, q3, q4, ?_, s2⟩
  rw [take_succ_get _ _ hkg, ← q5, ← s1]
/-- Behind an event's fields, all that stood ahead of the event stands. -/
theorem Out.mid {w W0 W : World} {cb xb eb : Nat} {bad bad' : Bool} {s ky : List UInt8} {fi : Int} {vE : Value} {xs : List (Evn × Value)} {l' l2 t : List UInt8} {ver : Int} {vF : Value} {fs : List Fld} (h : Out w W0 cb xb bad s ky fi vE xs l') (hm : Mid w W0 W cb eb bad' l2 t ver vF fs) : Out w W cb xb bad' s ky fi vE xs l2 := by
  obtain ⟨cv, hcv, _⟩ := h.cu.ex
  have hr : w.heap.size ≠ cb := fun e => by have := h.res; unfold BBox at this; rw [e, hcv] at this; simp at this
  have hx : xb ≠ cb := fun e => by have := h.box; rw [e] at this; unfold BBox at this; rw [hcv] at this; simp at this
  refine ⟨hm.cu, h.res.same (hm.keep _ (lt_of_block h.res) hr), h.box.same (hm.keep _ (lt_of_block h.box) hx), h.rows.same (fun q hq hl => hm.keep q hl (fun e => ?_)) (fun x hx q hq hl => hm.keep q hl (fun e => ?_)), h.xne⟩
  · exact rowNe h.rows.row hcv (by decide) (e ▸ hq)
  · exact rowNe (h.rows.fld x hx).1 hcv (by decide) (e ▸ hq)
/-- An event is appended. -/
theorem Out.put {w W0 W W' : World} {cb xb eb : Nat} {bad bad' : Bool} {s ky : List UInt8} {fi : Int} {vE v' : Value} {xs : List (Evn × Value)} {l' l2 t : List UInt8} {ver : Int} {vF : Value} {fs : List Fld} (h0 : Out w W0 cb xb bad s ky fi vE xs l') (hm : Mid w W0 W cb eb bad' l2 t ver vF fs) (hf : fs.length ≤ 16) (hr : W'.ownsRow w.heap.size 59 3 v' (xs.length + 1) (evC xs ++ [sv t, .int .i64 ver, vF])) (hg : (W.alloc (.cells #[sv t, .int .i64 ver, vF] 59)).grownBy W' vE.ownBlock) (hl : v'.ownBlock = vE.ownBlock ∨ v'.ownBlock = some (W.heap.size + 1)) :
    BBox W' xb s ky fi vE ∧ Out w (W'.setCell ⟨xb, 3, none⟩ v') cb xb bad' s ky fi v' (xs ++ [(⟨t, ver, fs⟩, vF)]) l2 := by
  have h := h0.mid hm
  have hga : W.grownBy W' vE.ownBlock := (World.grownBy_alloc W _ _).trans hg
  obtain ⟨cv, hcv, _⟩ := h.cu.ex
  have hvE := h.rows.row
  have hxr := h.xne
  have hB : BBox W' xb s ky fi vE := h.box.same (hga.block _ (lt_of_block h.box) (fun e => rowNe hvE h.box (by decide) e.symm))
  have hbx := hB
  have hv' : ∀ q, v'.ownBlock = some q → q ≠ xb := fun q hq e => by
    rw [e] at hq
    exact rowNe hr hB (by decide) hq
  have hne : ∀ q (v : Value) (n : Nat) (ys : List Value), W.ownsRow w.heap.size 62 4 v n ys → v.ownBlock = some q → vE.ownBlock ≠ some q ∧ q ≠ xb := fun q v n ys ho hq => by
    obtain ⟨_, _, cur, hc⟩ := rowL ho hq
    refine ⟨rowNe hvE hc (by decide), fun e => ?_⟩
    rw [e] at hq
    exact rowNe ho h.box (by decide) hq
  refine ⟨hB, ⟨?_, ?_, hB.set3 v', ⟨?_, ?_⟩, hxr⟩⟩
  · refine (h.cu.beside hga (fun j e => ⟨(rowL hvE e).2.1, fun e2 => ?_⟩)).beside (setCell_grown _ _ _ _) (fun j e => by
      cases e
      refine ⟨by omega, fun e2 => ?_⟩
      have := h.box
      rw [e2] at this
      unfold BBox at this
      rw [hcv] at this
      simp at this)
    rw [e2] at e
    exact rowNe hvE hcv (by decide) e
  · refine h.res.same ((heap_setCell_other _ _ _ _ (show w.heap.size ≠ xb by omega)).trans (hga.block _ (lt_of_block h.res) (fun e => rowNe hvE h.res (by decide) e.symm)))
  · rw [List.length_append, evC_snoc]
    exact rowF hr (fun q hq _ => heap_setCell_other _ _ _ _ (hv' q hq))
  · intro x hx
    rcases List.mem_append.1 hx with h' | h'
    · obtain ⟨k1, k2⟩ := h.rows.fld x h'
      refine ⟨rowF k1 (fun q hq hl2 => ?_), k2⟩
      obtain ⟨n1, n2⟩ := hne q _ _ _ k1 hq
      exact (heap_setCell_other _ _ _ _ n2).trans (hga.block q hl2 (fun e => n1 e.symm))
    · rw [List.mem_singleton.1 h']
      refine ⟨rowF hm.row (fun q hq hl2 => ?_), hf⟩
      obtain ⟨n1, n2⟩ := hne q _ _ _ hm.row hq
      exact (heap_setCell_other _ _ _ _ n2).trans (hga.block q hl2 (fun e => n1 e.symm))
theorem Out.ne {w W : World} {cb xb : Nat} {bad : Bool} {s ky : List UInt8} {fi : Int} {vE : Value} {xs : List (Evn × Value)} {l' : List UInt8} (h : Out w W cb xb bad s ky fi vE xs l') : w.heap.size ≠ cb ∧ xb ≠ cb := by
  obtain ⟨cv, hcv, _⟩ := h.cu.ex
  exact ⟨fun e => by have := h.res; unfold BBox at this; rw [e, hcv] at this; simp at this, fun e => by have := h.box; rw [e] at this; unfold BBox at this; rw [hcv] at this; simp at this⟩
theorem Out.cursor {w W W' : World} {cb xb : Nat} {bad bad' : Bool} {s ky : List UInt8} {fi : Int} {vE : Value} {xs : List (Evn × Value)} {l' l2 : List UInt8} (h : Out w W cb xb bad s ky fi vE xs l') (hc : CuAt w W' cb bad' l2) (hg : W.grownBy W' (some cb)) : Out w W' cb xb bad' s ky fi vE xs l2 := by
  obtain ⟨n1, n2⟩ := h.ne
  obtain ⟨cv, hcv, _⟩ := h.cu.ex
  refine ⟨hc, h.res.same (hg.block _ (lt_of_block h.res) (fun e => n1 (Option.some.inj e))), h.box.same (hg.block _ (lt_of_block h.box) (fun e => n2 (Option.some.inj e))), h.rows.same (fun q hq hl => hg.block q hl (fun e => ?_)) (fun x hx q hq hl => hg.block q hl (fun e => ?_)), h.xne⟩
  · exact rowNe h.rows.row hcv (by decide) ((Option.some.inj e) ▸ hq)
  · exact rowNe (h.rows.fld x hx).1 hcv (by decide) ((Option.some.inj e) ▸ hq)
/-- A batch's box, no event read yet. -/
theorem Out.first {w W : World} {cb : Nat} {bad : Bool} {l' : List UInt8} (s : List UInt8) (hc : CuAt w W cb bad l') (hr : BBox W w.heap.size [] [] 0 (.slice none 0 0)) : Out w (W.alloc (.cells (bt s [] 0 none 0 0) 25)) cb W.heap.size bad s [] 0 (.slice none 0 0) [] l' := by
  have hg := World.grownBy_alloc W (.cells (bt s [] 0 none 0 0) 25) none
  exact ⟨hc.kept hg, hr.same (hg.block _ (lt_of_block hr) (by simp)), heap_alloc_self _ _, ⟨World.ownsRow_nil _ _ _ _, fun x hx => by simp at hx⟩, lt_of_block hr⟩
theorem Out.set1 {w W : World} {cb xb : Nat} {bad : Bool} {s ky : List UInt8} {fi : Int} {l' : List UInt8} (h : Out w W cb xb bad s ky fi (.slice none 0 0) [] l') (x : List UInt8) : Out w (W.setCell ⟨xb, 1, none⟩ (sv x)) cb xb bad s x fi (.slice none 0 0) [] l' := by
  have hx := h.xne
  exact ⟨h.cu.beside (setCell_grown _ _ _ _) (fun j e => by cases e; exact ⟨by omega, h.ne.2⟩), h.res.same (heap_setCell_other _ _ _ _ (show w.heap.size ≠ xb by omega)), h.box.set1 x, ⟨World.ownsRow_nil _ _ _ _, fun x hx => by simp at hx⟩, hx⟩
theorem Out.set2 {w W : World} {cb xb : Nat} {bad : Bool} {s ky : List UInt8} {fi : Int} {l' : List UInt8} (h : Out w W cb xb bad s ky fi (.slice none 0 0) [] l') (x : Int) : Out w (W.setCell ⟨xb, 2, none⟩ (.int .i64 x)) cb xb bad s ky x (.slice none 0 0) [] l' := by
  have hx := h.xne
  exact ⟨h.cu.beside (setCell_grown _ _ _ _) (fun j e => by cases e; exact ⟨by omega, h.ne.2⟩), h.res.same (heap_setCell_other _ _ _ _ (show w.heap.size ≠ xb by omega)), h.box.set2 x, ⟨World.ownsRow_nil _ _ _ _, fun x hx => by simp at hx⟩, hx⟩
/-- An event's box, no field read yet. -/
theorem Out.event {w W0 W : World} {cb xb : Nat} {bad bad' : Bool} {s ky : List UInt8} {fi : Int} {vE : Value} {xs : List (Evn × Value)} {l' l2 : List UInt8} (h : Out w W0 cb xb bad s ky fi vE xs l') (hc : CuAt w W cb bad' l2) (hg : W0.grownBy W (some cb)) (t : List UInt8) : Mid w W0 (W.alloc (.cells (ev t 0 none 0 0) 59)) cb W.heap.size bad' l2 t 0 (.slice none 0 0) [] := by
  have ha := World.grownBy_alloc W (.cells (ev t 0 none 0 0) 59) none
  have hs := hg.size
  have hb := h.cu.grown.size
  refine ⟨hc.kept ha, heap_alloc_self _ _, World.ownsRow_nil _ _ _ _, (fun q hq => by cases hq), hs, hb, h.cu.lt, fun q hq hn => ?_⟩
  exact (ha.block q (by omega) (by simp)).trans (hg.block q hq (fun e => hn (Option.some.inj e)))
theorem Mid.set1 {w W0 W : World} {cb eb : Nat} {bad : Bool} {l' t : List UInt8} {ver : Int} {vF : Value} {fs : List Fld} (h : Mid w W0 W cb eb bad l' t ver vF fs) (x : Int) : Mid w W0 (W.setCell ⟨eb, 1, none⟩ (.int .i64 x)) cb eb bad l' t x vF fs := by
  have h1 := h.new
  have h2 := h.cne
  have h3 := h.base
  have ho : ∀ q, q ≠ eb → (W.setCell ⟨eb, 1, none⟩ (.int .i64 x)).heap[q]? = W.heap[q]? := fun q hq => heap_setCell_other _ _ _ _ hq
  exact { h with cu := h.cu.beside (setCell_grown _ _ _ _) (fun j e => by cases e; exact ⟨by omega, by omega⟩), box := h.box.set1 x, row := rowF h.row (fun q hq _ => ho q (by have := h.high q hq; omega)), keep := fun q hq hn => (ho q (by omega)).trans (h.keep q hq hn) }
theorem put_good' {x : Bat} (hf : ∀ e ∈ x.events, fitE e) (h : putE x = 0) : goodB x ∧ (layBt x).length ≤ 2000 := by
  refine ⟨layBt_fit h hf, ?_⟩
  unfold putE at h
  by_cases hb : batE x = 0
  · rw [hb, if_neg (by simp)] at h
    by_cases h20 : 2000 < (layBt x).length
    · rw [if_pos h20] at h; cases h
    · omega
  · rw [if_pos hb] at h; exact absurd h hb
theorem reads_none {w W : World} {l : List UInt8} (hg : w.grownBy W none) (hb : BBox W w.heap.size [] [] 0 (.slice none 0 0)) (hno : ∀ y, goodB y → (layBt y).length ≤ 2000 → layBt y ≠ l) :
    Reads w l (.returned (.tuple #[.agg (bt [] [] 0 none 0 0), .int .i64 11])) ((((W.setCell ⟨w.heap.size, 0, none⟩ (sv [])).setCell ⟨w.heap.size, 1, none⟩ (sv [])).setCell ⟨w.heap.size, 2, none⟩ (.int .i64 0)).setCell ⟨w.heap.size, 3, none⟩ (.slice none 0 0)) ∧ BBox ((((W.setCell ⟨w.heap.size, 0, none⟩ (sv [])).setCell ⟨w.heap.size, 1, none⟩ (sv [])).setCell ⟨w.heap.size, 2, none⟩ (.int .i64 0)).setCell ⟨w.heap.size, 3, none⟩ (.slice none 0 0)) w.heap.size [] [] 0 (.slice none 0 0) := by
  refine ⟨⟨[], [], 0, none, 0, 0, [], 11, rfl, ?_, EvL_none _, .inr ⟨rfl, rfl, rfl, rfl, rfl, hno⟩⟩, (((hb.set0 _).set1 _).set2 _).set3 _⟩
  exact below_of_grown (own_step (own_step (own_step (own_step hg (Nat.le_refl _) (setCell_grown _ _ _ _)) (Nat.le_refl _) (setCell_grown _ _ _ _)) (Nat.le_refl _) (setCell_grown _ _ _ _)) (Nat.le_refl _) (setCell_grown _ _ _ _))
theorem reads_some {w W : World} {cb xb : Nat} {bad : Bool} {s ky : List UInt8} {fi : Int} {va : Option Addr} {vn vc : Nat} {xs : List (Evn × Value)} {l' l : List UInt8} (h : Out w W cb xb bad s ky fi (.slice va vn vc) xs l') (hn : xs.length ≤ 16) (hgd : goodB ⟨s, ky, fi, xs.map (·.1)⟩) (hl : (layBt ⟨s, ky, fi, xs.map (·.1)⟩).length ≤ 2000) (he : layBt ⟨s, ky, fi, xs.map (·.1)⟩ = l) :
    Reads w l (.returned (.tuple #[.agg (bt s ky fi va vn vc), .int .i64 0])) ((((W.setCell ⟨w.heap.size, 0, none⟩ (sv s)).setCell ⟨w.heap.size, 1, none⟩ (sv ky)).setCell ⟨w.heap.size, 2, none⟩ (.int .i64 fi)).setCell ⟨w.heap.size, 3, none⟩ (.slice va vn vc)) ∧ BBox ((((W.setCell ⟨w.heap.size, 0, none⟩ (sv s)).setCell ⟨w.heap.size, 1, none⟩ (sv ky)).setCell ⟨w.heap.size, 2, none⟩ (.int .i64 fi)).setCell ⟨w.heap.size, 3, none⟩ (.slice va vn vc)) w.heap.size s ky fi (.slice va vn vc) := by
  have hset : ∀ (X : World) (i : Nat) (v : Value), (∀ p, p ≠ w.heap.size → X.heap[p]? = W.heap[p]?) → (∀ p, p ≠ w.heap.size → (X.setCell ⟨w.heap.size, i, none⟩ v).heap[p]? = W.heap[p]?) := fun X i v x2 p hp => (heap_setCell_other _ _ _ _ (show p ≠ w.heap.size from hp)).trans (x2 p hp)
  have y2 := hset _ 3 (.slice va vn vc) (hset _ 2 (.int .i64 fi) (hset _ 1 (sv ky) (hset W 0 (sv s) fun _ _ => rfl)))
  have R := h.rows.same (fun q hq _ => y2 q (fun e => rowNe h.rows.row h.res (by decide) (e ▸ hq))) (fun x hx q hq _ => y2 q (fun e => rowNe (h.rows.fld x hx).1 h.res (by decide) (e ▸ hq)))
  obtain ⟨a', n', c', e1, e2, EV⟩ := R.evl hn
  refine ⟨⟨s, ky, fi, va, vn, vc, xs.map (·.1), 0, rfl, ?_, EV, .inl ⟨rfl, hgd, hl, he⟩⟩, (((h.res.set0 _).set1 _).set2 _).set3 _⟩
  exact below_of_grown (own_step (own_step (own_step (own_step h.cu.grown (Nat.le_refl _) (setCell_grown _ _ _ _)) (Nat.le_refl _) (setCell_grown _ _ _ _)) (Nat.le_refl _) (setCell_grown _ _ _ _)) (Nat.le_refl _) (setCell_grown _ _ _ _))
end Go.Proofs.Ytkikfdbjfhgfoaa
