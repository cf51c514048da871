/-
  DERIVED. An event of one's own, with a copy of the fields: the law for the drawn region that makes it.
-/
import Derived.Test.YtfgjbmpbailebaaDoorUpR
import Derived.Test.YtfgjbmpbailebaaDoorShR9
import Derived.Deep.RegionHeld3
namespace Go.Proofs.YtfgjbmpbailebaaDoor
open Go.RowKit Go.Maps
set_option linter.unusedVariables false

/-- The world in which the fields are appended to a new empty slice at block g. -/
structure ApRd (W0 W : World) (g : Nat) (fa : Option Addr) (fc : Nat) (fs : List Fld) : Prop where
  own : W.heap[g]? = some (.cells #[] 30)
  geg : W0.heap.size ≤ g
  fd : FdN W fa fc fs
  bel : Below W0.heap.size W0 W
/-- And the one behind it. -/
structure ApDn (W0 W w' : World) (v' : Value) (fs : List Fld) : Prop where
  own : FOwn w' W0.heap.size v' fs
  bel : Below W0.heap.size W0 w'
  keep : ∀ (q : Nat) (cur : Array Value) (t : TypeId) (fr : Nat × Nat), W.heap[q]? = some (.cells cur t fr) → t ≠ 30 → w'.heap[q]? = W.heap[q]?

theorem step_append_ev {ops : Array Oper} {o : Oper} {a : Act} {w : World} {K : Act → World → Prop} {Q : Exit → Act → World → Prop} {E : Prop}
    (hg : o.guard = none) (s x : Operand) (ho : o.op = .call { callee := .builtin .append, args := #[s, x], argTypes := #[24, 24] })
    (W0 : World) (g : Nat) (hs : a.eval s = .slice (some ⟨g, 0, none⟩) 0 0) (ya : Option Addr) (n yc : Nat) (m : List Fld) (hn : n = m.length) (hx : a.eval x = .slice ya n yc) (hr : ApRd W0 w g ya yc m) (hlen : m.length * 48 ≤ 140737488355328)
    (hK : ∀ v' w', ApDn W0 w w' v' m → K (a.put o.dst v') w') :
    if Region.wanted o (yielded ops a.tmps) = true then Oper.wp Tryd.prog o a w K Q else E := by
  obtain ⟨hown0, hgb, hy, hbel⟩ := hr
  have hbase : W0.heap.size ≤ w.heap.size := hbel.size
  have hown : FOwn w W0.heap.size (.slice (some ⟨g, 0, none⟩) 0 0) [] := ⟨rfl, .inr ⟨g, 0, #[], rfl, hgb, hown0, Nat.le_refl _, by unfold maxLen; omega, rfl, rfl⟩⟩
  subst hn
  have hw : Region.wanted o (yielded ops a.tmps) = true := by simp [Region.wanted, hg]
  rw [if_pos hw]
  obtain ⟨i0, hi, hh⟩ := Option.map_eq_some_iff.1 Tryd.infoField
  simp only [Prod.mk.injEq] at hh
  obtain ⟨hf, hnil⟩ := hy
  obtain ⟨ao, cap, e, h1, h2, h4⟩ := hf
  cases e
  cases ya with
  | none =>
    obtain rfl : yc = 0 := by
      by_cases hz : yc = 0
      · exact hz
      · obtain ⟨_, _, e⟩ := hnil hz; cases e
    have hm : m = [] := List.eq_nil_of_length_eq_zero (by omega)
    subst hm
    have hrun := run_append_owned_none (P := Tryd.prog) (w := w) W0.heap.size 24 o.type 30 i0 4 Tryd.underlying24 hi _ 0 (fcs []) hown
    unfold Oper.wp
    simp [execOp, ho, resolve, invoke, builtin, hs, hx, hrun, Result.andThen]
    exact hK _ w ⟨hown, hbel, fun _ _ _ _ _ _ => rfl⟩
  | some ad =>
    obtain ⟨v', w', hrun, r1, r2, _⟩ := run_append_own (P := Tryd.prog) w W0.heap.size 24 o.type 30 i0 (.agg (fv fld0)) 4 48 Tryd.underlying24 hi hh.1 hh.2.1 hh.2.2 rfl (by decide) _ 0 (fcs []) hown ad m.length yc (fcs m) (by rw [fcs_len]) (fun j u hj => by
      have hl := (List.getElem?_eq_some_iff.1 hj).1
      rw [fcs_len] at hl
      obtain ⟨b, off, e, _, hc⟩ := h4 (by omega)
      cases e
      exact fcs_at hc j u hj) (fcs_one m) (by unfold maxLen; omega) (by omega) hbase
    unfold Oper.wp
    simp [execOp, ho, resolve, invoke, builtin, hs, hx, hrun, Result.andThen]
    refine hK v' w' ⟨by unfold FOwn; have e : (fcs [] ++ fcs m) = fcs m := rfl; rw [e, Nat.zero_add] at r1; exact r1, hbel.grown r2 hbase ?_, ?_⟩
    · intro k hk
      simp only [Value.ownBlock, Option.some.injEq] at hk; omega
    · intro q cur t fr hq ht
      refine r2.block q (lt_of_block hq) ?_
      simp only [Value.ownBlock]
      intro e
      cases e
      rw [hq] at hown0
      simp only [Option.some.injEq, Obj.cells.injEq] at hown0
      exact ht hown0.2.1

abbrev ev0 : Array Value := evv [] 0 (.slice none 0 0)
/-- What the region makes: a box with the event's type, version, and a copy of its fields. -/
def OutR (W0 : World) (tp : List UInt8) (vr : Int) (fs : List Fld) (t : Value) (wx : World) : Prop :=
  ∃ q v, t = .pointer (some ⟨q, 0, none⟩) ∧ EBx wx q tp vr v ∧ FOwn wx W0.heap.size v fs ∧ Below W0.heap.size W0 wx ∧ W0.heap.size ≤ q
theorem OutR.new {W0 W w' : World} {tp : List UInt8} {vr : Int} {fs : List Fld} {v : Value} (h : ApDn W0 W w' v fs) : OutR W0 tp vr fs (.pointer (some ⟨w'.heap.size, 0, none⟩)) (w'.alloc (.cells (evv tp vr v) 26)) :=
  ⟨_, v, rfl, EBx.new w' tp vr v, h.own.below ((Below.refl _ _).alloc (Nat.le_refl _) _) (Nat.le_refl _), h.bel.alloc h.bel.size _, h.bel.size⟩
theorem OutR.put {W0 W w' : World} {q : Nat} {tp : List UInt8} {vr : Int} {fs : List Fld} {v : Value} (h : ApDn W0 W w' v fs) (hq : W.heap[q]? = some (.cells ev0 26)) (hge : W0.heap.size ≤ q) : OutR W0 tp vr fs (.pointer (some ⟨q, 0, none⟩)) (put3 w' q (sv tp) (.int .i64 vr) v) := by
  have hq2 : w'.heap[q]? = some (.cells ev0 26) := (h.keep q _ _ _ hq (by decide)).trans hq
  have e1 := heap_setCell_same w' q 0 _ _ (sv tp) hq2
  have e2 := heap_setCell_same _ q 1 _ _ (.int .i64 vr) e1
  have e3 := heap_setCell_same _ q 2 _ _ v e2
  have hn := h.own.notEv hq2 (by decide)
  refine ⟨q, v, rfl, e3, ?_, ?_, hge⟩
  · exact ownsRow_setCell_other (ownsRow_setCell_other (ownsRow_setCell_other h.own (a := ⟨q, 0, none⟩) hn _) (a := ⟨q, 1, none⟩) hn _) (a := ⟨q, 2, none⟩) hn _
  · exact ((h.bel.setCell (p := ⟨q, 0, none⟩) hge _).setCell (p := ⟨q, 1, none⟩) hge _).setCell (p := ⟨q, 2, none⟩) hge _

theorem ApDn.cells {W0 W w' : World} {q : Nat} {fs : List Fld} {v : Value} (h : ApDn W0 W w' v fs) (hq : W.heap[q]? = some (.cells ev0 26)) : w'.cell? ⟨q, 0, none⟩ = some (sv []) ∧ w'.cell? ⟨q, 1, none⟩ = some (.int .i64 0) ∧ w'.cell? ⟨q, 2, none⟩ = some (.slice none 0 0) ∧ (∀ i, w'.frozen? ⟨q, i, none⟩ = false) := by
  have hq2 : w'.heap[q]? = some (.cells ev0 26) := (h.keep q _ _ _ hq (by decide)).trans hq
  exact ⟨(cell_of_row _ _ _ _ _ _ hq2).trans rfl, (cell_of_row _ _ _ _ _ _ hq2).trans rfl, (cell_of_row _ _ _ _ _ _ hq2).trans rfl, fun i => by simp [World.frozen?, hq2]⟩

/-- The three worlds in which the append can stand. -/
theorem rd1 {W0 : World} {fa : Option Addr} {fc : Nat} {fs : List Fld} (h : FdN W0 fa fc fs) : ApRd W0 (W0.alloc (.cells #[] 30)).drew W0.heap.size fa fc fs := by
  have b : Below W0.heap.size W0 (W0.alloc (.cells #[] 30)).drew := ((Below.refl _ _).alloc (Nat.le_refl _) _).drew
  exact ⟨heap_alloc_new _ _, Nat.le_refl _, h.below b (Nat.le_refl _), b⟩
theorem rd2 {W0 : World} {fa : Option Addr} {fc : Nat} {fs : List Fld} (h : FdN W0 fa fc fs) : ApRd W0 ((W0.alloc (.cells #[] 30)).alloc (.cells ev0 26)).drew W0.heap.size fa fc fs := by
  have b1 : Below W0.heap.size W0 (W0.alloc (.cells #[] 30)) := (Below.refl _ _).alloc (Nat.le_refl _) _
  have b := (b1.alloc b1.size (.cells ev0 26)).drew
  exact ⟨push2_first _ _ _, Nat.le_refl _, h.below b (Nat.le_refl _), b⟩
theorem rd3 {W0 : World} {fa : Option Addr} {fc : Nat} {fs : List Fld} (h : FdN W0 fa fc fs) : ApRd W0 ((W0.alloc (.cells ev0 26)).alloc (.cells #[] 30)).drew (W0.heap.size + 1) fa fc fs := by
  have b1 : Below W0.heap.size W0 (W0.alloc (.cells ev0 26)) := (Below.refl _ _).alloc (Nat.le_refl _) _
  have b := (b1.alloc b1.size (.cells #[] 30)).drew
  exact ⟨push2_last _ _ _ _ rfl, Nat.le_succ _, h.below b (Nat.le_refl _), b⟩
theorem bx2 (W0 : World) : ((W0.alloc (.cells #[] 30)).alloc (.cells ev0 26)).drew.heap[W0.heap.size + 1]? = some (.cells ev0 26) := push2_last _ _ _ _ rfl
theorem bx3 (W0 : World) : ((W0.alloc (.cells ev0 26)).alloc (.cells #[] 30)).drew.heap[W0.heap.size]? = some (.cells ev0 26) := push2_first _ _ _

/-- The event's cells, which every step keeps. -/
def SE (B : Nat) (tp : List UInt8) (vr : Int) (x : Value) (w' : World) : Prop := w'.cell? ⟨B, 0, none⟩ = some (sv tp) ∧ w'.cell? ⟨B, 1, none⟩ = some (.int .i64 vr) ∧ w'.cell? ⟨B, 2, none⟩ = some x
theorem SE.below {b B : Nat} {tp : List UInt8} {vr : Int} {x : Value} {w w' : World} (h : SE B tp vr x w) (hb : Below b w w') (hB : w.heap.size ≤ b) : SE B tp vr x w' := ⟨cell_kept hb hB h.1, cell_kept hb hB h.2.1, cell_kept hb hB h.2.2⟩
theorem keepE {w : World} {o : Obj} {a b c : Addr} {u v t : Value} (h : w.cell? a = some u ∧ w.cell? b = some v ∧ w.cell? c = some t) : (w.alloc o).cell? a = some u ∧ (w.alloc o).cell? b = some v ∧ (w.alloc o).cell? c = some t :=
  ⟨(World.cell?_alloc_some _ _ _ (by rw [h.1]; rfl)).trans h.1, (World.cell?_alloc_some _ _ _ (by rw [h.2.1]; rfl)).trans h.2.1, (World.cell?_alloc_some _ _ _ (by rw [h.2.2]; rfl)).trans h.2.2⟩
theorem keepE3 {w : World} {g o1 o2 o3 q : Nat} {v0 v1 v2 : Value} {u v t : Value} (hne : g ≠ q) (h : w.cell? ⟨g, o1, none⟩ = some u ∧ w.cell? ⟨g, o2, none⟩ = some v ∧ w.cell? ⟨g, o3, none⟩ = some t) :
    (((w.setCell ⟨q, 0, none⟩ v0).setCell ⟨q, 1, none⟩ v1).setCell ⟨q, 2, none⟩ v2).cell? ⟨g, o1, none⟩ = some u ∧ (((w.setCell ⟨q, 0, none⟩ v0).setCell ⟨q, 1, none⟩ v1).setCell ⟨q, 2, none⟩ v2).cell? ⟨g, o2, none⟩ = some v ∧ (((w.setCell ⟨q, 0, none⟩ v0).setCell ⟨q, 1, none⟩ v1).setCell ⟨q, 2, none⟩ v2).cell? ⟨g, o3, none⟩ = some t := by
  have e : (((w.setCell ⟨q, 0, none⟩ v0).setCell ⟨q, 1, none⟩ v1).setCell ⟨q, 2, none⟩ v2).heap[g]? = w.heap[g]? := by
    rw [heap_setCell_other _ ⟨q, 2, none⟩ _ _ hne, heap_setCell_other _ ⟨q, 1, none⟩ _ _ hne, heap_setCell_other _ ⟨q, 0, none⟩ _ _ hne]
  generalize (((w.setCell ⟨q, 0, none⟩ v0).setCell ⟨q, 1, none⟩ v1).setCell ⟨q, 2, none⟩ v2) = W at e ⊢
  exact ⟨(World.cell?_of_block e).trans h.1, (World.cell?_of_block e).trans h.2.1, (World.cell?_of_block e).trans h.2.2⟩
end Go.Proofs.YtfgjbmpbailebaaDoor
