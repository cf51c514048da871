/-
  DERIVED. The walks of slices.Clone and Apply.
-/
import Derived.Test.YtfgjbmpbailebaaDoorUpG
import Derived.Test.YtfgjbmpbailebaaDoorUpN
import Derived.Test.YtfgjbmpbailebaaDoorShR7
import Derived.Lib.SliceRun
import Derived.OneCell
namespace Go.Proofs.YtfgjbmpbailebaaDoor
open Go.RowKit Go.Maps
set_option linter.unusedVariables false

set_option maxHeartbeats 2000000 in
theorem Clone_fld (a : Option Addr) (c : Nat) (fs : List Fld) (w : World) (hv : FdN w a c fs) (hlen : fs.length * 48 ≤ 140737488355328) :
    Calls Tryd.prog 19 #[.slice a fs.length c] w fun e w' => ∃ v, e = .returned v ∧ FOwn w' w.heap.size v fs ∧ Below w.heap.size w w' := by
  have hcl := fdn_len hv
  have hnil := fun (w : World) => Lib.run_eql_slice_nil (P := Tryd.prog) (w := w) 24
  cases a with
  | none =>
    obtain rfl : c = 0 := by
      by_cases hz : c = 0
      · exact hz
      · obtain ⟨b, off, e⟩ := hv.2 hz; cases e
    obtain rfl : fs = [] := List.eq_nil_of_length_eq_zero (by omega)
    clear hv
    simp only [List.length_nil]
    go_enter Tryd.func19, Tryd.ntmps19
    go_wp2_with fail
    go_ret
    exact ⟨_, rfl, fown_nil _ _, Below.refl _ _⟩
  | some x =>
    have hb0 : Below w.heap.size w (w.alloc (.cells #[] 30)) := (Below.refl _ _).alloc (Nat.le_refl _) _
    have HO0 := hide (fown_empty w)
    have HV0 := hide (hv.below hb0 (Nat.le_refl _))
    have HB0 := hide hb0
    clear hv hb0
    go_enter Tryd.func19, Tryd.ntmps19
    go_wp2_with (at_builtin; refine wpList_append_flds rfl (.tmp 5) (.tmp 6) rfl w.heap.size _ [] rfl (unhide HO0) (some x) c fs rfl (unhide HV0) (by simp; omega) (unhide HB0).size ?_; intro v' w5 own5 b5; have HO5 := hide own5; have HB5 := hide ((unhide HB0).trans b5); clear own5 b5)
    go_ret
    exact ⟨_, rfl, by simpa using unhide HO5, unhide HB5⟩

theorem FOwn.notEv {w : World} {base B : Nat} {v : Value} {R : List Fld} (h : FOwn w base v R) {cs : Array Value} {t : TypeId} {fr : Nat × Nat} (hb : w.heap[B]? = some (.cells cs t fr)) (ht : t ≠ 30) : v.ownBlock ≠ some B := by
  obtain ⟨h1, h2⟩ := h
  rcases h2 with ⟨rfl, _⟩ | ⟨g, cap, cur, rfl, _, hg, _⟩
  · intro e; cases e
  · intro e
    simp only [Value.ownBlock, Option.some.injEq] at e
    subst e
    rw [hg] at hb
    simp only [Option.some.injEq, Obj.cells.injEq] at hb
    exact ht hb.2.1.symm
theorem FmAt.notEv {w : World} {m B : Nat} {S : List Upc} (h : FmAt w m S) {cs : Array Value} {t : TypeId} {fr : Nat × Nat} (hb : w.heap[B]? = some (.cells cs t fr)) : m ≠ B := by
  rintro rfl
  obtain ⟨D, n, ⟨es, clock, hm, _⟩, _⟩ := h
  rw [hm] at hb; cases hb
theorem ChgsAt.notEv {w : World} {m B : Nat} (h : ChgsAt w m) {cs : Array Value} {t : TypeId} {fr : Nat × Nat} (hb : w.heap[B]? = some (.cells cs t fr)) : m ≠ B := by
  rintro rfl
  obtain ⟨D, ⟨es, clock, hm, _⟩, _⟩ := h
  rw [hm] at hb; cases hb

abbrev evv (t : List UInt8) (v : Int) (x : Value) : Array Value := #[sv t, .int .i64 v, x]
/-- Where Apply stands. -/
structure ApSt (w0 w : World) (B R m mp : Nat) (us : List Upc) (tp : List UInt8) (ver : Int) (v : Value) (cur : List Fld) (L : Nat) : Prop where
  bel : Below w0.heap.size w0 w
  box : w.heap[B]? = some (.cells (evv tp ver v) 26 (0, 0))
  res : w.heap[R]? = some (.cells (evv [] 0 (.slice none 0 0)) 26 (0, 0))
  geB : w0.heap.size ≤ B
  geR : w0.heap.size ≤ R
  ne : R ≠ B
  fm : FmAt w m us
  ch : ChgsAt w mp
  own : FOwn w w0.heap.size v cur
  len : cur.length ≤ L
  fit : ∀ f ∈ cur, fits f
theorem ApSt.grown {w0 w w' : World} {B R m mp : Nat} {us : List Upc} {tp : List UInt8} {ver : Int} {v : Value} {cur : List Fld} {L : Nat} (h : ApSt w0 w B R m mp us tp ver v cur L) (hb : Below w.heap.size w w') : ApSt w0 w' B R m mp us tp ver v cur L :=
  ⟨h.bel.trans (hb.mono h.bel.size), (hb.block B (lt_of_block h.box)).trans h.box, (hb.block R (lt_of_block h.res)).trans h.res, h.geB, h.geR, h.ne, h.fm.below hb (Nat.le_refl _), h.ch.below hb (Nat.le_refl _), h.own.below hb (Nat.le_refl _), h.len, h.fit⟩
theorem ApSt.cells {w0 w : World} {B R m mp : Nat} {us : List Upc} {tp : List UInt8} {ver : Int} {v : Value} {cur : List Fld} {L : Nat} (h : ApSt w0 w B R m mp us tp ver v cur L) : w.cell? ⟨B, 0, none⟩ = some (sv tp) ∧ w.cell? ⟨B, 1, none⟩ = some (.int .i64 ver) ∧ w.cell? ⟨B, 2, none⟩ = some v ∧ (∀ i, w.frozen? ⟨B, i, none⟩ = false) :=
  ⟨(cell_of_row _ _ _ _ _ _ h.box).trans rfl, (cell_of_row _ _ _ _ _ _ h.box).trans rfl, (cell_of_row _ _ _ _ _ _ h.box).trans rfl, fun i => by simp [World.frozen?, h.box]⟩
theorem ApSt.resc {w0 w : World} {B R m mp : Nat} {us : List Upc} {tp : List UInt8} {ver : Int} {v : Value} {cur : List Fld} {L : Nat} (h : ApSt w0 w B R m mp us tp ver v cur L) : w.cell? ⟨R, 0, none⟩ = some (sv []) ∧ w.cell? ⟨R, 1, none⟩ = some (.int .i64 0) ∧ w.cell? ⟨R, 2, none⟩ = some (.slice none 0 0) ∧ (∀ i, w.frozen? ⟨R, i, none⟩ = false) :=
  ⟨(cell_of_row _ _ _ _ _ _ h.res).trans rfl, (cell_of_row _ _ _ _ _ _ h.res).trans rfl, (cell_of_row _ _ _ _ _ _ h.res).trans rfl, fun i => by simp [World.frozen?, h.res]⟩
/-- The event's fields are others now. -/
theorem ApSt.setF {w0 w w' : World} {B R m mp : Nat} {us : List Upc} {tp : List UInt8} {ver : Int} {v v' : Value} {cur cur' : List Fld} {L : Nat} (h : ApSt w0 w B R m mp us tp ver v cur L) (hb : Below w.heap.size w w') (ho : FOwn w' w0.heap.size v' cur') (hl : cur'.length ≤ L) (hf : ∀ f ∈ cur', fits f) :
    ApSt w0 (w'.setCell ⟨B, 2, none⟩ v') B R m mp us tp ver v' cur' L := by
  have g := h.grown hb
  refine ⟨g.bel.setCell (p := ⟨B, 2, none⟩) g.geB _, ?_, ?_, g.geB, g.geR, g.ne, ?_, ?_, ?_, hl, hf⟩
  · exact heap_setCell_same w' B 2 _ _ v' g.box
  · exact (Below.heap_setCell w' ⟨B, 2, none⟩ v' R g.ne).trans g.res
  · exact g.fm.frame (Below.heap_setCell w' ⟨B, 2, none⟩ v' m (g.fm.notEv g.box))
  · exact g.ch.frame (Below.heap_setCell w' ⟨B, 2, none⟩ v' mp (g.ch.notEv g.box))
  · exact ownsRow_setCell_other ho (a := ⟨B, 2, none⟩) (ho.notEv g.box (by decide)) v'
theorem ApSt.setV {w0 w : World} {B R m mp : Nat} {us : List Upc} {tp : List UInt8} {ver : Int} {v : Value} {cur : List Fld} {L : Nat} (g : ApSt w0 w B R m mp us tp ver v cur L) (ver' : Int) :
    ApSt w0 (w.setCell ⟨B, 1, none⟩ (.int .i64 ver')) B R m mp us tp ver' v cur L := by
  refine ⟨g.bel.setCell (p := ⟨B, 1, none⟩) g.geB _, ?_, ?_, g.geB, g.geR, g.ne, ?_, ?_, ?_, g.len, g.fit⟩
  · exact heap_setCell_same w B 1 _ _ (.int .i64 ver') g.box
  · exact (Below.heap_setCell w ⟨B, 1, none⟩ (.int .i64 ver') R g.ne).trans g.res
  · exact g.fm.frame (Below.heap_setCell w ⟨B, 1, none⟩ (.int .i64 ver') m (g.fm.notEv g.box))
  · exact g.ch.frame (Below.heap_setCell w ⟨B, 1, none⟩ (.int .i64 ver') mp (g.ch.notEv g.box))
  · exact ownsRow_setCell_other g.own (a := ⟨B, 1, none⟩) (g.own.notEv g.box (by decide)) _
theorem sizeEvent : (Tryd.prog.info? 26).map (·.size) = some 3 := by kernel_rfl

/-- A change of any kind that there is. -/
theorem do_any (c : Chg) (fs : List Fld) (v : Value) (base : Nat) (w : World) (ho : FOwn w base v fs) (hb : base ≤ w.heap.size) (hlen : (fs.length + 1) * 48 ≤ 140737488355328) (hfit : ∀ f ∈ fs, fits f) (hva : Vars w) :
    (c.kind = 1 → Calls Tryd.prog 30 #[v, .agg (cgv c)] w (DoPost w base (doC fs c))) ∧ (c.kind = 2 → Calls Tryd.prog 31 #[v, .agg (cgv c)] w (DoPost w base (doC fs c))) ∧ (c.kind = 3 → Calls Tryd.prog 33 #[v, .agg (cgv c)] w (DoPost w base (doC fs c))) ∧ (c.kind = 4 → Calls Tryd.prog 34 #[v, .agg (cgv c)] w (DoPost w base (doC fs c))) ∧ (c.kind = 5 → Calls Tryd.prog 35 #[v, .agg (cgv c)] w (DoPost w base (doC fs c))) := by
  refine ⟨fun h => ?_, fun h => ?_, fun h => ?_, fun h => ?_, fun h => ?_⟩
  · rw [show doC fs c = addC fs c by simp [doC, h]]; exact vadd_any c fs v base w ho hb hlen
  · rw [show doC fs c = dropF fs c.name by simp [doC, h]]; exact vdrop_any c fs v base w ho hb hlen
  · rw [show doC fs c = renC fs c by simp [doC, h]]; exact vrename_any c fs v base w ho hb hlen
  · rw [show doC fs c = shoC fs c by simp [doC, h]]; exact vshow_any c fs v base w ho hb hlen hfit hva
  · rw [show doC fs c = scaC fs c by simp [doC, h]]; exact vscale_any c fs v base w ho hb hlen
theorem doC_none {fs : List Fld} {c : Chg} (h : isC c.kind = false) : doC fs c = fs := by
  unfold isC at h
  simp only [Bool.and_eq_false_iff, decide_eq_false_iff_not] at h
  unfold doC
  rw [if_neg (by omega), if_neg (by omega), if_neg (by omega), if_neg (by omega), if_neg (by omega)]
theorem isC_some {k : Int} (h : isC k = true) : k = 1 ∨ k = 2 ∨ k = 3 ∨ k = 4 ∨ k = 5 := by
  unfold isC at h
  simp at h
  omega
end Go.Proofs.YtfgjbmpbailebaaDoor
