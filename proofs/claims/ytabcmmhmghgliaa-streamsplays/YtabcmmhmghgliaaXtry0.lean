/-
  DERIVED. The walks of version and of the state's try.
-/
import Derived.Test.YtabcmmhmghgliaaXfun
import Derived.Laws.ResultCell
namespace Go.Proofs.Ytabcmmhmghgliaa
open Go.RowKit Go.Maps
set_option linter.unusedVariables false

theorem version_go {w : World} {F : Nat → Prop} {st mp mk N : Nat} {I : Ix} {xs : List (Ent × Nat)} {av : Value} {pf : List UInt8 → Value} {D1 D2 : DataW Value} (h : IxIn w F st mp mk N I xs av pf D1 D2) (a : Option Addr) (n c : Nat) (ha : av = .slice a n c) (s : List UInt8) (hs : s.length ≤ maxLen) (W : World) (hW : W.heap[mp]? = w.heap[mp]?) :
    Calls Try.prog 47 #[.agg (stV (.slice a n c) (some mp) (some mk)), sv s] W fun e w' => e = .returned (.int .i64 (I.ver s)) ∧ Below W.heap.size W w' := by
  have hlt : mp < W.heap.size := by
    obtain ⟨es, clock, hb, _⟩ := ownsMap_frame h.mpo hW
    exact lt_of_block hb
  have hl := h.look (W := W.alloc (.cells (stV (.slice a n c) (some mp) (some mk)) 68)) ((Below.heap_alloc _ _ _ hlt).trans hW) s hs
  obtain ⟨a1, c1, e1⟩ := h.pfs s
  rw [e1] at hl
  have HB := hide ((Below.refl W.heap.size W).alloc (Nat.le_refl _) (.cells (stV (.slice a n c) (some mp) (some mk)) 68))
  clear h hW e1
  go_enter Try.func47, Try.ntmps47
  go_wp2
  go_ret
  exact ⟨rfl, unhide HB⟩

theorem results_ct {P : Program} {fn : Func} {p u : Tmp} {ty : TypeId} (h : fn.results = #[.cell p ty, .tmp u]) (tmps : Array Value) (w : World) (g : Nat) (t : TypeId) (cs : Array Value) (fr : Nat × Nat) (d : TypeDesc) (x : Value)
    (hp : tmps.getD p undef = .pointer (some ⟨g, 0, none⟩)) (hx : tmps.getD u undef = x) (hg : w.heap[g]? = some (.cells cs t fr))
    (hu : P.underlying ty = some d) (hd : (match d with | .struct _ | .array _ _ => true | _ => false) = true) (hi : (P.info? ty).map (·.size) = some cs.size) :
    (results fn tmps).run P w = .ok (.tuple #[.agg cs, x]) w := by
  rw [results_cell_tmp h, hp, hx]
  simp [asAddr, Result.andThen, run_loadVar_row w g t ty cs fr d hg hu hd hi]
theorem sizeApp : (Try.prog.info? 44).map (·.size) = some 4 := by kernel_rfl

abbrev apV (f p c : Int) (b : Bool) : Array Value := #[.int .i64 f, .int .i64 p, .int .i64 c, .bool b]
def ABox (w : World) (q : Nat) (f p c : Int) (b : Bool) : Prop := w.heap[q]? = some (.cells (apV f p c b) 44 (0, 0))
theorem ABox.cells {w : World} {q : Nat} {f p c : Int} {b : Bool} (h : ABox w q f p c b) : w.cell? ⟨q, 0, none⟩ = some (.int .i64 f) ∧ w.cell? ⟨q, 1, none⟩ = some (.int .i64 p) ∧ w.cell? ⟨q, 2, none⟩ = some (.int .i64 c) ∧ w.cell? ⟨q, 3, none⟩ = some (.bool b) ∧ ∀ i, w.frozen? ⟨q, i, none⟩ = false :=
  ⟨(cell_of_row _ _ _ _ _ _ h).trans rfl, (cell_of_row _ _ _ _ _ _ h).trans rfl, (cell_of_row _ _ _ _ _ _ h).trans rfl, (cell_of_row _ _ _ _ _ _ h).trans rfl, fun i => by simp [World.frozen?, show w.heap[q]? = _ from h]⟩
theorem ABox.put {w : World} {q : Nat} {f p c : Int} {b : Bool} (h : ABox w q f p c b) (f' p' c' : Int) (b' : Bool) : ABox ((((w.setCell ⟨q, 0, none⟩ (.int .i64 f')).setCell ⟨q, 1, none⟩ (.int .i64 p')).setCell ⟨q, 2, none⟩ (.int .i64 c')).setCell ⟨q, 3, none⟩ (.bool b')) q f' p' c' b' := by
  unfold ABox at h ⊢
  rw [heap_setCell_same _ q 3 _ _ _ (heap_setCell_same _ q 2 _ _ _ (heap_setCell_same _ q 1 _ _ _ (heap_setCell_same w q 0 _ _ _ h)))]
  rfl
theorem ABox.same {w w' : World} {q : Nat} {f p c : Int} {b : Bool} (h : ABox w q f p c b) (e : w'.heap[q]? = w.heap[q]?) : ABox w' q f p c b := e.trans h
theorem below_put {B : Nat} {a w : World} (h : Below B a w) {q : Nat} (hq : B ≤ q) (f' p' c' : Int) (b' : Bool) : Below B a ((((w.setCell ⟨q, 0, none⟩ (.int .i64 f')).setCell ⟨q, 1, none⟩ (.int .i64 p')).setCell ⟨q, 2, none⟩ (.int .i64 c')).setCell ⟨q, 3, none⟩ (.bool b')) :=
  (((h.setCell (p := ⟨q, 0, none⟩) hq _).setCell (p := ⟨q, 1, none⟩) hq _).setCell (p := ⟨q, 2, none⟩) hq _).setCell (p := ⟨q, 3, none⟩) hq _

open Classical in
/-- What a try comes to: P10.1. -/
noncomputable def tryA (I : Ix) (s : List UInt8) (x : Int) (k : List UInt8) (es : List Evn) : Array Value × Int :=
  if ¬ okNames s k then (apV 0 0 0 false, 100) else
  match I.key k with
  | some d => if d.s ≠ s then (apV 0 0 0 false, 101) else (apV d.first d.pos d.cnt true, 0)
  | none => if ¬ okEvs es then (apV 0 0 0 false, 102) else if x < -1 then (apV 0 0 0 false, 1) else if x ≠ -1 ∧ x ≠ (I.ver s : Int) then (apV 0 0 0 false, 103) else (apV (I.ver s) I.all.length es.length false, 0)

def TrPost (r : Array Value × Int) (w : World) (e : Ending) (w' : World) : Prop := e = .returned (.tuple #[.agg r.1, .int .i64 r.2]) ∧ Below w.heap.size w w'

end Go.Proofs.Ytabcmmhmghgliaa
