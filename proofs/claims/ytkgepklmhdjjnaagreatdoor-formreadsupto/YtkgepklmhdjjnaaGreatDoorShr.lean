/-
  DERIVED. strings.Cut at one byte.
-/
import Derived.Test.YtkgepklmhdjjnaaGreatDoorShx
import Derived.BigQuiet
import Derived.Laws.ResultCell
import Derived.Laws.Rows
namespace Go.Proofs.YtkgepklmhdjjnaaGreatDoor
open Go.RowKit
set_option linter.unusedVariables false

/-- A text cut at its first byte c. -/
def cutA (c : UInt8) : List UInt8 → List UInt8 × Option (List UInt8)
  | [] => ([], none)
  | d :: r => if d = c then ([], some r) else (d :: (cutA c r).1, (cutA c r).2)

theorem cutA_index (c : UInt8) (s : List UInt8) : (Lib.indexByte s c = -1 ∧ cutA c s = (s, none)) ∨ ∃ i : Nat, Lib.indexByte s c = i ∧ i < s.length ∧ cutA c s = (s.take i, some (s.drop (i + 1))) := by
  induction s with
  | nil => exact .inl ⟨rfl, rfl⟩
  | cons d r ih =>
    by_cases h : d = c
    · subst h
      exact .inr ⟨0, by simp [Lib.indexByte], by simp, by simp [cutA]⟩
    · rcases ih with ⟨h1, h2⟩ | ⟨i, h1, h2, h3⟩
      · exact .inl ⟨by simp [Lib.indexByte, h, h1], by simp [cutA, h, h2]⟩
      · refine .inr ⟨i + 1, ?_, by simp; omega, by simp [cutA, h, h3]⟩
        simp [Lib.indexByte, h, h1]

theorem ext_take (s : List UInt8) (i : Nat) : (⟨s.toArray⟩ : ByteArray).extract 0 i = ⟨(s.take i).toArray⟩ := by
  apply ByteArray.ext
  simp
theorem ext_drop (s : List UInt8) (i : Nat) : (⟨s.toArray⟩ : ByteArray).extract i s.length = ⟨(s.drop i).toArray⟩ := by
  apply ByteArray.ext
  simp
  exact List.take_of_length_le (by simp)

abbrev cutV (p : List UInt8 × Option (List UInt8)) : Value := .tuple #[sv p.1, sv (p.2.getD []), .bool p.2.isSome]

set_option maxHeartbeats 2000000 in
theorem liteCut_any (s : List UInt8) (c : UInt8) (w : World) (hs : s.length ≤ 9223372036854775000) :
    Calls Tryz.prog 141 #[sv s, .string ⟨#[c]⟩] w fun e w' => e = .returned (cutV (cutA c s)) ∧ Below w.heap.size w w' := by
  have hI := Tryz.stringslite_Index_one ⟨s.toArray⟩ c w
  rcases cutA_index c s with ⟨h1, h2⟩ | ⟨i, h1, h2, h3⟩
  · rw [h2]
    have h1' : Lib.indexByte (⟨s.toArray⟩ : ByteArray).data.toList c = -1 := h1
    rw [h1'] at hI
    have HI := hide hI
    clear hI h1 h1' h2
    go_enter Tryz.func141, Tryz.ntmps141
    go_wp2_with (go_at_call 179; refine (unhide HI).mono ?_; rintro e w' ⟨rfl, rfl⟩)
    go_ret3
    exact ⟨rfl, Below.refl _ _⟩
  · rw [h3]
    have h1' : Lib.indexByte (⟨s.toArray⟩ : ByteArray).data.toList c = (i : Int) := h1
    rw [h1'] at hI
    have HI := hide hI
    have c1 : (0 : Int) ≤ (i : Int) := by omega
    have c2 : (i : Int) ≤ (s.length : Int) := by omega
    have c3 : (0 : Int) ≤ (i : Int) + 1 := by omega
    have c4 : (i : Int) + 1 ≤ (s.length : Int) := by omega
    clear hI h1 h1' h3
    go_enter Tryz.func141, Tryz.ntmps141
    go_wp2_with (go_at_call 179; refine (unhide HI).mono ?_; rintro e w' ⟨rfl, rfl⟩)
    go_region
    go_wp2
    go_ret3
    refine ⟨?_, (Below.refl _ _).drew⟩
    show Ending.returned (Value.tuple #[Value.string ((⟨s.toArray⟩ : ByteArray).extract 0 i), Value.string ((⟨s.toArray⟩ : ByteArray).extract (i + 1) s.length), Value.bool true]) = _
    rw [ext_take, ext_drop]
    rfl

set_option maxHeartbeats 1000000 in
theorem Cut_any (s : List UInt8) (c : UInt8) (w : World) (hs : s.length ≤ 9223372036854775000) :
    Calls Tryz.prog 83 #[sv s, .string ⟨#[c]⟩] w fun e w' => e = .returned (cutV (cutA c s)) ∧ Below w.heap.size w w' := by
  have HI := hide (liteCut_any s c w hs)
  obtain ⟨p, q⟩ : ∃ p, p = cutA c s := ⟨_, rfl⟩
  rw [← q] at HI ⊢
  obtain ⟨p1, p2⟩ := p
  clear q
  go_enter Tryz.func83, Tryz.ntmps83
  go_wp2_with (go_at_call 141; refine (unhide HI).mono ?_; rintro e w' ⟨rfl, b4⟩; have HB := hide b4; clear b4)
  go_ret3
  exact ⟨rfl, unhide HB⟩

/-! ### A field's box -/
def FBox (w : World) (q : Nat) (f : Fld) : Prop := w.heap[q]? = some (.cells (fv f) 33 (0, 0))
theorem FBox.cells {w : World} {q : Nat} {f : Fld} (h : FBox w q f) : w.cell? ⟨q, 0, none⟩ = some (sv f.name) ∧ w.cell? ⟨q, 1, none⟩ = some (.bool f.text) ∧ w.cell? ⟨q, 2, none⟩ = some (.int .i64 f.n) ∧ w.cell? ⟨q, 3, none⟩ = some (sv f.s) ∧ ∀ i, w.frozen? ⟨q, i, none⟩ = false :=
  ⟨(cell_of_row _ _ _ _ _ _ h).trans rfl, (cell_of_row _ _ _ _ _ _ h).trans rfl, (cell_of_row _ _ _ _ _ _ h).trans rfl, (cell_of_row _ _ _ _ _ _ h).trans rfl, fun i => by simp [World.frozen?, show w.heap[q]? = _ from h]⟩
theorem FBox.put {w : World} {q : Nat} {f : Fld} (h : FBox w q f) (a : List UInt8) (t : Bool) (n : Int) (s : List UInt8) : FBox ((((w.setCell ⟨q, 0, none⟩ (sv a)).setCell ⟨q, 1, none⟩ (.bool t)).setCell ⟨q, 2, none⟩ (.int .i64 n)).setCell ⟨q, 3, none⟩ (sv s)) q ⟨a, t, n, s⟩ := by
  unfold FBox at h ⊢
  rw [heap_setCell_same _ q 3 _ _ _ (heap_setCell_same _ q 2 _ _ _ (heap_setCell_same _ q 1 _ _ _ (heap_setCell_same w q 0 _ _ _ h)))]
  rfl
theorem FBox.same {w w' : World} {q : Nat} {f : Fld} (h : FBox w q f) (e : w'.heap[q]? = w.heap[q]?) : FBox w' q f := e.trans h
theorem FBox.lt {w : World} {q : Nat} {f : Fld} (h : FBox w q f) : q < w.heap.size := lt_of_block h
theorem FBox.below {B : Nat} {w w' : World} {q : Nat} {f : Fld} (h : FBox w q f) (hb : Below B w w') (hB : w.heap.size ≤ B) : FBox w' q f := h.same (hb.block q (by have := h.lt; omega))
theorem FBox.new (w : World) (f : Fld) : FBox (w.alloc (.cells (fv f) 33)) w.heap.size f := heap_alloc_new _ _
theorem below_put {B : Nat} {a w : World} (h : Below B a w) {q : Nat} (hq : B ≤ q) (x : List UInt8) (t : Bool) (n : Int) (s : List UInt8) : Below B a ((((w.setCell ⟨q, 0, none⟩ (sv x)).setCell ⟨q, 1, none⟩ (.bool t)).setCell ⟨q, 2, none⟩ (.int .i64 n)).setCell ⟨q, 3, none⟩ (sv s)) :=
  (((h.setCell (p := ⟨q, 0, none⟩) hq _).setCell (p := ⟨q, 1, none⟩) hq _).setCell (p := ⟨q, 2, none⟩) hq _).setCell (p := ⟨q, 3, none⟩) hq _
theorem results_ct {P : Program} {fn : Func} {p u : Tmp} {ty : TypeId} (h : fn.results = #[.cell p ty, .tmp u]) (tmps : Array Value) (w : World) (g : Nat) (t : TypeId) (cs : Array Value) (fr : Nat × Nat) (d : TypeDesc) (x : Value)
    (hp : tmps.getD p undef = .pointer (some ⟨g, 0, none⟩)) (hx : tmps.getD u undef = x) (hg : w.heap[g]? = some (.cells cs t fr))
    (hu : P.underlying ty = some d) (hd : (match d with | .struct _ | .array _ _ => true | _ => false) = true) (hi : (P.info? ty).map (·.size) = some cs.size) :
    (results fn tmps).run P w = .ok (.tuple #[.agg cs, x]) w := by
  rw [results_cell_tmp h, hp, hx]
  simp [asAddr, Result.andThen, run_loadVar_row w g t ty cs fr d hg hu hd hi]
theorem sizeField : (Tryz.prog.info? 33).map (·.size) = some 4 := by kernel_rfl
end Go.Proofs.YtkgepklmhdjjnaaGreatDoor
