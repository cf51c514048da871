/-
  DERIVED. A block of memory that holds bytes; make([]byte, 512).
-/
import Derived.Test.YtbgaomfoiooegaaDpick
namespace Go.Proofs.Ytbgaomfoiooegaa
open Go.RowKit
set_option linter.unusedVariables false

/-- A block of memory that holds these bytes and nothing else. -/
def Row (w : World) (g : Nat) (L : List UInt8) : Prop := w.heap[g]? = some (.cells (L.map bv).toArray 5 (0, 0))
theorem Row.cell {w : World} {g : Nat} {L : List UInt8} (h : Row w g L) (i : Nat) (hi : i < L.length) : w.cell? ⟨g, i, none⟩ = some (bv L[i]) := by
  unfold Row at h
  simp [World.cell?, h, List.getElem?_eq_getElem hi]
theorem Row.frozen {w : World} {g : Nat} {L : List UInt8} (h : Row w g L) (i : Nat) : w.frozen? ⟨g, i, none⟩ = false := frozen_of_row w g i _ _ h
theorem Row.set {w : World} {g : Nat} {L : List UInt8} (h : Row w g L) (i : Nat) (x : UInt8) : Row (w.setCell ⟨g, i, none⟩ (bv x)) g (L.set i x) := by
  unfold Row at h ⊢
  rw [heap_setCell_same w g i _ _ _ h]
  congr 2
  apply Array.ext'
  simp [List.map_set]
theorem Row.below {B : Nat} {w w' : World} {g : Nat} {L : List UInt8} (h : Row w g L) (hb : Below B w w') (hg : g < B) : Row w' g L := (hb.block g hg).trans h

theorem fill_set (x : UInt8) (i : Nat) (h : i < 512) : (List.replicate i x ++ List.replicate (512 - i) 0).set i x = List.replicate (i + 1) x ++ List.replicate (512 - (i + 1)) 0 := by
  rw [List.set_append_right _ _ (by simp)]
  have e : 512 - i = (512 - (i + 1)) + 1 := by omega
  rw [e, List.replicate_succ, List.length_replicate, Nat.sub_self, List.set_cons_zero, List.replicate_succ', List.append_assoc]
  rfl

theorem made_bytes : madeCells #[Value.int .u8 0] 512 = ((List.replicate 512 (0 : UInt8)).map bv).toArray := by
  apply Array.ext'
  rw [toList_madeCells_one, List.map_replicate]
  exact congrArg (List.replicate 512) (show Value.int .u8 0 = bv 0 from rfl)

theorem run_make_512 (w : World) : (Instr.makeSlice 22 (.int .i64 512) (.int .i64 512)).run Try.prog w = .ok (.slice (some ⟨w.heap.size, 0, none⟩) 512 512) (w.alloc (.cells ((List.replicate 512 (0 : UInt8)).map bv).toArray 5)) := by
  obtain ⟨i, hi, hh⟩ := Option.map_eq_some_iff.1 Try.info5
  simp only [Prod.mk.injEq] at hh
  have h := run_make (P := Try.prog) w 22 5 i _ Try.underlying22 hi hh.1 .i64 .i64 512 512 (by omega) (Int.le_refl _) (by rw [hh.2.2]; omega) (by omega)
  rw [h, hh.2.1]
  show Result.ok _ (w.alloc (.cells (madeCells #[Value.int .u8 0] 512) 5)) = _
  rw [made_bytes]
  rfl

end Go.Proofs.Ytbgaomfoiooegaa
