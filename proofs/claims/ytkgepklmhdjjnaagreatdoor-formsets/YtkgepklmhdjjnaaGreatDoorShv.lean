/-
  DERIVED. Package variables, Itoa, valueText.
-/
import Derived.Test.YtkgepklmhdjjnaaGreatDoorShc
import Derived.Test.YtkgepklmhdjjnaaGreatDoorShB
import Derived.Lib.AppendIntMem
namespace Go.Proofs.YtkgepklmhdjjnaaGreatDoor
open Go.RowKit
set_option linter.unusedVariables false

/-- The variables of the library that are read: the powers of ten, and the two errors. -/
def Vars (w : World) : Prop := Lib.TabIs Tryz.prog w "internal/strconv.uint64pow10" .u64 Lib.pow10Tab ∧ (∃ te pe, w.cell? ⟨1, 0, none⟩ = some (.iface te pe)) ∧ (∃ te pe, w.cell? ⟨2, 0, none⟩ = some (.iface te pe))

theorem cell_kept {B : Nat} {w w' : World} (hb : Below B w w') (hB : w.heap.size ≤ B) {a : Addr} {v : Value} (hc : w.cell? a = some v) : w'.cell? a = some v :=
  (hb.cell (Nat.lt_of_lt_of_le (World.block_lt_of_cell? w a hc) hB)).trans hc

theorem Vars.below {B : Nat} {w w' : World} (h : Vars w) (hb : Below B w w') (hB : w.heap.size ≤ B) : Vars w' := by
  obtain ⟨h1, ⟨t1, p1, h2⟩, ⟨t2, p2, h3⟩⟩ := h
  refine ⟨?_, ⟨t1, p1, cell_kept hb hB h2⟩, ⟨t2, p2, cell_kept hb hB h3⟩⟩
  have hg : Tryz.prog.globalNamed "internal/strconv.uint64pow10" = some 3 := by kernel_rfl
  unfold Lib.TabIs World.var? at h1 ⊢
  rw [hg] at h1 ⊢
  simp only [Option.bind_some] at h1 ⊢
  have hlt : 3 < w.heap.size := by
    rcases Nat.lt_or_ge 3 w.heap.size with h' | h'
    · exact h'
    · rw [Array.getElem?_eq_none h'] at h1; cases h1
  rw [hb.block 3 (by omega)]
  exact h1

theorem Itoa_go (n : Int) (h0 : -9223372036854775808 ≤ n) (h1 : n ≤ 9223372036854775807) (w : World) (hv : Vars w) :
    Calls Tryz.prog 130 #[.int .i64 n] w fun e w' => e = .returned (sv (Lib.itoa n)) ∧ Below w.heap.size w w' := by
  refine (Tryz.strconv_Itoa n h0 h1 w hv.1).mono ?_
  rintro e w' ⟨rfl, k, os, rfl⟩
  exact ⟨rfl, Lib.below_grow _ _ (Nat.le_refl _) k os⟩

theorem str_cat (a b : List UInt8) : (⟨a.toArray⟩ : ByteArray) ++ ⟨b.toArray⟩ = ⟨(a ++ b).toArray⟩ := by
  apply ByteArray.ext
  simp [ByteArray.data_append]
theorem str_cat1 (c : UInt8) (b : List UInt8) : sv (c :: b) = .string ((⟨#[c]⟩ : ByteArray) ++ ⟨b.toArray⟩) := by
  rw [show (⟨#[c]⟩ : ByteArray) = ⟨[c].toArray⟩ from rfl, str_cat]; rfl

/-- A value's text. -/
def valT (f : Fld) : List UInt8 := if f.text then 39 :: esc f.s else Lib.itoa f.n

set_option maxHeartbeats 2000000 in
theorem valueText_any (f : Fld) (w : World) (hf : fits f) (hs : 3 * f.s.length ≤ 140737488355328) (hv : Vars w) :
    Calls Tryz.prog 81 #[.agg (fv f)] w fun e w' => e = .returned (sv (valT f)) ∧ Below w.heap.size w w' := by
  obtain ⟨name, text, n, s⟩ := f
  obtain ⟨f1, f2, f3, f4⟩ := hf
  simp only at f1 f2 f3 f4 hs
  have HB := hide ((Below.refl w.heap.size w).alloc (Nat.le_refl _) (.cells (fv ⟨name, text, n, s⟩) 33))
  have HV := hide (hv.below (unhide HB) (Nat.le_refl _))
  clear hv
  cases text with
  | true =>
    have hz : 1 + (esc s).length ≤ 9223372036854775807 := by have := esc_length s; omega
    go_enter Tryz.func81, Tryz.ntmps81
    go_wp2_with (go_at_call 15; refine (Escape_any s _ hs).mono ?_; rintro e w' ⟨rfl, b4⟩; have HB4 := hide b4; clear b4)
    go_ret
    exact ⟨by rw [valT, if_pos rfl, str_cat1]; rfl, bel_box (Below.refl _ _) (unhide HB4)⟩
  | false =>
    go_enter Tryz.func81, Tryz.ntmps81
    go_wp2_with (go_at_call 130; refine (Itoa_go n f3 f4 _ (unhide HV)).mono ?_; rintro e w' ⟨rfl, b4⟩; have HB4 := hide b4; clear b4)
    go_ret
    exact ⟨rfl, bel_box (Below.refl _ _) (unhide HB4)⟩
end Go.Proofs.YtkgepklmhdjjnaaGreatDoor
