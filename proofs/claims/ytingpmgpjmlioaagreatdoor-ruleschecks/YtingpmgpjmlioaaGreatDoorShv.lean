/-
  DERIVED. Package variables, Itoa, valueText.
-/
import Derived.Test.YtingpmgpjmlioaaGreatDoorShc
import Derived.Lib.AppendIntMem
namespace Go.Proofs.YtingpmgpjmlioaaGreatDoor
open Go.RowKit
set_option linter.unusedVariables false

/-- The variables of the library that are read: the powers of ten. -/
def Vars (w : World) : Prop := Lib.TabIs Tryz.prog w "internal/strconv.uint64pow10" .u64 Lib.pow10Tab ∧ True

theorem cell_kept {B : Nat} {w w' : World} (hb : Below B w w') (hB : w.heap.size ≤ B) {a : Addr} {v : Value} (hc : w.cell? a = some v) : w'.cell? a = some v :=
  (hb.cell (Nat.lt_of_lt_of_le (World.block_lt_of_cell? w a hc) hB)).trans hc

theorem Vars.below {B : Nat} {w w' : World} (h : Vars w) (hb : Below B w w') (hB : w.heap.size ≤ B) : Vars w' := by
  obtain ⟨h1, -⟩ := h
  refine ⟨?_, trivial⟩
  have hg : Tryz.prog.globalNamed "internal/strconv.uint64pow10" = some 1 := by kernel_rfl
  unfold Lib.TabIs World.var? at h1 ⊢
  rw [hg] at h1 ⊢
  simp only [Option.bind_some] at h1 ⊢
  have hlt : 1 < w.heap.size := by
    rcases Nat.lt_or_ge 1 w.heap.size with h' | h'
    · exact h'
    · rw [Array.getElem?_eq_none h'] at h1; cases h1
  rw [hb.block 1 (by omega)]
  exact h1

theorem Itoa_go (n : Int) (h0 : -9223372036854775808 ≤ n) (h1 : n ≤ 9223372036854775807) (w : World) (hv : Vars w) :
    Calls Tryz.prog 109 #[.int .i64 n] w fun e w' => e = .returned (sv (Lib.itoa n)) ∧ Below w.heap.size w w' := by
  refine (Tryz.strconv_Itoa n h0 h1 w hv.1).mono ?_
  rintro e w' ⟨rfl, k, os, rfl⟩
  exact ⟨rfl, Lib.below_grow _ _ (Nat.le_refl _) k os⟩

theorem str_cat (a b : List UInt8) : (⟨a.toArray⟩ : ByteArray) ++ ⟨b.toArray⟩ = ⟨(a ++ b).toArray⟩ := by
  apply ByteArray.ext
  simp [ByteArray.data_append]
theorem str_cat1 (c : UInt8) (b : List UInt8) : sv (c :: b) = .string ((⟨#[c]⟩ : ByteArray) ++ ⟨b.toArray⟩) := by
  rw [show (⟨#[c]⟩ : ByteArray) = ⟨[c].toArray⟩ from rfl, str_cat]; rfl

/-- A value's text. -/
def valT (f : Fld) : List UInt8 := if f.text then 39 :: esc f.s else Lib.itoa f.n

end Go.Proofs.YtingpmgpjmlioaaGreatDoor
