/-
  DERIVED. The walk of Unescape.
-/
import Derived.Test.YtclllkbljaomoaaGreatDoorShe
import Derived.Test.YtclllkbljaomoaaGreatDoorShc
import Derived.Lib.AppendIntMem
namespace Go.Proofs.YtclllkbljaomoaaGreatDoor
open Go.RowKit
set_option linter.unusedVariables false

theorem drop_at {s : List UInt8} {k : Nat} {d : UInt8} (h : s[k]? = some d) : s.drop k = d :: s.drop (k + 1) := by
  obtain ⟨h1, h2⟩ := List.getElem?_eq_some_iff.1 h
  rw [← h2]; exact List.drop_eq_getElem_cons h1

theorem hexV_lt {c : UInt8} {x : Nat} (h : hexV c = some x) : x < 16 := by
  unfold hexV at h
  split at h
  · rename_i hd
    have := digitB_iff.1 hd
    have := Option.some.inj h
    omega
  · split at h
    · have := Option.some.inj h; omega
    · split at h
      · have := Option.some.inj h; omega
      · cases h

theorem unesc_37 {a b : UInt8} {t : List UInt8} {d : UInt8} (hd : d.toNat = 37) : unesc (d :: a :: b :: t) = match hexV a, hexV b with
    | some x, some y => (unesc t).map (UInt8.ofNat (16 * x + y) :: ·)
    | _, _ => none := by
  rw [unesc, if_pos hd]
  all_goals (cases hexV a <;> cases hexV b <;> rfl)
theorem unesc_cut {t : List UInt8} {d : UInt8} (hd : d.toNat = 37) (ht : t.length < 2) : unesc (d :: t) = none := by
  rcases t with _ | ⟨a, _ | ⟨b, t⟩⟩
  · simp [unesc, hd]
  · simp [unesc, hd]
  · simp at ht; omega
theorem unesc_bad {t : List UInt8} {d : UInt8} (hd : d.toNat ≠ 37) (hp : plainB d = false) : unesc (d :: t) = none := by
  rcases t with _ | ⟨a, _ | ⟨b, t⟩⟩ <;> simp [unesc, hd, hp]

set_option maxRecDepth 100000 in
theorem or_facts : ∀ x : Nat, x < 16 → ∀ y : Nat, y < 16 → bits BinOp.or IntKind.u8 ((x : Int) * 16) (y : Int) = ((16 * x + y : Nat) : Int) := by decide

/-- The answer. -/
abbrev unA (r : Option (List UInt8)) : Value := .tuple #[sv (r.getD []), .bool r.isSome]

theorem plain_37 {d : UInt8} (h : d.toNat = 37) : plainB d = false := by
  cases hp : plainB d with
  | false => rfl
  | true => exact absurd h (plain_ne hp)

end Go.Proofs.YtclllkbljaomoaaGreatDoor

namespace Go.Proofs.YtclllkbljaomoaaGreatDoor
open Go.RowKit
set_option linter.unusedVariables false

/-- The variables of the library that are read: the powers of ten. -/
def Vars (w : World) : Prop := Lib.TabIs Tryz.prog w "internal/strconv.uint64pow10" .u64 Lib.pow10Tab ∧ True

theorem cell_kept {B : Nat} {w w' : World} (hb : Below B w w') (hB : w.heap.size ≤ B) {a : Addr} {v : Value} (hc : w.cell? a = some v) : w'.cell? a = some v :=
  (hb.cell (Nat.lt_of_lt_of_le (World.block_lt_of_cell? w a hc) hB)).trans hc

theorem Vars.below {B : Nat} {w w' : World} (h : Vars w) (hb : Below B w w') (hB : w.heap.size ≤ B) : Vars w' := by
  obtain ⟨h1, -⟩ := h
  refine ⟨?_, trivial⟩
  have hg : Tryz.prog.globalNamed "internal/strconv.uint64pow10" = some 0 := by kernel_rfl
  unfold Lib.TabIs World.var? at h1 ⊢
  rw [hg] at h1 ⊢
  simp only [Option.bind_some] at h1 ⊢
  have hlt : 0 < w.heap.size := by
    rcases Nat.lt_or_ge 0 w.heap.size with h' | h'
    · exact h'
    · rw [Array.getElem?_eq_none h'] at h1; cases h1
  rw [hb.block 0 (by omega)]
  exact h1

theorem Itoa_go (n : Int) (h0 : -9223372036854775808 ≤ n) (h1 : n ≤ 9223372036854775807) (w : World) (hv : Vars w) :
    Calls Tryz.prog 96 #[.int .i64 n] w fun e w' => e = .returned (sv (Lib.itoa n)) ∧ Below w.heap.size w w' := by
  refine (Tryz.strconv_Itoa n h0 h1 w hv.1).mono ?_
  rintro e w' ⟨rfl, k, os, rfl⟩
  exact ⟨rfl, Lib.below_grow _ _ (Nat.le_refl _) k os⟩

theorem str_cat (a b : List UInt8) : (⟨a.toArray⟩ : ByteArray) ++ ⟨b.toArray⟩ = ⟨(a ++ b).toArray⟩ := by
  apply ByteArray.ext
  simp [ByteArray.data_append]
theorem str_cat1 (c : UInt8) (b : List UInt8) : sv (c :: b) = .string ((⟨#[c]⟩ : ByteArray) ++ ⟨b.toArray⟩) := by
  rw [show (⟨#[c]⟩ : ByteArray) = ⟨[c].toArray⟩ from rfl, str_cat]; rfl

/-- A value's text. -/
def valT (f : Fld) : List UInt8 := if f.text then 39 :: esc f.s else Lib.itoa f.n

end Go.Proofs.YtclllkbljaomoaaGreatDoor
