/-
  DERIVED. The walk of plain.
-/
import Derived.Test.YtingpmgpjmlioaaGreatDoorShn
import Derived.Test.YtingpmgpjmlioaaGreatDoorShA
import Derived.Lib.Bytealg
import Derived.Deep.RegionLaw
import Derived.Laws.MakeOwn
import Derived.Deep.Cut
import Derived.Deep.CutRange
namespace Go.Proofs.YtingpmgpjmlioaaGreatDoor
open Go.RowKit
set_option linter.unusedVariables false

set_option maxRecDepth 100000 in
theorem idx_facts : ∀ n, n < 256 → decide (0 ≤ Lib.indexByte [45, 46, 95, 126] (UInt8.ofNat n)) = markB (UInt8.ofNat n) := by decide
theorem idx_mark (c : UInt8) : decide (0 ≤ Lib.indexByte [45, 46, 95, 126] c) = markB c :=
  all_bytes (fun c => decide (0 ≤ Lib.indexByte [45, 46, 95, 126] c) = markB c) idx_facts c

end Go.Proofs.YtingpmgpjmlioaaGreatDoor

namespace Go.Proofs.YtingpmgpjmlioaaGreatDoor
open Go.RowKit
set_option linter.unusedVariables false

theorem str_of {w : World} {v : Value} {l : List UInt8} (h : Sl w v l) : (convert 172 9 v).run Tryz.prog w = .ok (.string ⟨l.toArray⟩) w := by
  rcases h.cases with ⟨rfl, ao, rfl⟩ | ⟨b, off, cap, rfl, h1, h2, h3, hc⟩
  · cases ao with
    | none => exact run_convert_bytes_nil w 172 5 Tryz.underlying172 Tryz.underlying5 0 0 9 Tryz.underlying9
    | some a => exact run_convert_bytes_back w 172 9 5 a 0 [] Tryz.underlying172 Tryz.underlying5 Tryz.underlying9 (fun j hj => by simp at hj)
  · exact run_convert_bytes_back w 172 9 5 ⟨b, off, none⟩ cap l Tryz.underlying172 Tryz.underlying5 Tryz.underlying9 (fun j hj => by rw [addr_add]; exact hc j hj)

/-- make([]byte, 0, m) -/
theorem make_room (w : World) (m : Nat) (hm : m ≤ 140737488355328) : ∃ o, (Instr.makeSlice 172 (.int .i64 0) (.int .i64 (m : Int))).run Tryz.prog w = .ok (.slice (some ⟨w.heap.size, 0, none⟩) 0 m) (w.alloc o) ∧ Own (w.alloc o) w.heap.size (.slice (some ⟨w.heap.size, 0, none⟩) 0 m) [] := by
  obtain ⟨i, hi, hh⟩ := Option.map_eq_some_iff.1 Tryz.info5
  simp only [Prod.mk.injEq] at hh
  have h := run_make (P := Tryz.prog) w 172 5 i _ Tryz.underlying172 hi hh.1 .i64 .i64 0 m (by omega) (by omega) (by rw [hh.2.2]; omega) (by omega)
  rw [Int.toNat_natCast, hh.2.1, Nat.mul_one] at h
  refine ⟨_, h, ?_⟩
  refine ⟨rfl, .inr ⟨w.heap.size, m, madeCells (Value.int .u8 0).cells m, rfl, Nat.le_refl _, ?_, by simp, by unfold maxLen; omega, ?_, by simp⟩⟩
  · show (w.heap.push _)[w.heap.size]? = _
    simp
  · have := toList_madeCells_one (Value.int .u8 0) m
    have h2 := congrArg List.length this
    simp only [List.length_replicate, Array.length_toList] at h2
    rw [Nat.mul_one]
    exact h2

/-- A step of an append to a slice of one's own, in a region that draws. -/
theorem step_append_mine {ops : Array Oper} {o : Oper} {a : Act} {w : World} {K : Act → World → Prop} {Q : Exit → Act → World → Prop} {E : Prop}
    (hg : o.guard = none) (s x : Operand) (ho : o.op = .call { callee := .builtin .append, args := #[s, x], argTypes := #[172, 172] })
    (base : Nat) (v : Value) (l : List UInt8) (hs : a.eval s = v) (hown : Own w base v l)
    (ad : Addr) (n c : Nat) (m : List UInt8) (hx : a.eval x = .slice (some ad) n c) (hy : Sl w (.slice (some ad) n c) m) (hlen : l.length + m.length ≤ 140737488355328) (hbase : base ≤ w.heap.size)
    (hK : ∀ v' w', Own w' base v' (l ++ m) → Below base w w' → K (a.put o.dst v') w') :
    if Region.wanted o (yielded ops a.tmps) = true then Oper.wp Tryz.prog o a w K Q else E := by
  have hw : Region.wanted o (yielded ops a.tmps) = true := by simp [Region.wanted, hg]
  rw [if_pos hw]
  obtain ⟨i0, hi, hz0, hz1, hz2⟩ := info_parts Tryz.info5
  obtain ⟨ao, cap, e, h1, h2, h4⟩ := hy
  cases e
  have hnews : ∀ j u, (m.map bv)[j]? = some u → w.cell? (ad.add j) = some u := by
    intro j u hj
    rw [List.getElem?_map] at hj
    by_cases hjl : j < m.length
    · rw [List.getElem?_eq_getElem hjl] at hj
      simp only [Option.map_some, Option.some.injEq] at hj
      subst hj
      obtain ⟨b, off, e, _, hc⟩ := h4 (by omega)
      cases e
      rw [addr_add]; exact hc j hjl
    · rw [List.getElem?_eq_none (by omega)] at hj; cases hj
  obtain ⟨v', w', hrun, r1, r2, _⟩ := run_append_own (P := Tryz.prog) w base 172 o.type 5 i0 (.int .u8 0) 1 1 Tryz.underlying172 hi hz0 hz1 hz2 rfl (by decide) v l.length (l.map bv) hown ad m.length c (m.map bv) (by simp) hnews (bv_one m) (by unfold maxLen; omega) (by omega) hbase
  unfold Oper.wp
  simp [execOp, ho, resolve, invoke, builtin, hs, hx, hrun, Result.andThen]
  refine hK v' w' (by simpa [Own] using r1) ((Below.refl _ _).grown r2 hbase ?_)
  intro k hk
  rcases hown.2 with ⟨rfl, _⟩ | ⟨g, cap', cur, rfl, hb, _⟩
  · cases hk
  · simp only [Value.ownBlock, Option.some.injEq] at hk; omega

set_option maxRecDepth 100000 in
theorem and15_facts : ∀ n : Nat, n < 256 → bits BinOp.and IntKind.u8 (n : Int) 15 = ((n % 16 : Nat) : Int) := by decide
theorem and15 (d : UInt8) : bits BinOp.and IntKind.u8 (d.toNat : Int) 15 = ((d.toNat % 16 : Nat) : Int) := and15_facts d.toNat d.toNat_lt
theorem digit_at : ∀ v, v < 16 → ∀ hb : v < (⟨#[48, 49, 50, 51, 52, 53, 54, 55, 56, 57, 65, 66, 67, 68, 69, 70]⟩ : ByteArray).size, (⟨#[48, 49, 50, 51, 52, 53, 54, 55, 56, 57, 65, 66, 67, 68, 69, 70]⟩ : ByteArray)[v]'hb = hexD v := by decide

theorem esc_take {s : List UInt8} {k : Nat} {d : UInt8} (h : s[k]? = some d) : esc (s.take (k + 1)) = esc (s.take k) ++ escB d := by
  rw [List.take_add_one, h]; simp [esc]
theorem escB_plain {d : UInt8} (h : plainB d = true) : escB d = [d] := by simp [escB, h]
theorem escB_other {d : UInt8} (h : plainB d = false) : escB d = [37, hexD (d.toNat / 16), hexD (d.toNat % 16)] := by simp [escB, h]

end Go.Proofs.YtingpmgpjmlioaaGreatDoor
