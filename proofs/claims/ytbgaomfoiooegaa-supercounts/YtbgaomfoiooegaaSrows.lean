/-
  DERIVED. A slice of slices of bytes that came in.
-/
import Derived.Test.YtbgaomfoiooegaaSfuse
import Derived.Deep.SlicePairs
namespace Go.Proofs.Ytbgaomfoiooegaa
open Go.ChangeShapes Go.WideShapes Go.ChangeAt Go.RowKit
set_option linter.unusedVariables false

/-- A slice of slices of bytes. -/
def Sls (w : World) (v : Value) (ls : List (List UInt8)) : Prop :=
  ∃ ao cap, v = .slice ao ls.length cap ∧ ls.length ≤ 9223372036854775807 ∧ (0 < ls.length → ∃ b off, ao = some ⟨b, off, none⟩ ∧ b < w.heap.size ∧ ∀ i, (h : i < ls.length) → ∃ a c, w.cell? ⟨b, off + i, none⟩ = some (.slice a ls[i].length c) ∧ Sl w (.slice a ls[i].length c) ls[i])

theorem Try.cellsBytes : Try.prog.cellsOf 22 = 1 := by kernel_rfl
theorem idx_rows (ao : Option Addr) (n cap pb off j : Nat) (h : ao = some ⟨pb, off, none⟩) (hj : j < n) (W : World) : (Instr.indexAt 52 (.slice ao n cap) (.int .i64 (j : Nat))).run Try.prog W = .ok (.pointer (some ⟨pb, off + j, none⟩)) W := by
  subst h
  have hu : Try.prog.underlying 52 = some (.slice (Try.prog.elem 52)) := by kernel_rfl
  rw [run_indexAt_slice (h := hu), if_pos (by omega)]
  have e : Try.prog.elem 52 = 22 := by kernel_rfl
  have e2 : (sizeOf 22).run Try.prog W = .ok 1 W := by kernel_rfl
  rw [e, e2, Result.andThen_ok, Nat.mul_one, Int.toNat_natCast, addr_add]

theorem open_rows {H : Type} {enc : TypeId × Value → H} {W : World} {a : Option Addr} {n c : Nat} {d : DataW H} {p : List MemPlace}
    (h : DataW.Trod enc Try.prog W 0 (fun _ => true) true 52 (.slice a n c) d p) : ∃ ls, Sls W (.slice a n c) ls := by
  obtain ⟨fuel, hf⟩ := h
  rcases Go.Deep.open_slice1 Try.underlying52 Try.cellsBytes hf with ⟨hcs, hx⟩ | ⟨x, len, cap, m, k, V, D, P, hcs, _, hl, hm, hz, hx, hcell⟩
  · simp [Value.cells] at hcs
    obtain ⟨rfl, rfl, rfl⟩ := hcs
    exact ⟨[], none, 0, rfl, by simp, fun h => by simp at h⟩
  · simp [Value.cells] at hcs
    obtain ⟨rfl, rfl, rfl⟩ := hcs
    rw [if_pos rfl] at hz
    subst hz
    unfold maxLen at hm
    have hel : ∀ i, i < n → ∃ l : List UInt8, ∃ a' c', W.cell? (x.add i) = some (.slice a' l.length c') ∧ Sl W (.slice a' l.length c') l := by
      intro i hi
      obtain ⟨c0, e1⟩ := hcell i (by omega)
      have hV1 : ∃ a' n' c', V i = .slice a' n' c' := by
        rcases Go.Deep.open_slice1 Try.underlying22 Try.cells5 e1 with ⟨h, _⟩ | ⟨a', n', c', _, _, _, _, _, h, _⟩
        · simp only [List.cons.injEq, and_true] at h; exact ⟨_, _, _, h⟩
        · simp only [List.cons.injEq, and_true] at h; exact ⟨_, _, _, h⟩
      obtain ⟨a', n', c', hV⟩ := hV1
      rw [hV] at e1 c0
      obtain ⟨l, hl, _⟩ := open_bytes (p := P i) (d := D i) ⟨k, e1⟩
      obtain rfl : n' = l.length := hl.lenEq
      exact ⟨l, a', c', c0, hl⟩
    obtain ⟨F, hF⟩ := Go.Deep.choose_lt hel
    have hlen : ((List.range n).map F).length = n := by simp
    refine ⟨(List.range n).map F, some x, _, by rw [hlen], by rw [hlen]; omega, fun hz => ?_⟩
    rw [hlen] at hz
    obtain ⟨a0, c0, h0, _⟩ := hF 0 (by omega)
    have hsp := World.cell?_spot h0
    obtain ⟨b, off, sp⟩ := x
    have hsp' : sp = none := by
      cases sp with
      | none => rfl
      | some k => simp [Addr.add] at hsp
    subst hsp'
    refine ⟨b, off, rfl, ?_, fun i hi => ?_⟩
    · rw [addr_add] at h0
      exact World.block_lt_of_cell? W ⟨b, off + 0, none⟩ h0
    · have hi' : i < n := by rw [hlen] at hi; exact hi
      obtain ⟨a', c', q0, q1⟩ := hF i hi'
      rw [addr_add] at q0
      have e : ((List.range n).map F)[i] = F i := by simp
      rw [e]
      exact ⟨a', c', q0, q1⟩
end Go.Proofs.Ytbgaomfoiooegaa
