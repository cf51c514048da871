/-
  DERIVED. The walks of list's add, remove and use, at one instance.
-/
import Derived.Test.YtmhlfbgchhmffaaCmem
import Derived.Deep.QuietTactic
import Derived.BigQuiet
namespace Go.Proofs.Ytmhlfbgchhmffaa.Is
open Go.RowKit Go.Maps Go.Proofs.Ytmhlfbgchhmffaa
set_option linter.unusedVariables false

abbrev T := Th Int ByteArray
abbrev kv : Int → Value := fun k => .int .i64 k
abbrev vv : ByteArray → Value := fun v => .string v
abbrev LsAt (w : World) (l : Nat) (L : List T) : Prop := Ls kv vv 125 119 w l L

theorem cell_t {w : World} {t : T} {p n : Option Nat} (h : w.heap[t.b]? = some (.cells (tcells kv vv t p n) 125 (0, 0))) :
    w.cell? ⟨t.b, 0, none⟩ = some (.int .i64 t.k) ∧ w.cell? ⟨t.b, 1, none⟩ = some (.string t.v) ∧ w.cell? ⟨t.b, 2, none⟩ = some (.bool t.d) ∧ w.cell? ⟨t.b, 3, none⟩ = some (.int .i64 (t.p : Int)) ∧ w.cell? ⟨t.b, 4, none⟩ = some (ptr p) ∧ w.cell? ⟨t.b, 5, none⟩ = some (ptr n) :=
  ⟨(cell_of_row _ _ _ _ _ _ h).trans rfl, (cell_of_row _ _ _ _ _ _ h).trans rfl, (cell_of_row _ _ _ _ _ _ h).trans rfl, (cell_of_row _ _ _ _ _ _ h).trans rfl, (cell_of_row _ _ _ _ _ _ h).trans rfl, (cell_of_row _ _ _ _ _ _ h).trans rfl⟩
theorem froz {w : World} {b : Nat} {C : Array Value} {t : TypeId} (h : w.heap[b]? = some (.cells C t (0, 0))) (i : Nat) : w.frozen? ⟨b, i, none⟩ = false := by simp [World.frozen?, h]
theorem cell_l {w : World} {l : Nat} {L : List T} (h : LsAt w l L) :
    w.cell? ⟨l, 0, none⟩ = some (ptr (hd L none)) ∧ w.cell? ⟨l, 1, none⟩ = some (ptr (lst none L)) ∧ w.cell? ⟨l, 2, none⟩ = some (.int .i64 (L.length : Int)) :=
  ⟨(cell_of_row _ _ _ _ _ _ h.blk).trans rfl, (cell_of_row _ _ _ _ _ _ h.blk).trans rfl, (cell_of_row _ _ _ _ _ _ h.blk).trans rfl⟩

/-- add, the list being empty. -/
theorem add_empty (w : World) (l tb : Nat) (q4 q5 q0 : Value) (hne : tb ≠ l)
    (c4 : w.cell? ⟨tb, 4, none⟩ = some q4) (c5 : w.cell? ⟨tb, 5, none⟩ = some q5) (l0 : w.cell? ⟨l, 0, none⟩ = some q0) (l1 : w.cell? ⟨l, 1, none⟩ = some (.pointer none)) (l2 : w.cell? ⟨l, 2, none⟩ = some (.int .i64 0))
    (ft : ∀ i, w.frozen? ⟨tb, i, none⟩ = false) (fl : ∀ i, w.frozen? ⟨l, i, none⟩ = false) :
    Calls Try.prog 84 #[.pointer (some ⟨l, 0, none⟩), .pointer (some ⟨tb, 0, none⟩)] w fun e w' => e = .returned (.tuple #[]) ∧
      w' = ((((w.setCell ⟨tb, 4, none⟩ (.pointer none)).setCell ⟨tb, 5, none⟩ (.pointer none)).setCell ⟨l, 0, none⟩ (.pointer (some ⟨tb, 0, none⟩))).setCell ⟨l, 1, none⟩ (.pointer (some ⟨tb, 0, none⟩))).setCell ⟨l, 2, none⟩ (.int .i64 1) := by
  have hne' : l ≠ tb := fun e => hne e.symm
  go_enter Try.func84, Try.ntmps84
  go_wp2
  go_end0
  exact ⟨rfl, rfl⟩
/-- .. and where it is not. -/
theorem add_some (w : World) (l tb xb : Nat) (n : Nat) (q4 q5 qx : Value) (hne : tb ≠ l) (hx1 : xb ≠ l) (hx2 : xb ≠ tb) (hn : n ≤ 65536)
    (c4 : w.cell? ⟨tb, 4, none⟩ = some q4) (c5 : w.cell? ⟨tb, 5, none⟩ = some q5) (x5 : w.cell? ⟨xb, 5, none⟩ = some qx) (l1 : w.cell? ⟨l, 1, none⟩ = some (.pointer (some ⟨xb, 0, none⟩))) (l2 : w.cell? ⟨l, 2, none⟩ = some (.int .i64 (n : Int)))
    (ft : ∀ i, w.frozen? ⟨tb, i, none⟩ = false) (fl : ∀ i, w.frozen? ⟨l, i, none⟩ = false) (fx : ∀ i, w.frozen? ⟨xb, i, none⟩ = false) :
    Calls Try.prog 84 #[.pointer (some ⟨l, 0, none⟩), .pointer (some ⟨tb, 0, none⟩)] w fun e w' => e = .returned (.tuple #[]) ∧
      w' = ((((w.setCell ⟨tb, 4, none⟩ (.pointer (some ⟨xb, 0, none⟩))).setCell ⟨tb, 5, none⟩ (.pointer none)).setCell ⟨xb, 5, none⟩ (.pointer (some ⟨tb, 0, none⟩))).setCell ⟨l, 1, none⟩ (.pointer (some ⟨tb, 0, none⟩))).setCell ⟨l, 2, none⟩ (.int .i64 ((n : Int) + 1)) := by
  have hne' : l ≠ tb := fun e => hne e.symm
  have hx1' : l ≠ xb := fun e => hx1 e.symm
  have hx2' : tb ≠ xb := fun e => hx2 e.symm
  have hni : (n : Int) ≤ 65536 := by omega
  go_enter Try.func84, Try.ntmps84
  go_wp2
  go_end0
  exact ⟨rfl, rfl⟩

/-- What remove does to the older one's side, and to the newer one's. -/
theorem remove_only (w : World) (l tb n : Nat) (q0 q1 : Value) (hne : tb ≠ l) (hn : n ≤ 65536)
    (c4 : w.cell? ⟨tb, 4, none⟩ = some (.pointer none)) (c5 : w.cell? ⟨tb, 5, none⟩ = some (.pointer none)) (l0 : w.cell? ⟨l, 0, none⟩ = some q0) (l1 : w.cell? ⟨l, 1, none⟩ = some q1) (l2 : w.cell? ⟨l, 2, none⟩ = some (.int .i64 ((n : Int) + 1)))
    (ft : ∀ i, w.frozen? ⟨tb, i, none⟩ = false) (fl : ∀ i, w.frozen? ⟨l, i, none⟩ = false) :
    Calls Try.prog 83 #[.pointer (some ⟨l, 0, none⟩), .pointer (some ⟨tb, 0, none⟩)] w fun e w' => e = .returned (.tuple #[]) ∧
      w' = ((w.setCell ⟨l, 0, none⟩ (.pointer none)).setCell ⟨l, 1, none⟩ (.pointer none)).setCell ⟨l, 2, none⟩ (.int .i64 (n : Int)) := by
  have hne' : l ≠ tb := fun e => hne e.symm
  have hni : (n : Int) ≤ 65536 := by omega
  go_enter Try.func83, Try.ntmps83
  go_wp2
  go_end0
  exact ⟨rfl, rfl⟩
theorem remove_first (w : World) (l tb yb n : Nat) (q0 qy : Value) (hne : tb ≠ l) (hy1 : yb ≠ l) (hy2 : yb ≠ tb) (hn : n ≤ 65536)
    (c4 : w.cell? ⟨tb, 4, none⟩ = some (.pointer none)) (c5 : w.cell? ⟨tb, 5, none⟩ = some (.pointer (some ⟨yb, 0, none⟩))) (y4 : w.cell? ⟨yb, 4, none⟩ = some qy) (l0 : w.cell? ⟨l, 0, none⟩ = some q0) (l2 : w.cell? ⟨l, 2, none⟩ = some (.int .i64 ((n : Int) + 1)))
    (ft : ∀ i, w.frozen? ⟨tb, i, none⟩ = false) (fl : ∀ i, w.frozen? ⟨l, i, none⟩ = false) (fy : ∀ i, w.frozen? ⟨yb, i, none⟩ = false) :
    Calls Try.prog 83 #[.pointer (some ⟨l, 0, none⟩), .pointer (some ⟨tb, 0, none⟩)] w fun e w' => e = .returned (.tuple #[]) ∧
      ∃ k, w' = (((w.setCell ⟨l, 0, none⟩ (.pointer (some ⟨yb, 0, none⟩))).setCell ⟨yb, 4, none⟩ (.pointer none)).setCell ⟨l, 2, none⟩ (.int .i64 (n : Int))).drewN k := by
  have hne' : l ≠ tb := fun e => hne e.symm
  have hy1' : l ≠ yb := fun e => hy1 e.symm
  have hy2' : tb ≠ yb := fun e => hy2 e.symm
  have hni : (n : Int) ≤ 65536 := by omega
  go_enter Try.func83, Try.ntmps83
  go_wp2
  go_region
  all_goals
    go_wp2
    go_end0
    exact ⟨rfl, 1, rfl⟩
theorem remove_last (w : World) (l tb xb n : Nat) (q1 qx : Value) (hne : tb ≠ l) (hx1 : xb ≠ l) (hx2 : xb ≠ tb) (hn : n ≤ 65536)
    (c4 : w.cell? ⟨tb, 4, none⟩ = some (.pointer (some ⟨xb, 0, none⟩))) (c5 : w.cell? ⟨tb, 5, none⟩ = some (.pointer none)) (x5 : w.cell? ⟨xb, 5, none⟩ = some qx) (l1 : w.cell? ⟨l, 1, none⟩ = some q1) (l2 : w.cell? ⟨l, 2, none⟩ = some (.int .i64 ((n : Int) + 1)))
    (ft : ∀ i, w.frozen? ⟨tb, i, none⟩ = false) (fl : ∀ i, w.frozen? ⟨l, i, none⟩ = false) (fx : ∀ i, w.frozen? ⟨xb, i, none⟩ = false) :
    Calls Try.prog 83 #[.pointer (some ⟨l, 0, none⟩), .pointer (some ⟨tb, 0, none⟩)] w fun e w' => e = .returned (.tuple #[]) ∧
      ∃ k, w' = (((w.setCell ⟨xb, 5, none⟩ (.pointer none)).setCell ⟨l, 1, none⟩ (.pointer (some ⟨xb, 0, none⟩))).setCell ⟨l, 2, none⟩ (.int .i64 (n : Int))).drewN k := by
  have hne' : l ≠ tb := fun e => hne e.symm
  have hx1' : l ≠ xb := fun e => hx1 e.symm
  have hx2' : tb ≠ xb := fun e => hx2 e.symm
  have hni : (n : Int) ≤ 65536 := by omega
  go_enter Try.func83, Try.ntmps83
  go_wp2
  go_region
  all_goals
    go_wp2
    go_end0
    exact ⟨rfl, 1, rfl⟩
theorem remove_mid (w : World) (l tb xb yb n : Nat) (qx qy : Value) (hne : tb ≠ l) (hx1 : xb ≠ l) (hx2 : xb ≠ tb) (hy1 : yb ≠ l) (hy2 : yb ≠ tb) (hxy : xb ≠ yb) (hn : n ≤ 65536)
    (c4 : w.cell? ⟨tb, 4, none⟩ = some (.pointer (some ⟨xb, 0, none⟩))) (c5 : w.cell? ⟨tb, 5, none⟩ = some (.pointer (some ⟨yb, 0, none⟩))) (x5 : w.cell? ⟨xb, 5, none⟩ = some qx) (y4 : w.cell? ⟨yb, 4, none⟩ = some qy) (l2 : w.cell? ⟨l, 2, none⟩ = some (.int .i64 ((n : Int) + 1)))
    (ft : ∀ i, w.frozen? ⟨tb, i, none⟩ = false) (fl : ∀ i, w.frozen? ⟨l, i, none⟩ = false) (fx : ∀ i, w.frozen? ⟨xb, i, none⟩ = false) (fy : ∀ i, w.frozen? ⟨yb, i, none⟩ = false) :
    Calls Try.prog 83 #[.pointer (some ⟨l, 0, none⟩), .pointer (some ⟨tb, 0, none⟩)] w fun e w' => e = .returned (.tuple #[]) ∧
      ∃ k, w' = (((w.setCell ⟨xb, 5, none⟩ (.pointer (some ⟨yb, 0, none⟩))).setCell ⟨yb, 4, none⟩ (.pointer (some ⟨xb, 0, none⟩))).setCell ⟨l, 2, none⟩ (.int .i64 (n : Int))).drewN k := by
  have hne' : l ≠ tb := fun e => hne e.symm
  have hx1' : l ≠ xb := fun e => hx1 e.symm
  have hx2' : tb ≠ xb := fun e => hx2 e.symm
  have hy1' : l ≠ yb := fun e => hy1 e.symm
  have hy2' : tb ≠ yb := fun e => hy2 e.symm
  have hyx : yb ≠ xb := fun e => hxy e.symm
  have hni : (n : Int) ≤ 65536 := by omega
  go_enter Try.func83, Try.ntmps83
  go_wp2
  go_region
  all_goals
    go_wp2
    go_region
  all_goals
    go_wp2
    go_end0
    exact ⟨rfl, 2, rfl⟩
end Go.Proofs.Ytmhlfbgchhmffaa.Is
